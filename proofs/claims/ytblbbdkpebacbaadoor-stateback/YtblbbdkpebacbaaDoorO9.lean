/- Contracts of the law: owners, clear. -/
import Derived.Test.YtblbbdkpebacbaaDoorO8
namespace Go.Proofs.YtblbbdkpebacbaaDoor
open Go.RowKit Fl
set_option maxRecDepth 100000

/-- What the law's loops keep. -/
structure OwSt (w : World) (n0 n1 : Nat) (cl fd : Array Value) (t : TypeId) (v : Value) (i : Nat) (xs : List Value) (W : World) : Prop where
  own : W.ownsRow w.heap.size t 1 v i xs
  bel : Below w.heap.size w W
  row : Row W n0 39 cl
  rof : Row W n1 30 fd
theorem OwSt.put {w : World} {n0 n1 : Nat} {cl fd : Array Value} {t : TypeId} {v v' : Value} {i : Nat} {xs : List Value} {W W' : World} {z : Value} (h : OwSt w n0 n1 cl fd t v i xs W) (h3 : t ≠ 39) (h4 : t ≠ 30)
    (hown : W'.ownsRow w.heap.size t 1 v' (i + 1) (xs ++ [z])) (hg : (W.alloc (.cells #[z] t)).grownBy W' v.ownBlock) : OwSt w n0 n1 cl fd t v' (i + 1) (xs ++ [z]) W' := by
  have hs := h.bel.size
  have hba : Below w.heap.size w (W.alloc (.cells #[z] t)) := h.bel.alloc hs _
  exact ⟨hown, hba.grown hg (by have := hba.size; omega) (fun kk hk => (h.own.lt kk hk).1), (h.row.alloc _).grown hg (own_ne h.own h.row h3), (h.rof.alloc _).grown hg (own_ne h.own h.rof h4)⟩

theorem ownersL_succ (f : Fd) (i : Nat) : ivals (ownersL f (i + 1)) = ivals (ownersL f i) ++ [.int .i64 (ownO f i)] := by
  unfold ownersL; rw [outO_succ, ivals_snoc']
theorem clearL_succ (f : Fd) (i : Nat) : cvals (clearL f (i + 1)) = cvals (clearL f i) ++ [.bool (clearB f i)] := by
  unfold clearL cvals; rw [List.range_succ]; simp
theorem Tryd.info4n : (Tryd.prog.info? 4).map (fun i => (i.zero, i.size, i.bytes)) = some (some (.bool false), 1, 1) := by kernel_rfl

def RetRd (xs : List Value) (w : World) (e : Ending) (w' : World) : Prop := ∃ A c, e = .returned (.slice A xs.length c) ∧ Rd w' w'.heap.size (.slice A xs.length c) xs ∧ Below w.heap.size w w'

set_option maxHeartbeats 4000000 in
theorem owners_any (w : World) (vl : Value) (L : Lay) (Ao Ac Av : Option Addr) (no nc nv co cc cv : Nat) (f : Fd) (hlay : LayV w w.heap.size vl L) (hL : Fits L) (h : Rd w w.heap.size (.slice Ao no co) (bvals f.own)) (hn : f.own.length = no) (hok : FdOk f) :
    Calls Tryd.prog 17 #[vl, .agg (fcells Ao Ac Av no nc nv co cc cv)] w (RetRd (ivals (ownersL f L.parts.length)) w) := by
  obtain ⟨A0, k0, c0, A1, k1, c1, A2, k2, c2, A3, k3, c3, A4, k4, c4, t0, t1, t2, t3, t4, hvl, _, _, hk2, _⟩ := hlay.lens
  subst hvl
  have hb0 := below2 w (.cells #[.slice A0 k0 c0, .slice A1 k1 c1, .slice A2 k2 c2, .slice A3 k3 c3, .slice A4 k4 c4, .int .i64 t0, .int .i64 t1, .int .i64 t2, .int .i64 t3, .int .i64 t4] 39) (.cells (fcells Ao Ac Av no nc nv co cc cv) 30)
  have hr0 := (Row.new w 39 #[.slice A0 k0 c0, .slice A1 k1 c1, .slice A2 k2 c2, .slice A3 k3 c3, .slice A4 k4 c4, .int .i64 t0, .int .i64 t1, .int .i64 t2, .int .i64 t3, .int .i64 t4]).alloc (.cells (fcells Ao Ac Av no nc nv co cc cv) 30)
  have hr1 := Row.new (w.alloc (.cells #[.slice A0 k0 c0, .slice A1 k1 c1, .slice A2 k2 c2, .slice A3 k3 c3, .slice A4 k4 c4, .int .i64 t0, .int .i64 t1, .int .i64 t2, .int .i64 t3, .int .i64 t4] 39)) 30 (fcells Ao Ac Av no nc nv co cc cv)
  rw [World.size_alloc] at hr1
  have HS0 : Hid (OwSt w w.heap.size (w.heap.size + 1) #[.slice A0 k0 c0, .slice A1 k1 c1, .slice A2 k2 c2, .slice A3 k3 c3, .slice A4 k4 c4, .int .i64 t0, .int .i64 t1, .int .i64 t2, .int .i64 t3, .int .i64 t4] (fcells Ao Ac Av no nc nv co cc cv) 3 (.slice none 0 0) 0 (ivals (ownersL f 0)) ((w.alloc (.cells #[.slice A0 k0 c0, .slice A1 k1 c1, .slice A2 k2 c2, .slice A3 k3 c3, .slice A4 k4 c4, .int .i64 t0, .int .i64 t1, .int .i64 t2, .int .i64 t3, .int .i64 t4] 39)).alloc (.cells (fcells Ao Ac Av no nc nv co cc cv) 30))) :=
    ⟨World.ownsRow_nil _ _ _ _, hb0, hr0, hr1⟩
  have HO := Lib.hid h; have HK := Lib.hid hok; have HN := Lib.hid hn
  have hk100 : k2 ≤ 100 := by rw [← hk2]; exact hL.p
  rw [hk2]
  clear hlay hb0 hL h hok hr0 hr1 hk2 hn
  obtain ⟨i3, hi3, hz30, hz31, hz32⟩ := info_parts Tryd.info3n
  go_enter Tryd.func17, Tryd.ntmps17
  go_upto_region 1 with (fail)
  obtain ⟨n0, hn0⟩ : ∃ n, n = w.heap.size := ⟨_, rfl⟩
  obtain ⟨n1, hn1⟩ : ∃ n, n = n0 + 1 := ⟨_, rfl⟩
  have HS1 : Hid (OwSt w n0 n1 #[.slice A0 k0 c0, .slice A1 k1 c1, .slice A2 k2 c2, .slice A3 k3 c3, .slice A4 k4 c4, .int .i64 t0, .int .i64 t1, .int .i64 t2, .int .i64 t3, .int .i64 t4] (fcells Ao Ac Av no nc nv co cc cv) 3 (.slice none 0 0) 0 (ivals (ownersL f 0)) ((w.alloc (.cells #[.slice A0 k0 c0, .slice A1 k1 c1, .slice A2 k2 c2, .slice A3 k3 c3, .slice A4 k4 c4, .int .i64 t0, .int .i64 t1, .int .i64 t2, .int .i64 t3, .int .i64 t4] 39)).alloc (.cells (fcells Ao Ac Av no nc nv co cc cv) 30))) := by
    rw [hn1, hn0]; exact HS0.out
  rw [← hn0]
  rw [← hn1]
  clear hn0 hn1 HS0
  generalize (w.alloc (.cells #[.slice A0 k0 c0, .slice A1 k1 c1, .slice A2 k2 c2, .slice A3 k3 c3, .slice A4 k4 c4, .int .i64 t0, .int .i64 t1, .int .i64 t2, .int .i64 t3, .int .i64 t4] 39)).alloc (.cells (fcells Ao Ac Av no nc nv co cc cv) 30) = W0 at *
  go_wp2_with fail
  go_loopw [5, 6] (fun v9 k wr => ∃ i : Nat, i ≤ k2 ∧ k = .int .i64 i ∧ Hid (OwSt w n0 n1 #[.slice A0 k0 c0, .slice A1 k1 c1, .slice A2 k2 c2, .slice A3 k3 c3, .slice A4 k4 c4, .int .i64 t0, .int .i64 t1, .int .i64 t2, .int .i64 t3, .int .i64 t4] (fcells Ao Ac Av no nc nv co cc cv) 3 v9 i (ivals (ownersL f i)) wr)) (fun _ k _ => k2 - (intOf k).toNat)
  case atStart => exact ⟨0, Nat.zero_le _, rfl, HS1.out⟩
  case round =>
    obtain ⟨i, hi, rfl, HJ⟩ := hrel
    obtain ⟨A9, c9, hv9⟩ := own_slice HJ.out.own
    subst hv9
    clear HS1
    have l2 := HJ.out.row.cell 2
    have f0 := HJ.out.rof.cell 0
    simp only [List.getElem?_toArray, List.getElem?_cons_zero, List.getElem?_cons_succ] at l2 f0
    by_cases hlt : i < k2
    · have hli : (i : Int) < (k2 : Int) := by omega
      have HNX : Hid (∀ (v' : Value) (W' : World), W'.ownsRow w.heap.size 3 1 v' (i + 1) (ivals (ownersL f i) ++ [.int .i64 (ownO f i)]) → (wr.alloc (.cells #[.int .i64 (ownO f i)] 3)).grownBy W' (Value.slice A9 i c9).ownBlock → OwSt w n0 n1 #[.slice A0 k0 c0, .slice A1 k1 c1, .slice A2 k2 c2, .slice A3 k3 c3, .slice A4 k4 c4, .int .i64 t0, .int .i64 t1, .int .i64 t2, .int .i64 t3, .int .i64 t4] (fcells Ao Ac Av no nc nv co cc cv) 3 v' (i + 1) (ivals (ownersL f (i + 1))) W') := fun v' W' h1 h2 => by
        rw [ownersL_succ]; exact HJ.out.put (by decide) (by decide) h1 h2
      have ho := ownO_ok f i
      have HWO : Hid (ownO f i = ((f.own.getD i 0 % 5 : Nat) : Int) - 2) := rfl
      obtain ⟨z, hz⟩ : ∃ z, ownO f i = z := ⟨_, rfl⟩
      rw [hz] at HNX HWO ho
      clear hz
      by_cases hio : i < no
      · have hioi : (i : Int) < (no : Int) := by omega
        have hiw : i < f.own.length := by have := HN.out; omega
        obtain ⟨bo, oo, hAo, hbo, qo⟩ := (HO.out.below HJ.out.bel (Nat.le_refl _)).at (i := i) (u := .int .u8 ((f.own.getD i 0 : Nat) : Int)) (by simp [bvals, hiw, List.getD])
        subst hAo
        have hx5 : ((f.own.getD i 0 : Nat) : Int).tmod 5 = ((f.own.getD i 0 % 5 : Nat) : Int) := by rw [Int.tmod_eq_emod_of_nonneg (by omega)]; omega
        generalize f.own.getD i 0 = x at *
        obtain ⟨X, hX⟩ : ∃ X, x % 5 = X := ⟨_, rfl⟩
        rw [hX] at hx5 HWO
        have hX5 : X < 5 := by omega
        have hzz : z = (X : Int) - 2 := HWO.out
        subst hzz
        clear hX HWO
        go_wp2_with (at_builtin; refine wpList_append_own_at _ rfl (.tmp 27) (.tmp 30) 47 rfl w.heap.size 3 i3 (.int .i64 0) 1 8 Tryd.underlying47 hi3 hz30 hz31 hz32 rfl (by decide) _ _ _ rfl (HJ.out.own.alloc _) ⟨wr.heap.size, 0, none⟩ 1 1 [.int .i64 ((X : Int) - 2)] rfl rfl (one_new wr 3 _) (one_cell rfl) (by unfold maxLen; omega) (by omega) (by have := HJ.out.bel.size; simp; omega) ?_)
        intro v7 w7 hown7 hgrow7 _ _
        have HNY := Lib.hid (HNX.out _ _ hown7 hgrow7)
        clear hown7 hgrow7
        go_wp2_with fail
        go_roundw
        case rel => exact ⟨i + 1, by omega, by go_num, HNY.out⟩
        case measure => simp [intOf]; omega
      · have hioi : ¬ (i : Int) < (no : Int) := by omega
        have hiw : ¬ i < f.own.length := by have := HN.out; omega
        have hg0 : f.own.getD i 0 = 0 := by simp [List.getD, hiw]
        have hzz : z = -2 := by rw [HWO.out, hg0]; rfl
        subst hzz
        clear HWO hg0
        go_wp2_with (at_builtin; refine wpList_append_own_at _ rfl (.tmp 27) (.tmp 30) 47 rfl w.heap.size 3 i3 (.int .i64 0) 1 8 Tryd.underlying47 hi3 hz30 hz31 hz32 rfl (by decide) _ _ _ rfl (HJ.out.own.alloc _) ⟨wr.heap.size, 0, none⟩ 1 1 [.int .i64 (-2)] rfl rfl (one_new wr 3 _) (one_cell rfl) (by unfold maxLen; omega) (by omega) (by have := HJ.out.bel.size; simp; omega) ?_)
        intro v7 w7 hown7 hgrow7 _ _
        have HNY := Lib.hid (HNX.out _ _ hown7 hgrow7)
        clear hown7 hgrow7
        go_wp2_with fail
        go_roundw
        case rel => exact ⟨i + 1, by omega, by go_num, HNY.out⟩
        case measure => simp [intOf]; omega
    · have hin : i = k2 := by omega
      subst hin
      go_wp2_with fail
      go_ret
      have hln : (ivals (ownersL f i)).length = i := by simp [ivals, ownersL_len]
      refine ⟨A9, c9, by rw [hln]; rfl, ?_, HJ.out.bel⟩
      rw [hln]
      exact Rd.of_own HJ.out.own
end Go.Proofs.YtblbbdkpebacbaaDoor
