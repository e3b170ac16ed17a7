/- Contracts: Ended; Start and Ended of no table. -/
import Derived.Test.YtkhceigfmaajdaaT8
namespace Go.Proofs.Ytkhceigfmaajdaa
open Go.RowKit
set_option maxRecDepth 100000

def endL (l : List (Int × Int)) (now : Int) : List (Int × Int) := l.filter fun p => decide (p.2 ≤ now)
def restL (l : List (Int × Int)) (now : Int) : List (Int × Int) := l.filter fun p => !decide (p.2 ≤ now)

/-- Their numbers. -/
def idsTo (l : List (Int × Int)) (i : Nat) : List Int := (l.take i).map Prod.fst

/-- The first 'i' have ended, the others haven't. -/
def Done (l : List (Int × Int)) (now : Int) (i : Nat) : Prop := (∀ j (hj : j < l.length), j < i → l[j].2 ≤ now) ∧ ∀ j (hj : j < l.length), i ≤ j → ¬ l[j].2 ≤ now
theorem Done.eq {l : List (Int × Int)} {now : Int} {i : Nat} (h : Done l now i) : l.take i = endL l now ∧ l.drop i = restL l now := by
  have e : l = l.take i ++ l.drop i := (List.take_append_drop _ _).symm
  have a1 : (l.take i).filter (fun p => decide (p.2 ≤ now)) = l.take i := by
    rw [List.filter_eq_self]
    intro y hy
    obtain ⟨j, hj, rfl⟩ := List.getElem_of_mem hy
    rw [List.length_take] at hj
    simp only [List.getElem_take]
    exact decide_eq_true (h.1 j (by omega) (by omega))
  have a2 : (l.drop i).filter (fun p => decide (p.2 ≤ now)) = [] := by
    rw [List.filter_eq_nil_iff]
    intro y hy
    obtain ⟨j, hj, rfl⟩ := List.getElem_of_mem hy
    rw [List.length_drop] at hj
    simp only [List.getElem_drop]
    simpa using h.2 (i + j) (by omega) (by omega)
  have a3 : (l.take i).filter (fun p => !decide (p.2 ≤ now)) = [] := by
    rw [List.filter_eq_nil_iff]
    intro y hy
    obtain ⟨j, hj, rfl⟩ := List.getElem_of_mem hy
    rw [List.length_take] at hj
    simp only [List.getElem_take]
    simpa using h.1 j (by omega) (by omega)
  have a4 : (l.drop i).filter (fun p => !decide (p.2 ≤ now)) = l.drop i := by
    rw [List.filter_eq_self]
    intro y hy
    obtain ⟨j, hj, rfl⟩ := List.getElem_of_mem hy
    rw [List.length_drop] at hj
    simp only [List.getElem_drop]
    simpa using h.2 (i + j) (by omega) (by omega)
  unfold endL restL
  constructor
  · conv => rhs; rw [e]
    rw [List.filter_append, a1, a2, List.append_nil]
  · conv => rhs; rw [e]
    rw [List.filter_append, a3, a4, List.nil_append]
theorem Done.of {l : List (Int × Int)} {now : Int} {i : Nat} (hs : l.Pairwise ltT) (h1 : ∀ j (hj : j < l.length), j < i → l[j].2 ≤ now) (h2 : ∀ hi : i < l.length, ¬ l[i].2 ≤ now) : Done l now i := by
  refine ⟨h1, fun j hj hij => ?_⟩
  rcases Nat.lt_or_ge i j with c | c
  · have := List.pairwise_iff_getElem.1 hs i j (by omega) hj c
    have h3 := h2 (by omega)
    unfold ltT at this
    omega
  · obtain rfl : i = j := by omega
    exact h2 hj

theorem end_good {l : List (Int × Int)} (h : Good l) (now : Int) : Good (restL l now) :=
  ⟨h.sorted.filter _, (h.ids.sublist ((List.filter_sublist).map _)), Nat.le_trans (List.length_filter_le _ _) h.len⟩

theorem own_keptS {w w' : World} {B : Nat} {t : TypeId} {s n : Nat} {v : Value} {xs : List Value} {S : List Nat} (h : w.ownsRow B t s v n xs) (hk : KeptL S w w') (hS : ∀ k, v.ownBlock = some k → k ∉ S) : w'.ownsRow B t s v n xs := by
  refine ⟨h.1, ?_⟩
  rcases h.2 with h2 | ⟨g, cap, cur, rfl, hg, hh, h3⟩
  · exact Or.inl h2
  · exact Or.inr ⟨g, cap, cur, rfl, hg, (hk.block g (heap_lt hh) (hS g rfl)).trans hh, h3⟩

def RetEnded (w : World) (B g : Nat) (h : Option Nat) (l : List (Int × Int)) (now : Int) (e : Ending) (w' : World) : Prop :=
  ∃ v, e = .returned v ∧ w'.ownsRow w.heap.size 3 1 v (endL l now).length (ivals ((endL l now).map Prod.fst)) ∧ Tab w' B g h (restL l now) ∧ KeptL (g :: h.toList) w w'

/-- Behind the loop: what has ended is struck, and told. -/
theorem ended_fin {w w1 w2 : World} {B g i : Nat} {h : Option Nat} {l : List (Int × Int)} {now : Int} {v v2 t : Value} (hB : B ≤ g) (hd : Done l now i) (hi : i ≤ l.length) (hr : Row w1 g 57 #[v]) (ho : w1.ownsRow B 61 2 v l.length (ecells l)) (hv : v.ownBlock = h) (hlt : ∀ k, h = some k → k < w.heap.size) (hg : g < w.heap.size)
    (hb : Below w.heap.size w w1) (ht : w1.ownsRow w.heap.size 3 1 t i (ivals (idsTo l i))) (ho2 : w2.ownsRow B 61 2 v2 (0 + (l.length - i)) ((ecells l).take (0 * 2) ++ (ecells l).drop (i * 2))) (hv2 : v2.ownBlock = v.ownBlock) (hk2 : KeptL v.ownBlock.toList w1 w2) :
    RetEnded w B g h l now (.returned t) (w2.setCell ⟨g, 0, none⟩ v2) := by
  obtain ⟨e1, e2⟩ := hd.eq
  have hr2 := kept_apart hr ho hk2
  have hkk : KeptL (g :: h.toList) w w2 := (KeptL.of_below hb).trans (hk2.mono (fun k hk => by rw [hv] at hk; exact List.mem_cons_of_mem _ hk))
  rw [Nat.zero_mul, List.take_zero, List.nil_append, ecells_drop, e2] at ho2
  have hn : 0 + (l.length - i) = (restL l now).length := by rw [← e2, List.length_drop]; omega
  have hs := Tab.store hB hr2 ho2 hn (hv2.trans hv) _ hkk (by simp)
  have hn2 : i = (endL l now).length := by rw [← e1, List.length_take]; omega
  unfold idsTo at ht
  rw [e1] at ht
  rw [hn2] at ht
  have hkt : KeptL (g :: h.toList) w1 (w2.setCell ⟨g, 0, none⟩ v2) := (KeptL.mono hk2 (fun k hk => by rw [hv] at hk; exact List.mem_cons_of_mem _ hk)).set (p := ⟨g, 0, none⟩) (by simp) v2
  refine ⟨t, rfl, own_keptS ht hkt ?_, hs.1, hs.2⟩
  intro k hk hm
  have hge := (ht.lt k hk).1
  rw [List.mem_cons] at hm
  rcases hm with c | c
  · omega
  · have := hlt k (by simpa using c); omega

theorem Try.info3n : (Try.prog.info? 3).map (fun i => (i.zero, i.size, i.bytes)) = some (some (.int .i64 0), 1, 8) := by kernel_rfl

theorem delete_head (w : World) (B n j : Nat) (v : Value) (xs : List Value) (ho : w.ownsRow B 61 2 v n xs) (h1c : ∀ u ∈ xs, u.oneCell' = true) (hj : j ≤ n) (hn : n ≤ 1000) :
    Calls Try.prog 29 #[v, .int .i64 0, .int .i64 j] w fun e w' => ∃ v', e = .returned v' ∧ w'.ownsRow B 61 2 v' (0 + (n - j)) (xs.take (0 * 2) ++ xs.drop (j * 2)) ∧ v'.ownBlock = v.ownBlock ∧ KeptL v.ownBlock.toList w w' :=
  delete_any w B n 0 j v xs ho h1c (Nat.zero_le _) hj hn

set_option maxHeartbeats 4000000 in
theorem ended_any (w : World) (B g : Nat) (h : Option Nat) (l : List (Int × Int)) (now : Int) (ht : Tab w B g h l) (hl : Good l) :
    Calls Try.prog 16 #[.pointer (some ⟨g, 0, none⟩), .int .i64 now] w (RetEnded w B g h l now) := by
  have HT := Lib.hid ht
  have HS := Lib.hid hl.sorted
  have hln := hl.len
  have hlt : ∀ k, h = some k → k < w.heap.size := by
    obtain ⟨_, v, _, ho, hv⟩ := ht
    intro k hk
    exact (ho.lt k (hv.trans hk)).2
  obtain ⟨hBg, v, hr, ho, hv⟩ := ht
  have hgl := hr.lt
  have c0 := hr.cell 0
  simp only [List.getElem?_toArray, List.getElem?_cons_zero] at c0
  obtain ⟨A, c, rfl⟩ := own_slice ho
  have HP := Lib.hid (Ts.of_own ho)
  have HLT := Lib.hid hlt
  have HGL := Lib.hid hgl
  obtain ⟨RP, hRP⟩ : ∃ R, R = RetEnded w B g h l now := ⟨_, rfl⟩
  rw [← hRP]
  have HRP := Lib.hid hRP
  clear hRP hl hr ho hv hlt hgl
  obtain ⟨m, hm⟩ : ∃ m, l.length = m := ⟨_, rfl⟩
  rw [hm] at HP c0 hln
  have HM := Lib.hid hm
  clear hm
  obtain ⟨B0, hB0⟩ : ∃ n, n = w.heap.size := ⟨_, rfl⟩
  have HB0 := Lib.hid hB0
  rw [← hB0] at HP
  have hB1 : B0 ≤ w.heap.size := by omega
  clear hB0
  obtain ⟨i3, hi3, hz30, hz31, hz32⟩ := info_parts Try.info3n
  go_enter Try.func16, Try.ntmps16
  go_wp2_with fail
  clear c0
  go_loopw [5, 16] (fun t k wr => ∃ i : Nat, i ≤ m ∧ k = .int .i64 i ∧ Hid ((∀ j (hj : j < l.length), j < i → l[j].2 ≤ now) ∧ wr.ownsRow B0 3 1 t i (ivals (idsTo l i)) ∧ Below B0 w wr)) (fun _ k _ => m - (intOf k).toNat)
  case atStart => exact ⟨0, Nat.zero_le _, rfl, fun j _ hj => absurd hj (by omega), by simpa [ivals, idsTo] using World.ownsRow_nil _ _ _ _, Below.refl _ _⟩
  case round =>
    obtain ⟨i, hi, rfl, HJ⟩ := hrel
    by_cases hlt : i < m
    · have him : i < l.length := by have := HM.out; omega
      obtain ⟨b, o, hA, hb, c0, c1⟩ := HP.out.at i him
      subst hA
      have e0 := (HJ.out.2.2.cell (p := ⟨b, o + i * 2, none⟩) hb).trans c0
      have e1 := (HJ.out.2.2.cell (p := ⟨b, o + i * 2 + 1, none⟩) hb).trans c1
      obtain ⟨z, hz⟩ : ∃ z, l[i] = z := ⟨_, rfl⟩
      rw [hz] at e0 e1
      have HZ := Lib.hid hz
      obtain ⟨z0, z1⟩ := z
      simp only at e0 e1
      clear c0 c1 hz
      by_cases hz1 : z1 ≤ now
      · have HE1 : Hid (∀ j (hj : j < l.length), j < i + 1 → l[j].2 ≤ now) := fun j hj hji => by
          rcases Nat.lt_or_ge j i with c | c
          · exact HJ.out.1 j hj c
          · obtain rfl : j = i := by omega
            rw [HZ.out]; exact hz1
        have HE2 : Hid (ivals (idsTo l i) ++ [.int .i64 z0] = ivals (idsTo l (i + 1))) := by
          show _ = _
          rw [ivals_snoc']; unfold idsTo; rw [List.take_succ_eq_append_getElem him, HZ.out, List.map_append]; rfl
        have hg1 : ¬ now < z1 := by omega
        obtain ⟨A5, c5, hv5⟩ := own_slice HJ.out.2.1
        subst hv5
        have HOW : Hid ((wr.alloc (.cells #[.int .i64 z0, .int .i64 z1] 61)).ownsRow B0 3 1 (.slice A5 i c5) i (ivals (idsTo l i)) ∧ Below B0 w (wr.alloc (.cells #[.int .i64 z0, .int .i64 z1] 61))) := ⟨HJ.out.2.1.alloc _, HJ.out.2.2.alloc (by have := HJ.out.2.2.size; omega) _⟩
        go_upto_region 7 with (fail)
        have d0 := (Row.new wr 61 #[.int .i64 z0, .int .i64 z1]).cell 0
        have d1 := (Row.new wr 61 #[.int .i64 z0, .int .i64 z1]).cell 1
        simp only [List.getElem?_toArray, List.getElem?_cons_zero, List.getElem?_cons_succ] at d0 d1
        generalize wr.alloc (.cells #[.int .i64 z0, .int .i64 z1] 61) = wA at *
        generalize wr.heap.size = nA at *
        go_wp2_with (at_builtin; refine wpList_append_own _ rfl (.tmp 24) (.tmp 27) 37 rfl B0 3 i3 (.int .i64 0) 1 8 Try.underlying37 hi3 hz30 hz31 hz32 rfl (by decide) _ _ _ rfl (HOW.out.1.alloc _) ⟨wA.heap.size, 0, none⟩ 1 1 [.int .i64 z0] rfl rfl (one_new wA 3 _) (one_cell rfl) (by unfold maxLen; omega) (by omega) (by have := HOW.out.2.size; simp; omega) ?_)
        intro v7 w7 hown7 hgrow7 _
        rw [HE2.out] at hown7
        have hba : Below B0 w (wA.alloc (.cells #[.int .i64 z0] 3)) := HOW.out.2.alloc (by have := HOW.out.2.size; omega) _
        have HNX : Hid ((∀ j (hj : j < l.length), j < i + 1 → l[j].2 ≤ now) ∧ w7.ownsRow B0 3 1 v7 (i + 1) (ivals (idsTo l (i + 1))) ∧ Below B0 w w7) := ⟨HE1.out, hown7, hba.grown hgrow7 (by have := hba.size; omega) (fun kk hk => (HOW.out.1.lt kk hk).1)⟩
        clear hown7 hgrow7 hba d0 d1 e0 e1
        go_wp2_with fail
        go_roundw
        case rel => exact ⟨i + 1, by omega, by go_num, HNX⟩
        case measure => simp [intOf]; omega
      · have hg1 : now < z1 := by omega
        have HDN : Hid (Done l now i) := Done.of HS.out HJ.out.1 (fun hi => by rw [HZ.out]; exact hz1)
        obtain ⟨A5, c5, hv5⟩ := own_slice HJ.out.2.1
        subst hv5
        have HOW : Hid ((wr.alloc (.cells #[.int .i64 z0, .int .i64 z1] 61)).ownsRow B0 3 1 (.slice A5 i c5) i (ivals (idsTo l i)) ∧ Below B0 w (wr.alloc (.cells #[.int .i64 z0, .int .i64 z1] 61))) := ⟨HJ.out.2.1.alloc _, HJ.out.2.2.alloc (by have := HJ.out.2.2.size; omega) _⟩
        go_upto_region 7 with (fail)
        have d0 := (Row.new wr 61 #[.int .i64 z0, .int .i64 z1]).cell 0
        have d1 := (Row.new wr 61 #[.int .i64 z0, .int .i64 z1]).cell 1
        simp only [List.getElem?_toArray, List.getElem?_cons_zero, List.getElem?_cons_succ] at d0 d1
        generalize wr.alloc (.cells #[.int .i64 z0, .int .i64 z1] 61) = wA at *
        generalize wr.heap.size = nA at *
        clear e0 e1
        obtain ⟨-, v1, hr1, ho1, hv1⟩ := HT.out.below (by rw [← HB0.out]; exact HOW.out.2 : Below w.heap.size w wA)
        have q0 := hr1.cell 0
        simp only [List.getElem?_toArray, List.getElem?_cons_zero] at q0
        obtain ⟨A1, c1, hA1⟩ := own_slice ho1
        subst hA1
        have HR1 := Lib.hid hr1; have HO1 := Lib.hid ho1; have HV1 := Lib.hid hv1
        have HIE : Hid (i ≤ l.length ∧ l.length ≤ 1000) := by have := HM.out; exact ⟨by omega, by omega⟩
        clear hr1 ho1 hv1 HJ
        go_wp2_with fail
        refine (delete_head wA B l.length i _ (ecells l) HO1.out (ecells_one l) HIE.out.1 HIE.out.2).mono ?_; rintro e w2 ⟨v2, rfl, ho2, hv2, hk2⟩
        have hr2 := kept_apart HR1.out HO1.out hk2
        have HFIN : Hid (RetEnded w B g h l now (.returned (.slice A5 i c5)) (w2.setCell ⟨g, 0, none⟩ v2)) := ended_fin hBg HDN.out HIE.out.1 HR1.out HO1.out HV1.out HLT.out HGL.out (by rw [← HB0.out]; exact HOW.out.2) (by rw [← HB0.out]; exact HOW.out.1) ho2 hv2 hk2
        have q2 := hr2.cell 0
        have z2 := hr2.frozen 0
        simp only [List.getElem?_toArray, List.getElem?_cons_zero] at q2
        obtain ⟨A2, c2, hA2⟩ := own_slice ho2
        subst hA2
        clear ho2 hv2 hk2 hr2 q0
        go_wp2_with fail
        rw [HRP.out]
        have hfin := HFIN.out
        rw [Nat.zero_add] at hfin
        exact hfin
    · have HDN : Hid (Done l now i) := Done.of HS.out HJ.out.1 (fun hi => absurd hi (by have := HM.out; omega))
      obtain ⟨A5, c5, hv5⟩ := own_slice HJ.out.2.1
      subst hv5
      have HOW : Hid (wr.ownsRow B0 3 1 (.slice A5 i c5) i (ivals (idsTo l i)) ∧ Below B0 w wr) := HJ.out.2
      obtain ⟨-, v1, hr1, ho1, hv1⟩ := HT.out.below (by rw [← HB0.out]; exact HOW.out.2 : Below w.heap.size w wr)
      have q0 := hr1.cell 0
      simp only [List.getElem?_toArray, List.getElem?_cons_zero] at q0
      obtain ⟨A1, c1, hA1⟩ := own_slice ho1
      subst hA1
      have HR1 := Lib.hid hr1; have HO1 := Lib.hid ho1; have HV1 := Lib.hid hv1
      have HIE : Hid (i ≤ l.length ∧ l.length ≤ 1000) := by have := HM.out; exact ⟨by omega, by omega⟩
      clear hr1 ho1 hv1 HJ
      go_wp2_with fail
      refine (delete_head wr B l.length i _ (ecells l) HO1.out (ecells_one l) HIE.out.1 HIE.out.2).mono ?_; rintro e w2 ⟨v2, rfl, ho2, hv2, hk2⟩
      have hr2 := kept_apart HR1.out HO1.out hk2
      have HFIN : Hid (RetEnded w B g h l now (.returned (.slice A5 i c5)) (w2.setCell ⟨g, 0, none⟩ v2)) := ended_fin hBg HDN.out HIE.out.1 HR1.out HO1.out HV1.out HLT.out HGL.out (by rw [← HB0.out]; exact HOW.out.2) (by rw [← HB0.out]; exact HOW.out.1) ho2 hv2 hk2
      have q2 := hr2.cell 0
      have z2 := hr2.frozen 0
      simp only [List.getElem?_toArray, List.getElem?_cons_zero] at q2
      obtain ⟨A2, c2, hA2⟩ := own_slice ho2
      subst hA2
      clear ho2 hv2 hk2 hr2 q0
      go_wp2_with fail
      rw [HRP.out]
      have hfin := HFIN.out
      rw [Nat.zero_add] at hfin
      exact hfin

theorem ended_nil (w : World) (now : Int) : Calls Try.prog 16 #[.pointer none, .int .i64 now] w fun e w' => e = .returned (.slice none 0 0) ∧ w = w' := by
  go_enter Try.func16, Try.ntmps16
  go_wp2_with fail
  go_ret
  exact ⟨rfl, rfl⟩

theorem start_nil (w : World) (id at_ : Int) : Calls Try.prog 13 #[.pointer none, .int .i64 id, .int .i64 at_] w fun e w' => e = .returned (.int .i64 7) ∧ w = w' := by
  go_enter Try.func13, Try.ntmps13
  go_wp2_with fail
  go_ret
  exact ⟨rfl, rfl⟩

end Go.Proofs.Ytkhceigfmaajdaa
