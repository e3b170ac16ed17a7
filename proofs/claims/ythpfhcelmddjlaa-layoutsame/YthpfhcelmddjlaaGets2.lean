/- Contracts: numbers read into where they belong; sections and points read. -/
import Derived.Test.YthpfhcelmddjlaaGets
import Derived.Laws.Rows
import Derived.Laws.ResultCell
namespace Go.Proofs.Ythpfhcelmddjlaa
open Go.RowKit Fl
set_option maxRecDepth 100000

def tnum (W : Nat) : St → Int × St := tbind (tget W) fun n => tret (n : Int)

def upd (cs : Array Value) (ps : List (Nat × Int)) : Array Value := ps.foldl (fun c p => c.setIfInBounds p.1 (.int .i64 p.2)) cs

theorem upd_size (ps : List (Nat × Int)) : ∀ cs : Array Value, (upd cs ps).size = cs.size := by
  induction ps with
  | nil => intro cs; rfl
  | cons a r ih => intro cs; show (upd _ r).size = _; rw [ih]; simp

theorem upd_snoc (cs : Array Value) (ps : List (Nat × Int)) (p : Nat × Int) : upd cs (ps ++ [p]) = (upd cs ps).setIfInBounds p.1 (.int .i64 p.2) := by
  unfold upd; rw [List.foldl_append]; rfl

def ptrs (gs : Nat) (offs : List Nat) : List Value := offs.map fun o => .pointer (some ⟨gs, o, none⟩)
theorem ptrs_length (gs : Nat) (offs : List Nat) : (ptrs gs offs).length = offs.length := by simp [ptrs]
theorem ptrs_get (gs : Nat) (offs : List Nat) (i : Nat) (h : i < offs.length) : (ptrs gs offs)[i]? = some (.pointer (some ⟨gs, offs[i], none⟩)) := by simp [ptrs, h]

theorem Tl.cell {w : World} {t : TypeId} {A : Option Addr} {n c : Nat} {xs : List Value} (h : Tl w t (.slice A n c) xs) {j : Nat} {u : Value} (hu : xs[j]? = some u) : ∃ b o, A = some ⟨b, o, none⟩ ∧ w.cell? ⟨b, o + j, none⟩ = some u := by
  obtain ⟨b, o, hA, _, hc⟩ := h.rd.at hu
  exact ⟨b, o, hA, hc⟩

theorem Tl.lit (w : World) (t : TypeId) (xs : List Value) (n : Nat) (hn : xs.length = n) : Tl (w.alloc (.cells xs.toArray t)) t (.slice (some ⟨w.heap.size, 0, none⟩) n n) xs :=
  Tl.row n (Row.new w t _) hn fun j u hu => by simpa using hu

theorem zip_take {α β : Type} (xs : List α) (ys : List β) (y : β) (i : Nat) (hi : i < xs.length) (hy : ys.length = i) : (xs.take (i + 1)).zip (ys ++ [y]) = (xs.take i).zip ys ++ [(xs[i], y)] := by
  rw [List.take_succ_eq_append_getElem hi, List.zip_append (by rw [List.length_take]; omega)]; rfl


set_option maxHeartbeats 2000000 in
theorem getInts (w : World) (B g gs : Nat) (s : St) (W : Nat) (width : Int) (t : TypeId) (cs : Array Value) (offs : List Nat) (v : Value) (hR : RS w B g s) (hv : Tl w 106 v (ptrs gs offs)) (hgs : Row w gs t cs) (ht : t ≠ 99 ∧ (5 : TypeId) ≠ t ∧ (106 : TypeId) ≠ t) (ho : ∀ o ∈ offs, o < cs.size) (hw : width = (W : Int)) (h0 : 0 < W) (h64 : W ≤ 32) (hl : offs.length ≤ 100) :
    Calls Try.prog 63 #[.pointer (some ⟨g, 0, none⟩), .int .i64 width, v] w fun e w' => e = .returned (.tuple #[]) ∧ RS w' B g (tmany (tnum W) offs.length s).2 ∧ Row w' gs t (upd cs (offs.zip (tmany (tnum W) offs.length s).1)) ∧ KeptL [g, gs] w w' := by
  subst hw
  have HV := Lib.hid hv
  obtain ⟨A, c, rfl, _⟩ := hv
  rw [ptrs_length] at *
  obtain ⟨n, hn⟩ : ∃ n, n = offs.length := ⟨_, rfl⟩
  rw [← hn] at HV hl ⊢
  have HN := Lib.hid hn; have HR := Lib.hid hR; have HG := Lib.hid hgs; have HO := Lib.hid ho; have HT := Lib.hid ht
  clear hn hR hgs ho ht
  go_enter Try.func63, Try.ntmps63
  go_wp2
  go_loopw [10] (fun k wr => ∃ i : Nat, i ≤ n ∧ k = .int .i64 i ∧ Hid (RS wr B g (tmany (tnum W) i s).2 ∧ Row wr gs t (upd cs ((offs.take i).zip (tmany (tnum W) i s).1)) ∧ KeptL [g, gs] w wr)) (fun k _ => n - (intOf k).toNat)
  case atStart => exact ⟨0, Nat.zero_le _, rfl, HR.out, by simpa [upd] using HG.out, KeptL.refl _ _⟩
  case round =>
    obtain ⟨i, hi, rfl, HI⟩ := hrel
    by_cases hlt : i < n
    · have hiq : i < offs.length := by have := HN.out; omega
      obtain ⟨cg, hrg⟩ := HR.out.row
      obtain ⟨b, o, rfl, hcell⟩ := (HV.out.kept HI.out.2.2 (Other.two hrg (by decide) HG.out HT.out.2.2)).cell (ptrs_get gs offs i hiq)
      have HZ := Lib.hid (zip_take offs (tmany (tnum W) i s).1 (tnum W (tmany (tnum W) i s).2).1 i hiq (tmany_length _ _ _))
      have HOF : Hid (offs[i] < (upd cs ((offs.take i).zip (tmany (tnum W) i s).1)).size) := by show _ < _; rw [upd_size]; exact HO.out _ (List.getElem_mem _)
      clear hrg
      generalize offs[i] = oo at *
      go_wp2_with fail
      refine (rget_any wr B g _ W (W : Int) HI.out.1 rfl h0 (by omega)).mono ?_
      rintro e w1 ⟨rfl, h1, h2⟩
      obtain ⟨cg1, hrg1⟩ := HI.out.1.row
      have hrow := h2.row1 HI.out.2.1 hrg1 HT.out.1
      have hcl := hrow.cell oo
      have hfr := hrow.frozen oo
      obtain ⟨x0, hx0⟩ : ∃ x, (upd cs ((offs.take i).zip (tmany (tnum W) i s).1))[oo]? = some x := ⟨_, Array.getElem?_eq_getElem HOF.out⟩
      rw [hx0] at hcl
      have hlt2 := tget_lt W (tmany (tnum W) i s).2
      have hle : 2 ^ W ≤ 2 ^ 32 := Nat.pow_le_pow_right (by decide) h64
      have HS : Hid ((tnum W (tmany (tnum W) i s).2).1 = ((tget W (tmany (tnum W) i s).2).1 : Int)) := rfl
      have H2 : Hid (RS w1 B g (tmany (tnum W) (i + 1) s).2 ∧ Row w1 gs t (upd cs ((offs.take i).zip (tmany (tnum W) i s).1)) ∧ KeptL [g, gs] w w1) := ⟨h1, hrow, HI.out.2.2.trans (h2.mono (by intro k hk; rw [List.mem_singleton] at hk; subst hk; simp))⟩
      clear h1 h2 hrow hrg1 hcell hx0
      generalize (tget W (tmany (tnum W) i s).2).1 = y at *
      have hwrap := i64_small y (by omega)
      go_wp2_with fail
      have H3 : Hid (RS (w1.setCell ⟨gs, oo, none⟩ (.int .i64 (y : Int))) B g (tmany (tnum W) (i + 1) s).2 ∧ Row (w1.setCell ⟨gs, oo, none⟩ (.int .i64 (y : Int))) gs t (upd cs ((offs.take (i + 1)).zip (tmany (tnum W) (i + 1) s).1)) ∧ KeptL [g, gs] w (w1.setCell ⟨gs, oo, none⟩ (.int .i64 (y : Int)))) := by
        refine ⟨H2.out.1.set H2.out.2.1 HT.out.2.1 HT.out.1 _, ?_, H2.out.2.2.set (by simp) _⟩
        have e : (offs.take (i + 1)).zip (tmany (tnum W) (i + 1) s).1 = (offs.take i).zip (tmany (tnum W) i s).1 ++ [(oo, (y : Int))] := by rw [← HS.out]; exact HZ.out
        rw [e, upd_snoc]
        exact H2.out.2.1.set oo _
      go_roundw
      case rel => exact ⟨i + 1, by omega, by go_num, H3⟩
      case measure => simp [intOf]; omega
    · have hf : i = n := by omega
      have hof : offs.take i = offs := List.take_of_length_le (by have := HN.out; omega)
      have HF : Hid (i = n ∧ offs.take i = offs) := ⟨hf, hof⟩
      clear hf hof
      go_wp2
      go_end0
      have h := HI.out
      rw [HF.out.2, HF.out.1] at h
      exact ⟨rfl, h⟩

set_option maxHeartbeats 2000000 in
theorem getLongs (w : World) (B g gs : Nat) (s : St) (W : Nat) (width : Int) (t : TypeId) (cs : Array Value) (offs : List Nat) (v : Value) (hR : RS w B g s) (hv : Tl w 112 v (ptrs gs offs)) (hgs : Row w gs t cs) (ht : t ≠ 99 ∧ (5 : TypeId) ≠ t ∧ (112 : TypeId) ≠ t) (ho : ∀ o ∈ offs, o < cs.size) (hw : width = (W : Int)) (h0 : 0 < W) (h64 : W ≤ 32) (hl : offs.length ≤ 100) :
    Calls Try.prog 67 #[.pointer (some ⟨g, 0, none⟩), .int .i64 width, v] w fun e w' => e = .returned (.tuple #[]) ∧ RS w' B g (tmany (tnum W) offs.length s).2 ∧ Row w' gs t (upd cs (offs.zip (tmany (tnum W) offs.length s).1)) ∧ KeptL [g, gs] w w' := by
  subst hw
  have HV := Lib.hid hv
  obtain ⟨A, c, rfl, _⟩ := hv
  rw [ptrs_length] at *
  obtain ⟨n, hn⟩ : ∃ n, n = offs.length := ⟨_, rfl⟩
  rw [← hn] at HV hl ⊢
  have HN := Lib.hid hn; have HR := Lib.hid hR; have HG := Lib.hid hgs; have HO := Lib.hid ho; have HT := Lib.hid ht
  clear hn hR hgs ho ht
  go_enter Try.func67, Try.ntmps67
  go_wp2
  go_loopw [10] (fun k wr => ∃ i : Nat, i ≤ n ∧ k = .int .i64 i ∧ Hid (RS wr B g (tmany (tnum W) i s).2 ∧ Row wr gs t (upd cs ((offs.take i).zip (tmany (tnum W) i s).1)) ∧ KeptL [g, gs] w wr)) (fun k _ => n - (intOf k).toNat)
  case atStart => exact ⟨0, Nat.zero_le _, rfl, HR.out, by simpa [upd] using HG.out, KeptL.refl _ _⟩
  case round =>
    obtain ⟨i, hi, rfl, HI⟩ := hrel
    by_cases hlt : i < n
    · have hiq : i < offs.length := by have := HN.out; omega
      obtain ⟨cg, hrg⟩ := HR.out.row
      obtain ⟨b, o, rfl, hcell⟩ := (HV.out.kept HI.out.2.2 (Other.two hrg (by decide) HG.out HT.out.2.2)).cell (ptrs_get gs offs i hiq)
      have HZ := Lib.hid (zip_take offs (tmany (tnum W) i s).1 (tnum W (tmany (tnum W) i s).2).1 i hiq (tmany_length _ _ _))
      have HOF : Hid (offs[i] < (upd cs ((offs.take i).zip (tmany (tnum W) i s).1)).size) := by show _ < _; rw [upd_size]; exact HO.out _ (List.getElem_mem _)
      clear hrg
      generalize offs[i] = oo at *
      go_wp2_with fail
      refine (rget_any wr B g _ W (W : Int) HI.out.1 rfl h0 (by omega)).mono ?_
      rintro e w1 ⟨rfl, h1, h2⟩
      obtain ⟨cg1, hrg1⟩ := HI.out.1.row
      have hrow := h2.row1 HI.out.2.1 hrg1 HT.out.1
      have hcl := hrow.cell oo
      have hfr := hrow.frozen oo
      obtain ⟨x0, hx0⟩ : ∃ x, (upd cs ((offs.take i).zip (tmany (tnum W) i s).1))[oo]? = some x := ⟨_, Array.getElem?_eq_getElem HOF.out⟩
      rw [hx0] at hcl
      have hlt2 := tget_lt W (tmany (tnum W) i s).2
      have hle : 2 ^ W ≤ 2 ^ 32 := Nat.pow_le_pow_right (by decide) h64
      have HS : Hid ((tnum W (tmany (tnum W) i s).2).1 = ((tget W (tmany (tnum W) i s).2).1 : Int)) := rfl
      have H2 : Hid (RS w1 B g (tmany (tnum W) (i + 1) s).2 ∧ Row w1 gs t (upd cs ((offs.take i).zip (tmany (tnum W) i s).1)) ∧ KeptL [g, gs] w w1) := ⟨h1, hrow, HI.out.2.2.trans (h2.mono (by intro k hk; rw [List.mem_singleton] at hk; subst hk; simp))⟩
      clear h1 h2 hrow hrg1 hcell hx0
      generalize (tget W (tmany (tnum W) i s).2).1 = y at *
      have hwrap := i64_small y (by omega)
      go_wp2_with fail
      have H3 : Hid (RS (w1.setCell ⟨gs, oo, none⟩ (.int .i64 (y : Int))) B g (tmany (tnum W) (i + 1) s).2 ∧ Row (w1.setCell ⟨gs, oo, none⟩ (.int .i64 (y : Int))) gs t (upd cs ((offs.take (i + 1)).zip (tmany (tnum W) (i + 1) s).1)) ∧ KeptL [g, gs] w (w1.setCell ⟨gs, oo, none⟩ (.int .i64 (y : Int)))) := by
        refine ⟨H2.out.1.set H2.out.2.1 HT.out.2.1 HT.out.1 _, ?_, H2.out.2.2.set (by simp) _⟩
        have e : (offs.take (i + 1)).zip (tmany (tnum W) (i + 1) s).1 = (offs.take i).zip (tmany (tnum W) i s).1 ++ [(oo, (y : Int))] := by rw [← HS.out]; exact HZ.out
        rw [e, upd_snoc]
        exact H2.out.2.1.set oo _
      go_roundw
      case rel => exact ⟨i + 1, by omega, by go_num, H3⟩
      case measure => simp [intOf]; omega
    · have hf : i = n := by omega
      have hof : offs.take i = offs := List.take_of_length_le (by have := HN.out; omega)
      have HF : Hid (i = n ∧ offs.take i = offs) := ⟨hf, hof⟩
      clear hf hof
      go_wp2
      go_end0
      have h := HI.out
      rw [HF.out.2, HF.out.1] at h
      exact ⟨rfl, h⟩

def IsSec (_ : World) (v : Value) (z : Int × Int × Int) : Prop := v = .agg #[.int .i64 z.1, .int .i64 z.2.1, .int .i64 z.2.2]
def IsPoint (_ : World) (v : Value) (z : Int × Int × Int × Int) : Prop := v = .agg #[.int .i64 z.1, .int .i64 z.2.1, .int .i64 z.2.2.1, .int .i64 z.2.2.2]

theorem Try.size50 : (Try.prog.info? 50).map (·.size) = some 3 := by kernel_rfl
theorem Try.size53 : (Try.prog.info? 53).map (·.size) = some 4 := by kernel_rfl
theorem Try.size33 : (Try.prog.info? 33).map (·.size) = some 10 := by kernel_rfl

theorem Tl.lit2 (w : World) (o : Obj) (t : TypeId) (xs : List Value) (n : Nat) (hn : xs.length = n) : Tl ((w.alloc o).alloc (.cells xs.toArray t)) t (.slice (some ⟨w.heap.size + 1, 0, none⟩) n n) xs := by
  have := Tl.lit (w.alloc o) t xs n hn
  rw [show (w.alloc o).heap.size = w.heap.size + 1 from World.size_alloc w o] at this
  exact this

theorem swap2 {a b : Nat} : ∀ k ∈ [a, b], k ∈ [b, a] := by intro k hk; simp at *; omega
theorem in2 {a b : Nat} : ∀ k ∈ [a], k ∈ [a, b] := by intro k hk; simp at *; omega
theorem in2' {a b : Nat} : ∀ k ∈ [b], k ∈ [a, b] := by intro k hk; simp at *; omega

set_option maxHeartbeats 2000000 in
theorem read_point (w : World) (B g br : Nat) (s : St) (h : RS w B g s) (hb : Row w br 72 #[.pointer (some ⟨g, 0, none⟩)]) :
    Calls Try.prog 66 #[.pointer (some ⟨br, 0, none⟩)] w (Got B g (tpoint s) IsPoint w) := by
  have h0 := hb.cell 0
  have hbl := hb.lt
  simp only [List.getElem?_toArray, List.getElem?_cons_zero] at h0
  have hB2 := below2 w (.cells #[.int .i64 0, .int .i64 0, .int .i64 0, .int .i64 0] 53) (.cells (ptrs w.heap.size [0, 1, 2, 3]).toArray 106)
  have HR := Lib.hid (h.fresh hB2)
  have HV := Lib.hid (Tl.lit2 w (.cells #[.int .i64 0, .int .i64 0, .int .i64 0, .int .i64 0] 53) 106 (ptrs w.heap.size [0, 1, 2, 3]) 4 rfl)
  have HG := Lib.hid ((Row.new w 53 #[.int .i64 0, .int .i64 0, .int .i64 0, .int .i64 0]).alloc (.cells (ptrs w.heap.size [0, 1, 2, 3]).toArray 106))
  have HB := Lib.hid hB2
  clear h hb hB2
  go_enter Try.func66, Try.ntmps66
  go_wp2_with fail
  refine (getInts _ B g w.heap.size s 8 8 53 _ [0, 1, 2, 3] _ HR.out HV.out HG.out (by decide) (by decide) rfl (by omega) (by omega) (by simp)).mono ?_
  rintro e w1 ⟨rfl, h1, h2, h3⟩
  have e1 : upd #[.int .i64 0, .int .i64 0, .int .i64 0, .int .i64 0] ([0, 1, 2, 3].zip (tmany (tnum 8) [0, 1, 2, 3].length s).1) = #[.int .i64 (tpoint s).1.1, .int .i64 (tpoint s).1.2.1, .int .i64 (tpoint s).1.2.2.1, .int .i64 (tpoint s).1.2.2.2] := rfl
  rw [e1] at h2
  have k0 := h2.cell 0; have k1 := h2.cell 1; have k2 := h2.cell 2; have k3 := h2.cell 3
  have l0 := h2.frozen 0; have l1 := h2.frozen 1; have l2 := h2.frozen 2; have l3 := h2.frozen 3
  simp only [List.getElem?_toArray, List.getElem?_cons_zero, List.getElem?_cons_succ] at k0 k1 k2 k3
  have H1 : Hid (RS w1 B g (tpoint s).2 ∧ KeptL [w.heap.size, g] w w1 ∧ Row w1 w.heap.size 53 #[.int .i64 (tpoint s).1.1, .int .i64 (tpoint s).1.2.1, .int .i64 (tpoint s).1.2.2.1, .int .i64 (tpoint s).1.2.2.2]) :=
    ⟨h1, ((KeptL.of_below HB.out).trans h3).mono swap2, h2⟩
  clear h1 h2 h3 h0 e1
  have HZ : Hid (∀ z, IsPoint w1 (.agg #[.int .i64 z.1, .int .i64 z.2.1, .int .i64 z.2.2.1, .int .i64 z.2.2.2]) z) := fun _ => rfl
  obtain ⟨z, hz⟩ : ∃ z, (tpoint s).1 = z := ⟨_, rfl⟩
  rw [hz] at H1 k0 k1 k2 k3
  have HZZ := Lib.hid hz; clear hz
  go_wp2_with fail
  have hfin := (((H1.out.2.2.set 0 (.int .i64 z.1)).set 1 (.int .i64 z.2.1)).set 2 (.int .i64 z.2.2.1)).set 3 (.int .i64 z.2.2.2)
  have r1 := H1.out.2.2.set 0 (.int .i64 z.1)
  have r2 := r1.set 1 (.int .i64 z.2.1)
  have r3 := r2.set 2 (.int .i64 z.2.2.1)
  refine bodyPost_ret (results_cell_row rfl _ _ w.heap.size 53 #[.int .i64 z.1, .int .i64 z.2.1, .int .i64 z.2.2.1, .int .i64 z.2.2.2] (0, 0) _ rfl hfin Try.underlying53 rfl Try.size53) rfl ?_
  refine ⟨_, rfl, by rw [HZZ.out]; exact HZ.out z, (((H1.out.1.set H1.out.2.2 (by decide) (by decide) _).set r1 (by decide) (by decide) _).set r2 (by decide) (by decide) _).set r3 (by decide) (by decide) _, ?_⟩
  exact ((((H1.out.2.1.set (by simp) _).set (by simp) _).set (by simp) _).set (by simp) _).fresh (Nat.le_refl _)

set_option maxHeartbeats 2000000 in
theorem read_sec (w : World) (B g br : Nat) (s : St) (h : RS w B g s) (hb : Row w br 72 #[.pointer (some ⟨g, 0, none⟩)]) :
    Calls Try.prog 62 #[.pointer (some ⟨br, 0, none⟩)] w (Got B g (tsec s) IsSec w) := by
  have h0 := hb.cell 0
  have hbl := hb.lt
  simp only [List.getElem?_toArray, List.getElem?_cons_zero] at h0
  have hB2 := below2 w (.cells #[.int .i64 0, .int .i64 0, .int .i64 0] 50) (.cells (ptrs w.heap.size [0]).toArray 106)
  have HR := Lib.hid (h.fresh hB2)
  have HV := Lib.hid (Tl.lit2 w (.cells #[.int .i64 0, .int .i64 0, .int .i64 0] 50) 106 (ptrs w.heap.size [0]) 1 rfl)
  have HG := Lib.hid ((Row.new w 50 #[.int .i64 0, .int .i64 0, .int .i64 0]).alloc (.cells (ptrs w.heap.size [0]).toArray 106))
  have HBR := Lib.hid ((hb.alloc (.cells #[.int .i64 0, .int .i64 0, .int .i64 0] 50)).alloc (.cells (ptrs w.heap.size [0]).toArray 106))
  have HB := Lib.hid hB2
  clear h hb hB2
  go_enter Try.func62, Try.ntmps62
  go_wp2_with fail
  refine (getInts _ B g w.heap.size s 16 16 50 _ [0] _ HR.out HV.out HG.out (by decide) (by decide) rfl (by omega) (by omega) (by simp)).mono ?_
  rintro e w1 ⟨rfl, h1, h2, h3⟩
  obtain ⟨cg, hrg⟩ := HR.out.row
  have hbr := h3.row HBR.out (by
    intro hm
    rcases List.mem_cons.1 hm with e | e
    · exact Row.ne HBR.out hrg (by decide) e
    · exact Row.ne HBR.out HG.out (by decide) (List.mem_singleton.1 e))
  have g0 := hbr.cell 0
  simp only [List.getElem?_toArray, List.getElem?_cons_zero] at g0
  have H1 : Hid (RS w1 B g (tget 16 s).2 ∧ KeptL [g, w.heap.size] w w1 ∧ Row w1 w.heap.size 50 #[.int .i64 ((tget 16 s).1 : Int), .int .i64 0, .int .i64 0]) :=
    ⟨h1, (KeptL.of_below HB.out).trans h3, h2⟩
  clear h1 h2 h3 h0 hrg hbr
  have hb3 := (Below.refl w1.heap.size w1).alloc (Nat.le_refl _) (.cells (ptrs w.heap.size [1, 2]).toArray 106)
  have HR1 := Lib.hid (H1.out.1.fresh hb3)
  have HV1 := Lib.hid (Tl.lit w1 106 (ptrs w.heap.size [1, 2]) 2 rfl)
  have HG1 := Lib.hid (H1.out.2.2.alloc (.cells (ptrs w.heap.size [1, 2]).toArray 106))
  have HB3 := Lib.hid hb3
  clear hb3
  go_wp2_with fail
  refine (getInts _ B g w.heap.size (tget 16 s).2 8 8 50 _ [1, 2] _ HR1.out HV1.out HG1.out (by decide) (by intro o ho; simp at ho ⊢; omega) rfl (by omega) (by omega) (by simp)).mono ?_
  rintro e w2 ⟨rfl, h1, h2, h3⟩
  have e1 : upd #[.int .i64 ((tget 16 s).1 : Int), .int .i64 0, .int .i64 0] ([1, 2].zip (tmany (tnum 8) [1, 2].length (tget 16 s).2).1) = #[.int .i64 (tsec s).1.1, .int .i64 (tsec s).1.2.1, .int .i64 (tsec s).1.2.2] := rfl
  rw [e1] at h2
  have k0 := h2.cell 0; have k1 := h2.cell 1; have k2 := h2.cell 2
  have l0 := h2.frozen 0; have l1 := h2.frozen 1; have l2 := h2.frozen 2
  simp only [List.getElem?_toArray, List.getElem?_cons_zero, List.getElem?_cons_succ] at k0 k1 k2
  have H2 : Hid (RS w2 B g (tsec s).2 ∧ KeptL [w.heap.size, g] w w2 ∧ Row w2 w.heap.size 50 #[.int .i64 (tsec s).1.1, .int .i64 (tsec s).1.2.1, .int .i64 (tsec s).1.2.2]) :=
    ⟨h1, ((H1.out.2.1.trans (KeptL.of_below HB3.out)).trans h3).mono swap2, h2⟩
  clear h1 h2 h3 e1 g0
  have HZ : Hid (∀ z, IsSec w2 (.agg #[.int .i64 z.1, .int .i64 z.2.1, .int .i64 z.2.2]) z) := fun _ => rfl
  obtain ⟨z, hz⟩ : ∃ z, (tsec s).1 = z := ⟨_, rfl⟩
  rw [hz] at H2 k0 k1 k2
  have HZZ := Lib.hid hz; clear hz
  go_wp2_with fail
  have r1 := H2.out.2.2.set 0 (.int .i64 z.1)
  have r2 := r1.set 1 (.int .i64 z.2.1)
  have hfin := r2.set 2 (.int .i64 z.2.2)
  refine bodyPost_ret (results_cell_row rfl _ _ w.heap.size 50 #[.int .i64 z.1, .int .i64 z.2.1, .int .i64 z.2.2] (0, 0) _ rfl hfin Try.underlying50 rfl Try.size50) rfl ?_
  refine ⟨_, rfl, by rw [HZZ.out]; exact HZ.out z, ((H2.out.1.set H2.out.2.2 (by decide) (by decide) _).set r1 (by decide) (by decide) _).set r2 (by decide) (by decide) _, ?_⟩
  exact (((H2.out.2.1.set (by simp) _).set (by simp) _).set (by simp) _).fresh (Nat.le_refl _)

end Go.Proofs.Ythpfhcelmddjlaa
