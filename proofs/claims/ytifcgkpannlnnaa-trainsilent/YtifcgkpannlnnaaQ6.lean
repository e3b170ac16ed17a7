/- Contracts: Close, All, isLate, those. -/
import Derived.Test.YtifcgkpannlnnaaQ5
namespace Go.Proofs.Ytifcgkpannlnnaa
open Go.RowKit Fl Go.Maps
set_option maxRecDepth 100000

set_option maxHeartbeats 4000000 in
theorem close_ok (w : World) (rb mb n : Nat) (m : Mp) (h : Reg w rb mb n m) (id : Int) (hid : (Lit.int .i64 id).wf = true) (t : Tr) (ht : m id = some t) :
    Calls Try.prog 27 #[.pointer (some ⟨rb, 0, none⟩), .int .i64 id] w (RetReg (.bool true) rb mb n (upd m id none) w) := by
  have HF := Lib.hid (find_some w rb mb n m h id hid t ht)
  have HG := Lib.hid h
  clear h ht
  go_enter Try.func27, Try.ntmps27
  go_wp2_with fail
  refine HF.out.mono ?_; rintro x w1 ⟨vt, hr, rfl, hb⟩
  obtain ⟨A, c, rfl, -, -⟩ := hr
  simp only [ivals_length] at *
  have hb1 := hb.alloc hb.size (.cells (tcells t.id t.heard t.sure t.dir t.ahead (.slice A t.trail.length c)) 58)
  have hg1 := HG.out.up hb1
  have HK1 : Hid (KeptL [mb] w (w1.alloc (.cells (tcells t.id t.heard t.sure t.dir t.ahead (.slice A t.trail.length c)) 58))) := KeptL.of_below hb1
  clear hb hb1 HF HG
  go_upto_region 4 with (fail)
  generalize w1.alloc (.cells #[.int .i64 t.id, .int .i64 t.heard, .int .i64 t.sure, .int .i64 t.dir, .int .i64 t.ahead, .slice A t.trail.length c] 58) = w2 at *
  obtain ⟨D, hown, hD⟩ := hg1.map
  have c0 := hg1.row.cell 0
  simp only [List.getElem?_toArray, List.getElem?_cons_zero] at c0
  have HD := Lib.hid hD
  have HRW := Lib.hid hg1.row
  have HNE := Lib.hid hg1.ne
  have HOW := Lib.hid hown
  clear hg1 hD
  go_wp2_with (first
    | (at_delete; refine wpList_delete_own _ rfl _ _ 91 3 rfl 58 keyed3 Try.underlying91 heldV mb n D rfl hown _ _ rfl (key3 hid) ?_; intro w3 hown3 hturn3)
    | fail)
  obtain ⟨r1, r2⟩ := Reg.struck HRW.out HOW.out HD.out HNE.out hown3 hturn3.grown
  have HZ1 := Lib.hid r1
  have HZ2 := Lib.hid (HK1.out.trans r2)
  clear r1 r2 hown3 hturn3 hown c0
  go_wp2_with fail
  go_ret
  exact ⟨rfl, HZ1.out, HZ2.out⟩

set_option maxHeartbeats 4000000 in
theorem close_none (w : World) (rb mb n : Nat) (m : Mp) (h : Reg w rb mb n m) (id : Int) (hid : (Lit.int .i64 id).wf = true) (ht : m id = none) :
    Calls Try.prog 27 #[.pointer (some ⟨rb, 0, none⟩), .int .i64 id] w (RetReg (.bool false) rb mb n m w) := by
  have HF := Lib.hid (find_none w rb mb n m h id hid ht)
  have HG := Lib.hid h
  clear h ht
  go_enter Try.func27, Try.ntmps27
  go_wp2_with fail
  refine HF.out.mono ?_; rintro x w1 ⟨rfl, hb⟩
  have hb1 := hb.alloc hb.size (.cells (tcells 0 0 0 0 0 (.slice none 0 0)) 58)
  have HR1 := Lib.hid (HG.out.up hb1)
  have HK1 : Hid (KeptL [mb] w (w1.alloc (.cells (tcells 0 0 0 0 0 (.slice none 0 0)) 58))) := KeptL.of_below hb1
  clear hb hb1 HF HG
  go_wp2_with fail
  go_ret
  exact ⟨rfl, HR1.out, HK1.out⟩

set_option maxHeartbeats 4000000 in
theorem all_any (w : World) (rb mb n : Nat) (m : Mp) (ks : List Int) (h : Reg w rb mb n m) (hks : Ks ks m) (hl : ks.length ≤ 1000000) :
    Calls Try.prog 28 #[.pointer (some ⟨rb, 0, none⟩)] w (RetOwn w.heap.size ks w) := by
  obtain ⟨D, hown, hD⟩ := h.map
  have c0 := h.row.cell 0
  simp only [List.getElem?_toArray, List.getElem?_cons_zero] at c0
  have hs := hks.size hown hD
  have HP := Lib.hid (hks.perm hown hD)
  have HKS := Lib.hid hks
  have HC := Lib.hid (sorted_any mb n D heldV w hown (by rw [hs]; unfold maxLen; omega) (by rw [hs]; omega))
  have HB := Lib.hid ((Below.refl w.heap.size w).alloc (Nat.le_refl _) (.cells #[.map (some mb)] 91))
  clear hown hD hs hks h
  go_enter Try.func28, Try.ntmps28
  go_wp2_with fail
  refine (keys_any (some mb) w).mono ?_; rintro x w1 ⟨rfl, rfl⟩
  go_wp2_with fail
  refine HC.out.mono ?_; rintro x w2 ⟨v, ss, rfl, hp, ho, -, hb⟩
  have hss : ss.mergeSort (fun x y => decide (x ≤ y)) = ks := HKS.out.sorts (HP.out.trans hp.symm)
  have hlen : ss.length = ks.length := (HP.out.trans hp.symm).length_eq.symm
  rw [hss, hlen] at ho
  have HO := Lib.hid (own_base ho (b' := w.heap.size) HB.out.size)
  have HB2 := Lib.hid (HB.out.trans (hb.mono HB.out.size))
  clear hp ho hb hss hlen
  go_wp2_with fail
  go_ret
  exact ⟨v, rfl, HO.out, HB2.out⟩

/-- Is a tick more than so many ahead of now? -/
def lateB (at' now most : Int) : Bool := decide (most < now - at')
theorem late_any (w : World) (a now most : Int) (ha : -1000000000000 ≤ a ∧ a ≤ 1000000000000) (hn : -1000000000000 ≤ now ∧ now ≤ 1000000000000) :
    Calls Try.prog 46 #[.int .i64 a, .int .i64 now, .int .i64 most] w fun e w' => e = .returned (.bool (lateB a now most)) ∧ w' = w := by
  obtain ⟨ha0, ha1⟩ := ha
  obtain ⟨hn0, hn1⟩ := hn
  obtain ⟨L, hL⟩ : ∃ L, lateB a now most = L := ⟨_, rfl⟩
  have HL : Hid (decide (most < now - a) = L) := hL
  rw [hL]
  clear hL
  have hw : IntKind.i64.wrap (now - a) = now - a := IntWalk.i64_in _ (by omega)
  by_cases hlt : now < a
  · have h2 : now - a < 0 := by omega
    go_enter Try.func46, Try.ntmps46
    go_wp2_with fail
    go_ret
    exact ⟨ret_bool HL.out, rfl⟩
  · have h2 : ¬ now - a < 0 := by omega
    go_enter Try.func46, Try.ntmps46
    go_wp2_with fail
    go_ret
    exact ⟨ret_bool HL.out, rfl⟩

end Go.Proofs.Ytifcgkpannlnnaa
