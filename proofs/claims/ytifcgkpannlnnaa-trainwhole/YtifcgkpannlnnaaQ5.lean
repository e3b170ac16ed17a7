/- Contracts: Open, Close, All. -/
import Derived.Test.YtifcgkpannlnnaaQ4
namespace Go.Proofs.Ytifcgkpannlnnaa
open Go.RowKit Fl Go.Maps
set_option maxRecDepth 100000

theorem Reg.ne {w : World} {rb mb n : Nat} {m : Mp} (h : Reg w rb mb n m) : rb ≠ mb := by
  rintro rfl
  obtain ⟨es, ck, hb⟩ := h.is
  have := h.row
  unfold Row at this
  rw [hb] at this; cases this
/-- A register that was turned. -/
def RetReg (v : Value) (rb mb n : Nat) (m : Mp) (w : World) (e : Ending) (w' : World) : Prop := e = .returned v ∧ Reg w' rb mb n m ∧ KeptL [mb] w w'

theorem Reg.stored {w w' : World} {rb mb n n' : Nat} {m : Mp} {D : DataW Value} {id : Int} {v : Value} {t : Tr} (hr : Row w rb 93 #[.map (some mb)]) (ho : w.ownsMap Try.prog 3 heldV mb n D) (hD : MapD w D m) (hv : TrV w v t) (hne : rb ≠ mb)
    (ho' : w'.ownsMap Try.prog 3 heldV mb n' (D.put (.int .i64 id) (.held v))) (hg : w.grownBy w' (some mb)) : Reg w' rb mb n' (upd m id (some t)) ∧ KeptL [mb] w w' := by
  have hk := kept_of_turned hg
  have ho2 := ho
  obtain ⟨es, ck, hb, r1⟩ := ho2
  exact ⟨⟨hk.row hr (by simpa using hne), _, ho', hD.put ho.isMap hk hb id hv⟩, hk⟩
theorem Reg.struck {w w' : World} {rb mb n n' : Nat} {m : Mp} {D : DataW Value} {id : Int} (hr : Row w rb 93 #[.map (some mb)]) (ho : w.ownsMap Try.prog 3 heldV mb n D) (hD : MapD w D m) (hne : rb ≠ mb)
    (ho' : w'.ownsMap Try.prog 3 heldV mb n' (D.del (.int .i64 id))) (hg : w.grownBy w' (some mb)) : Reg w' rb mb n' (upd m id none) ∧ KeptL [mb] w w' := by
  have hk := kept_of_turned hg
  have ho2 := ho
  obtain ⟨es, ck, hb, r1⟩ := ho2
  exact ⟨⟨hk.row hr (by simpa using hne), _, ho', hD.del hk hb id⟩, hk⟩

set_option maxHeartbeats 4000000 in
theorem open_has (w : World) (rb mb n : Nat) (m : Mp) (h : Reg w rb mb n m) (id now : Int) (hid : (Lit.int .i64 id).wf = true) (t : Tr) (ht : m id = some t) :
    Calls Try.prog 25 #[.pointer (some ⟨rb, 0, none⟩), .int .i64 id, .int .i64 now] w (RetReg (.int .i64 8) rb mb n m w) := by
  have HF := Lib.hid (find_some w rb mb n m h id hid t ht)
  have HG := Lib.hid h
  clear h ht
  go_enter Try.func25, Try.ntmps25
  go_wp2_with fail
  refine HF.out.mono ?_; rintro x w1 ⟨vt, hr, rfl, hb⟩
  obtain ⟨A, c, rfl, -, -⟩ := hr
  simp only [ivals_length] at *
  have hb1 := hb.alloc hb.size (.cells (tcells t.id t.heard t.sure t.dir t.ahead (.slice A t.trail.length c)) 58)
  have HR1 := Lib.hid (HG.out.up hb1)
  have HK1 : Hid (KeptL [mb] w (w1.alloc (.cells (tcells t.id t.heard t.sure t.dir t.ahead (.slice A t.trail.length c)) 58))) := KeptL.of_below hb1
  clear hb hb1 HF HG
  go_wp2_with fail
  go_ret
  exact ⟨rfl, HR1.out, HK1.out⟩

set_option maxHeartbeats 4000000 in
theorem open_full (w : World) (rb mb n : Nat) (m : Mp) (ks : List Int) (h : Reg w rb mb n m) (hks : Ks ks m) (id now : Int) (hid : (Lit.int .i64 id).wf = true) (ht : m id = none) (h6 : 6 ≤ ks.length) :
    Calls Try.prog 25 #[.pointer (some ⟨rb, 0, none⟩), .int .i64 id, .int .i64 now] w (RetReg (.int .i64 6) rb mb n m w) := by
  have HF := Lib.hid (find_none w rb mb n m h id hid ht)
  have HG := Lib.hid h
  have HKS := Lib.hid hks
  clear h ht hks
  go_enter Try.func25, Try.ntmps25
  go_wp2_with fail
  refine HF.out.mono ?_; rintro x w1 ⟨rfl, hb⟩
  have hb1 := hb.alloc hb.size (.cells (tcells 0 0 0 0 0 (.slice none 0 0)) 58)
  have hg1 := HG.out.up hb1
  have HK1 : Hid (KeptL [mb] w (w1.alloc (.cells (tcells 0 0 0 0 0 (.slice none 0 0)) 58))) := KeptL.of_below hb1
  clear hb hb1 HF HG
  go_upto_region 6 with (fail)
  generalize w1.alloc (.cells #[.int .i64 0, .int .i64 0, .int .i64 0, .int .i64 0, .int .i64 0, .slice none 0 0] 58) = w2 at *
  have HR1 := Lib.hid hg1
  obtain ⟨D, hown, hD⟩ := hg1.map
  have c0 := hg1.row.cell 0
  simp only [List.getElem?_toArray, List.getElem?_cons_zero] at c0
  have hsz : (6 : Int) ≤ (Maps.size D : Int) := by rw [HKS.out.size hown hD]; omega
  clear hg1 hD h6
  go_wp2_with (first
    | (at_len; refine wpList_len_own _ rfl _ 91 rfl 3 58 Try.underlying91 heldV mb n D rfl hown ?_)
    | fail)
  go_ret
  exact ⟨rfl, HR1.out, HK1.out⟩

set_option maxHeartbeats 4000000 in
theorem open_ok (w : World) (rb mb n : Nat) (m : Mp) (ks : List Int) (h : Reg w rb mb n m) (hn : n ≤ 1000000) (hks : Ks ks m) (id now : Int) (hid : (Lit.int .i64 id).wf = true) (ht : m id = none) (h6 : ks.length < 6) :
    Calls Try.prog 25 #[.pointer (some ⟨rb, 0, none⟩), .int .i64 id, .int .i64 now] w (RetReg (.int .i64 0) rb mb (n + 1) (upd m id (some ⟨id, now, -1, 0, 0, []⟩)) w) := by
  have HF := Lib.hid (find_none w rb mb n m h id hid ht)
  have HG := Lib.hid h
  have HKS := Lib.hid hks
  clear h ht hks
  go_enter Try.func25, Try.ntmps25
  go_wp2_with fail
  refine HF.out.mono ?_; rintro x w1 ⟨rfl, hb⟩
  have hb1 := hb.alloc hb.size (.cells (tcells 0 0 0 0 0 (.slice none 0 0)) 58)
  have hg1 := HG.out.up hb1
  have HK1 : Hid (KeptL [mb] w (w1.alloc (.cells (tcells 0 0 0 0 0 (.slice none 0 0)) 58))) := KeptL.of_below hb1
  clear hb hb1 HF HG
  go_upto_region 6 with (fail)
  generalize w1.alloc (.cells #[.int .i64 0, .int .i64 0, .int .i64 0, .int .i64 0, .int .i64 0, .slice none 0 0] 58) = w2 at *
  obtain ⟨D, hown, hD⟩ := hg1.map
  have c0 := hg1.row.cell 0
  simp only [List.getElem?_toArray, List.getElem?_cons_zero] at c0
  have hsz : ¬ (6 : Int) ≤ (Maps.size D : Int) := by rw [HKS.out.size hown hD]; omega
  have hsz2 : ¬ 6 ≤ Maps.size D := by omega
  have HD := Lib.hid hD
  have HRW := Lib.hid hg1.row
  have HNE := Lib.hid hg1.ne
  have HOW := Lib.hid hown
  clear hg1 hD h6
  go_wp2_with (first
    | (at_len; refine wpList_len_own _ rfl _ 91 rfl 3 58 Try.underlying91 heldV mb n D rfl hown ?_)
    | (at_mapUpdate; refine wpList_mapUpdate_own _ rfl _ _ _ 91 rfl 3 58 keyed3 Try.underlying91 heldV mb n _ rfl hown (by unfold maxLen; omega) _ _ _ rfl rfl (key3 hid) (.held (.agg (tcells id now (-1) 0 0 (.slice none 0 0)))) [] rfl ?_; intro w3 hown3 hgrow3)
    | fail)
  obtain ⟨r1, r2⟩ := Reg.stored HRW.out HOW.out HD.out (⟨.slice none 0 0, rfl, Rd.empty _ _⟩ : TrV w2 _ ⟨id, now, -1, 0, 0, []⟩) HNE.out hown3 hgrow3
  have HZ1 := Lib.hid r1
  have HZ2 := Lib.hid (HK1.out.trans r2)
  clear r1 r2 hown3 hgrow3 hown c0
  go_wp2_with fail
  go_ret
  exact ⟨rfl, HZ1.out, HZ2.out⟩

end Go.Proofs.Ytifcgkpannlnnaa
