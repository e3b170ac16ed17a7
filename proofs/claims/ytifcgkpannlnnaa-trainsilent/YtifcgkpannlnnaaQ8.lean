/- Contracts: Mute; Doubt where nobody is in doubt. -/
import Derived.Test.YtifcgkpannlnnaaQ7
namespace Go.Proofs.Ytifcgkpannlnnaa
open Go.RowKit Fl Go.Maps
set_option maxRecDepth 100000

/-- Some sessions struck. -/
def dropL (m : Mp) (l : List Int) : Mp := fun x => if l.contains x then none else m x
theorem dropL_nil (m : Mp) : dropL m [] = m := by funext x; simp [dropL]
theorem dropL_snoc (m : Mp) (l : List Int) (x : Int) : upd (dropL m l) x none = dropL m (l ++ [x]) := by
  funext y
  unfold upd dropL
  by_cases e : y = x
  · subst e; simp
  · simp [e]

def RetMute (L : List Int) (rb mb n : Nat) (m : Mp) (w : World) (e : Ending) (w' : World) : Prop := ∃ v, e = .returned v ∧ w'.ownsRow w.heap.size 3 1 v L.length (ivals L) ∧ Reg w' rb mb n m ∧ KeptL [mb] w w'

set_option maxHeartbeats 8000000 in
theorem mute_any (w : World) (rb mb n : Nat) (m : Mp) (ks : List Int) (h : Reg w rb mb n m) (hks : Ks ks m) (hl : ks.length ≤ 1000000) (hwf : Wf ks) (now most : Int) (ht : Timed m) (hn : Tm now) :
    Calls Try.prog 29 #[.pointer (some ⟨rb, 0, none⟩), .int .i64 now, .int .i64 most] w (RetMute (ks.filter (soB m (muteP now most))) rb mb n (dropL m (ks.filter (soB m (muteP now most)))) w) := by
  have hb2 := below2 w (.cells #[.int .i64 now] 2) (.cells #[.int .i64 most] 2)
  have hr1 := (Row.new w 2 #[.int .i64 now]).alloc (.cells #[.int .i64 most] 2)
  have hr2 := Row.new (w.alloc (.cells #[.int .i64 now] 2)) 2 #[.int .i64 most]
  rw [World.size_alloc] at hr2
  have hc1 := hr1.cell 0
  have hc2 := hr2.cell 0
  simp only [List.getElem?_toArray, List.getElem?_cons_zero] at hc1 hc2
  have hh := h.up hb2
  have HC := Lib.hid (those_mute _ rb mb n m ks hh hks hl hwf w.heap.size (w.heap.size + 1) now most hc1 hc2 hr1.lt hr2.lt ht hn)
  have HG := Lib.hid hh
  have HK2 : Hid (KeptL [mb] w ((w.alloc (.cells #[.int .i64 now] 2)).alloc (.cells #[.int .i64 most] 2))) := KeptL.of_below hb2
  have HLL : Hid ((ks.filter (soB m (muteP now most))).length ≤ 1000000) := Nat.le_trans (List.length_filter_le _ _) hl
  have HLW : Hid (Wf (ks.filter (soB m (muteP now most)))) := fun x hx => hwf x (List.mem_filter.1 hx).1
  have hsz := hb2.size
  obtain ⟨L, hL⟩ : ∃ L, ks.filter (soB m (muteP now most)) = L := ⟨_, rfl⟩
  rw [hL] at HC HLL HLW ⊢
  have HSZ := Lib.hid hsz
  clear h hks hwf ht hn hb2 hr1 hr2 hc1 hc2 hh hL hl hsz
  go_enter Try.func29, Try.ntmps29
  go_wp2_with fail
  refine HC.out.mono ?_; rintro e w1 ⟨v1, rfl, ho, hb⟩
  obtain ⟨A1, c1, hv1⟩ := own_slice ho
  subst hv1
  have HO1 := Lib.hid (own_base ho HSZ.out)
  have HG1 : Hid (Reg w1 rb mb n (dropL m (L.take 0))) := by show Reg _ _ _ _ _; rw [List.take_zero, dropL_nil]; exact HG.out.up hb
  have HK1 := Lib.hid (HK2.out.trans (KeptL.of_below hb))
  have hll := HLL.out
  clear ho hb HC HG HK2
  go_wp2_with fail
  go_loopw [15] (fun iv wr => ∃ (i : Nat), i ≤ L.length ∧ iv = .int .i64 i ∧ Hid (Reg wr rb mb n (dropL m (L.take i))) ∧ Hid (wr.ownsRow w.heap.size 3 1 (.slice A1 L.length c1) L.length (ivals L)) ∧ Hid (KeptL [mb] w wr)) (fun iv _ => L.length - (intOf iv).toNat)
  case atStart => exact ⟨0, Nat.zero_le _, rfl, HG1, HO1, HK1⟩
  case round =>
    obtain ⟨i, hi, rfl, HR, HO, HK⟩ := hrel
    by_cases hlt : i < L.length
    · obtain ⟨b, o', hA, hbB, q0⟩ := (Rd.of_own HO.out).at (i := i) (u := .int .i64 L[i]) (ivals_get L i hlt)
      subst hA
      have hid := HLW.out L[i] (List.getElem_mem _)
      have HT : Hid (L.take (i + 1) = L.take i ++ [L[i]]) := List.take_succ_eq_append_getElem hlt
      generalize L[i] = x at *
      have hgr := HR.out
      have c0 := hgr.row.cell 0
      simp only [List.getElem?_toArray, List.getElem?_cons_zero] at c0
      obtain ⟨D, hown, hD⟩ := hgr.map
      have HD := Lib.hid hD
      have HRW := Lib.hid hgr.row
      have HNE := Lib.hid hgr.ne
      have HOW := Lib.hid hown
      clear hgr hD
      go_wp2_with (first
        | (at_delete; refine wpList_delete_own _ rfl _ _ 91 3 rfl 58 keyed3 Try.underlying91 heldV mb n D rfl hown _ _ rfl (key3 hid) ?_; intro w3 hown3 hturn3)
        | fail)
      obtain ⟨r1, r2⟩ := Reg.struck HRW.out HOW.out HD.out HNE.out hown3 hturn3.grown
      rw [dropL_snoc, ← HT.out] at r1
      have HZ1 := Lib.hid r1
      have HZ2 := Lib.hid (HK.out.trans r2)
      have HZ3 := Lib.hid (HO.out.kept hturn3.grown (.inr (own_map_ne HO.out HOW.out).symm))
      clear r1 r2 hown3 hturn3 hown c0 q0
      go_roundw
      case rel => exact ⟨i + 1, by omega, by go_num, HZ1, HZ3, HZ2⟩
      case measure => simp [intOf]; omega
    · have HE : Hid (L.take i = L) := List.take_of_length_le (by omega)
      have HZ := HR.out
      rw [HE.out] at HZ
      have HZ1 := Lib.hid HZ
      clear HZ
      go_wp2_with fail
      go_ret
      exact ⟨_, rfl, HO.out, HZ1.out, HK.out⟩

set_option maxHeartbeats 8000000 in
theorem doubt_none (w : World) (rb mb n : Nat) (m : Mp) (ks : List Int) (h : Reg w rb mb n m) (hks : Ks ks m) (hl : ks.length ≤ 1000000) (hwf : Wf ks) (now most : Int) (ht : Timed m) (hn : Tm now) (hno : ks.filter (soB m (doubtP now most)) = []) :
    Calls Try.prog 30 #[.pointer (some ⟨rb, 0, none⟩), .int .i64 now, .int .i64 most] w (RetMute [] rb mb n m w) := by
  have hb2 := below2 w (.cells #[.int .i64 now] 2) (.cells #[.int .i64 most] 2)
  have hr1 := (Row.new w 2 #[.int .i64 now]).alloc (.cells #[.int .i64 most] 2)
  have hr2 := Row.new (w.alloc (.cells #[.int .i64 now] 2)) 2 #[.int .i64 most]
  rw [World.size_alloc] at hr2
  have hc1 := hr1.cell 0
  have hc2 := hr2.cell 0
  simp only [List.getElem?_toArray, List.getElem?_cons_zero] at hc1 hc2
  have hh := h.up hb2
  have hc := those_doubt _ rb mb n m ks hh hks hl hwf w.heap.size (w.heap.size + 1) now most hc1 hc2 hr1.lt hr2.lt ht hn
  rw [hno] at hc
  have HC := Lib.hid hc
  have HG := Lib.hid hh
  have HK2 : Hid (KeptL [mb] w ((w.alloc (.cells #[.int .i64 now] 2)).alloc (.cells #[.int .i64 most] 2))) := KeptL.of_below hb2
  have HSZ := Lib.hid hb2.size
  clear h hks hwf ht hn hb2 hr1 hr2 hc1 hc2 hh hc hno hl
  go_enter Try.func30, Try.ntmps30
  go_wp2_with fail
  refine HC.out.mono ?_; rintro e w1 ⟨v1, rfl, ho, hb⟩
  obtain ⟨A1, c1, hv1⟩ := own_slice ho
  subst hv1
  have HO1 := Lib.hid (own_base ho HSZ.out)
  have HG1 := Lib.hid (HG.out.up hb)
  have HK1 := Lib.hid (HK2.out.trans (KeptL.of_below hb))
  clear ho hb HC HG HK2
  go_wp2_with fail
  refine wp_loop_rounds 1 ?_
  rw [rounds_succ]
  go_wp2_with fail
  go_ret
  exact ⟨_, rfl, HO1.out, HG1.out, HK1.out⟩

end Go.Proofs.Ytifcgkpannlnnaa
