/- The law's walk: TrainFull. -/
import Derived.Test.YtifcgkpannlnnaaQ8
import Derived.Test.YtifcgkpannlnnaaQ2
namespace Go.Proofs.Ytifcgkpannlnnaa
open Go.RowKit Fl Go.Maps
set_option maxRecDepth 100000

/-- A register that a law made. -/
structure RSt (w W : World) (rb mb n : Nat) (m : Mp) : Prop where
  reg : Reg W rb mb n m
  bel : Below w.heap.size w W
  lo : w.heap.size ≤ mb
theorem RSt.call {w W W' : World} {rb mb n : Nat} {m : Mp} (h : RSt w W rb mb n m) (hb : Below W.heap.size W W') : RSt w W' rb mb n m :=
  ⟨h.reg.up hb, h.bel.trans (hb.mono h.bel.size), h.lo⟩
theorem RSt.turn {w W W' : World} {rb mb n n' : Nat} {m m' : Mp} (h : RSt w W rb mb n m) (hr : Reg W' rb mb n' m') (hk : KeptL [mb] W W') : RSt w W' rb mb n' m' :=
  ⟨hr, h.bel.trans (hk.below h.bel.size (fun k hk => by rw [List.mem_singleton] at hk; rw [hk]; exact h.lo)), h.lo⟩

theorem Ks.del {ks : List Int} {m : Mp} (h : Ks ks m) (id : Int) : Ks (ks.filter (fun x => !(x == id))) (upd m id none) := by
  refine ⟨h.sorted.filter _, fun x => ?_⟩
  rw [List.mem_filter, h.mem x]
  unfold upd
  by_cases e : x = id <;> simp [e]
theorem Ks.last {ks : List Int} {m : Mp} (h : Ks ks m) (id : Int) (t : Tr) (hl : ∀ x ∈ ks, x < id) : Ks (ks ++ [id]) (upd m id (some t)) := by
  refine ⟨List.pairwise_append.2 ⟨h.sorted, by simp, fun a ha b hb => by rw [List.mem_singleton] at hb; rw [hb]; exact hl a ha⟩, fun x => ?_⟩
  rw [List.mem_append, List.mem_singleton, h.mem x]
  unfold upd
  by_cases e : x = id <;> simp [e]

/-- The trains from ten on. -/
def tenL (i : Nat) : List Int := (List.range i).map fun (j : Nat) => 10 + (j : Int)
theorem tenL_succ (i : Nat) : tenL (i + 1) = tenL i ++ [10 + (i : Int)] := by unfold tenL; rw [List.range_succ, List.map_append]; rfl
theorem tenL_lt (i : Nat) : ∀ x ∈ tenL i, x < 10 + (i : Int) := by
  intro x hx
  obtain ⟨j, hj, rfl⟩ := List.mem_map.1 hx
  have := List.mem_range.1 hj
  omega
theorem tenL_len (i : Nat) : (tenL i).length = i := by simp [tenL]
theorem ks_none {ks : List Int} {m : Mp} (h : Ks ks m) (x : Int) (hx : x ∉ ks) : m x = none := by
  cases e : m x with
  | none => rfl
  | some t => exact absurd ((h.mem x).2 (by rw [e]; rfl)) hx
theorem ks_some {ks : List Int} {m : Mp} (h : Ks ks m) (x : Int) (hx : x ∈ ks) : ∃ t, m x = some t := Option.isSome_iff_exists.1 ((h.mem x).1 hx)
theorem ks_nil : Ks [] (fun _ => none) := ⟨List.Pairwise.nil, fun x => by simp⟩
theorem ten_del : ∀ j : Fin 6, ((tenL 6).filter (fun x => !(x == 10 + (j.val : Int)))).length = 5 := by decide
theorem ten_mem (j : Nat) (h : j < 6) : 10 + (j : Int) ∈ tenL 6 := List.mem_map.2 ⟨j, List.mem_range.2 h, rfl⟩

set_option maxHeartbeats 16000000 in
theorem lawFull (w : World) (n now : Int) (hn : 0 ≤ n ∧ n < 256) (hw : 0 ≤ now ∧ now < 65536) : Calls Try.prog 6 #[.int .u8 n, .int .u16 now] w (RetL true w) := by
  have hwr : IntKind.i64.wrap now = now := IntWalk.i64_in _ (by omega)
  obtain ⟨j, hj⟩ : ∃ j : Nat, n % 6 = (j : Int) := ⟨(n % 6).toNat, by omega⟩
  have hj6 : j < 6 := by omega
  have hmod : n.tmod 6 = (j : Int) := by rw [Int.tmod_eq_emod_of_nonneg (by omega)]; exact hj
  have HJL := Lib.hid (ten_del ⟨j, hj6⟩)
  have HJM := Lib.hid (ten_mem j hj6)
  obtain ⟨hw0, hw1⟩ := hw
  obtain ⟨hn0, hn1⟩ := hn
  go_enter Try.func6, Try.ntmps6
  go_wp2_with fail
  refine (nothing_any w).mono ?_; rintro x w1 ⟨rfl, hb⟩
  have HB1 := Lib.hid hb
  clear hb
  go_wp2_with fail
  refine (reg_new w1).mono ?_; rintro x w2 ⟨rb, mb, rfl, hr, hb2, hmb, hrb⟩
  have HS2 : Hid (RSt w w2 rb mb 0 (fun _ => none)) := ⟨hr, HB1.out.trans (hb2.mono HB1.out.size), Nat.le_trans HB1.out.size hmb⟩
  clear hr hb2 hmb hrb HB1
  go_wp2_with fail
  go_loopw [6] (fun iv wr => ∃ (i : Nat), i ≤ 6 ∧ iv = .int .i64 i ∧ Hid (∃ m, Ks (tenL i) m ∧ RSt w wr rb mb i m)) (fun iv _ => 6 - (intOf iv).toNat)
  case atStart => exact ⟨0, Nat.zero_le _, rfl, _, ks_nil, HS2.out⟩
  case round =>
    obtain ⟨i, hi, rfl, HM⟩ := hrel
    obtain ⟨m, hk, hs⟩ := HM.out
    by_cases hlt : i < 6
    · have HKS := Lib.hid hk
      have HRS := Lib.hid hs
      have hi0 : (i : Int) < 6 := by omega
      clear hk hs HM
      go_wp2_with fail
      refine (open_ok wr rb mb i m (tenL i) HRS.out.reg (by omega) HKS.out (10 + (i : Int)) now (wf_in (by omega) (by omega)) (ks_none HKS.out _ (fun hx => by have := tenL_lt i _ hx; omega)) (by rw [tenL_len]; exact hlt)).mono ?_; rintro x w3 ⟨rfl, r1, r2⟩
      have HM3 : Hid (∃ m, Ks (tenL (i + 1)) m ∧ RSt w w3 rb mb (i + 1) m) := ⟨_, by rw [tenL_succ]; exact HKS.out.last _ _ (tenL_lt i), HRS.out.turn r1 r2⟩
      clear r1 r2
      go_wp2_with fail
      go_roundw
      case rel => exact ⟨i + 1, by omega, by go_num, HM3⟩
      case measure => simp [intOf]; omega
    · have hi6 : i = 6 := by omega
      rw [hi6] at hk hs
      have HKS := Lib.hid hk
      have HRS := Lib.hid hs
      have hig : ¬ (i : Int) < 6 := by omega
      clear hk hs HM hi6
      go_wp2_with fail
      refine (open_full wr rb mb 6 m (tenL 6) HRS.out.reg HKS.out 99 0 (wf_in (by decide) (by decide)) (ks_none HKS.out _ (fun hx => by have := tenL_lt 6 _ hx; omega)) (by rw [tenL_len]; exact Nat.le_refl _)).mono ?_; rintro x w3 ⟨rfl, r1, r2⟩
      have HS3 := Lib.hid (HRS.out.turn r1 r2)
      clear r1 r2
      obtain ⟨t, ht⟩ := ks_some HKS.out _ HJM.out
      have HT := Lib.hid ht
      clear ht
      go_wp2_with fail
      refine (open_has w3 rb mb 6 m HS3.out.reg (10 + (j : Int)) 0 (wf_in (by omega) (by omega)) t HT.out).mono ?_; rintro x w4 ⟨rfl, r1, r2⟩
      have HS4 := Lib.hid (HS3.out.turn r1 r2)
      clear r1 r2 HS3
      go_wp2_with fail
      refine (close_ok w4 rb mb 6 m HS4.out.reg (10 + (j : Int)) (wf_in (by omega) (by omega)) t HT.out).mono ?_; rintro x w5 ⟨rfl, r1, r2⟩
      have HS5 := Lib.hid (HS4.out.turn r1 r2)
      clear r1 r2 HS4
      go_wp2_with fail
      refine (close_none w5 rb mb 6 _ HS5.out.reg (10 + (j : Int)) (wf_in (by omega) (by omega)) (by simp [upd])).mono ?_; rintro x w6 ⟨rfl, r1, r2⟩
      have HS6 := Lib.hid (HS5.out.turn r1 r2)
      clear r1 r2 HS5
      have HK6 := Lib.hid (HKS.out.del (10 + (j : Int)))
      have HL6 : Hid (∀ x ∈ (tenL 6).filter (fun x => !(x == 10 + (j : Int))), x < 99) := fun x hx => by have := tenL_lt 6 x (List.mem_filter.1 hx).1; omega
      go_wp2_with fail
      refine (open_ok w6 rb mb 6 _ _ HS6.out.reg (by omega) HK6.out 99 0 (wf_in (by decide) (by decide)) (ks_none HK6.out _ (fun hx => by have := HL6.out _ hx; omega)) (by rw [HJL.out]; decide)).mono ?_; rintro x w7 ⟨rfl, r1, r2⟩
      have HS7 := Lib.hid (HS6.out.turn r1 r2)
      have HK7 := Lib.hid (HK6.out.last 99 ⟨99, 0, -1, 0, 0, []⟩ HL6.out)
      have HL7 : Hid (((tenL 6).filter (fun x => !(x == 10 + (j : Int))) ++ [99]).length = 6) := by show _ = _; rw [List.length_append, HJL.out]; rfl
      clear r1 r2 HS6
      go_wp2_with fail
      refine (all_any w7 rb mb _ _ _ HS7.out.reg HK7.out (by rw [HL7.out]; decide)).mono ?_; rintro x w8 ⟨v8, rfl, ho, hb⟩
      rw [HL7.out] at ho
      have HB8 := Lib.hid (HS7.out.call hb).bel
      obtain ⟨A8, c8, hv8⟩ := own_slice ho
      subst hv8
      clear ho hb
      go_wp2_with fail
      go_ret
      exact ⟨rfl, HB8.out⟩

end Go.Proofs.Ytifcgkpannlnnaa
