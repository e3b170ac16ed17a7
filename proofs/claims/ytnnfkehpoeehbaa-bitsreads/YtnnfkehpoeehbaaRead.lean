/- Contracts: slices.Clone, the Writer's Bytes, NewReader, the document's comparison of bytes. -/
import Derived.Test.YtnnfkehpoeehbaaPut
import Derived.Deep.QuietTactic
import Derived.BigQuiet
import Derived.Deep.Draws
namespace Go.Proofs.Ytnnfkehpoeehbaa
open Go.RowKit

/-- A slice whose elements are these cells, in blocks below 'B'. -/
def Rd (w : World) (B : Nat) (v : Value) (xs : List Value) : Prop :=
  ∃ (A : Option Addr) (c : Nat), v = .slice A xs.length c ∧ (0 < xs.length → ∃ b o, A = some ⟨b, o, none⟩ ∧ b < B ∧ ∀ j u, xs[j]? = some u → w.cell? ⟨b, o + j, none⟩ = some u)

theorem Rd.of_own {w : World} {base n : Nat} {e : TypeId} {v : Value} {xs : List Value} (h : w.ownsRow base e 1 v n xs) : Rd w w.heap.size v xs := by
  have hl : xs.length = n := by simpa using h.1
  rcases h.2 with ⟨rfl, rfl⟩ | ⟨g, cap, cur, rfl, _⟩
  · exact ⟨none, 0, by rw [hl], fun hp => by omega⟩
  · refine ⟨some ⟨g, 0, none⟩, cap, by rw [hl], fun _ => ⟨g, 0, rfl, (h.lt g rfl).2, fun j u hu => ?_⟩⟩
    have hj : j < n := by have := (List.getElem?_eq_some_iff.1 hu).1; omega
    rw [Nat.zero_add, h.cellAt j (by omega)]; exact hu

theorem Rd.mono {w w' : World} {B B' : Nat} {v : Value} {xs : List Value} (h : Rd w B v xs) (hB : B ≤ B') (hc : ∀ p : Addr, p.block < B → w'.cell? p = w.cell? p) : Rd w' B' v xs := by
  obtain ⟨A, c, hv, hx⟩ := h
  refine ⟨A, c, hv, fun hp => ?_⟩
  obtain ⟨b, o, hA, hb, hcell⟩ := hx hp
  exact ⟨b, o, hA, by omega, fun j u hu => (hc _ hb).trans (hcell j u hu)⟩

theorem Rd.below {w w' : World} {B C : Nat} {v : Value} {xs : List Value} (h : Rd w B v xs) (hb : Below C w w') (hC : B ≤ C) : Rd w' B v xs :=
  h.mono (Nat.le_refl _) fun _ hp => hb.cell (by omega)

set_option maxHeartbeats 1000000 in
theorem clone_any (w : World) (v : Value) (xs : List Value) (h : Rd w w.heap.size v xs) (h1 : ∀ u ∈ xs, u.oneCell' = true) (hl : xs.length ≤ 10000000) :
    Calls Try.prog 28 #[v] w fun e w' => ∃ v', e = .returned v' ∧ w'.ownsRow w.heap.size 5 1 v' xs.length xs ∧ Below w.heap.size w w' := by
  obtain ⟨i0, hi, hz0, hz1, hz2⟩ := info_parts Try.info5
  obtain ⟨A, c, rfl, hx⟩ := h
  have hnil := fun (w : World) (a : Option Addr) (n c : Nat) => Lib.run_eql_slice_nil (P := Try.prog) w 31 5 a n c 0 0 Try.underlying31
  cases A with
  | none =>
    have hx0 : xs = [] := by
      cases xs with
      | nil => rfl
      | cons a r => obtain ⟨b, o, hA, _⟩ := hx (by simp); cases hA
    subst hx0
    clear hx
    go_enter Try.func28, Try.ntmps28
    go_wp2
    go_ret
    exact ⟨_, rfl, World.ownsRow_nil _ _ _ _, Below.refl _ _⟩
  | some ad =>
    have hcells : ∀ j u, xs[j]? = some u → (w.alloc (.cells #[] 5)).cell? (ad.add j) = some u := by
      intro j u hu
      have hj := (List.getElem?_eq_some_iff.1 hu).1
      obtain ⟨b, o, hA, hb, hc⟩ := hx (by omega)
      injection hA with hA
      subst hA
      have e : (⟨b, o, none⟩ : Addr).add j = ⟨b, o + j, none⟩ := by unfold Addr.add; by_cases z : j = 0 <;> simp [z]
      rw [e, World.cell?_alloc_past _ _ _ hb]
      exact hc j u hu
    have hown : (w.alloc (.cells #[] 5)).ownsRow w.heap.size 5 1 (.slice (some ⟨w.heap.size, 0, none⟩) 0 0) 0 [] := World.ownsRow_lit w #[] 0 (Nat.le_refl _) (by unfold maxLen; omega) (by simp)
    have Hc := Lib.hid hcells
    have Ho := Lib.hid hown
    have H1 := Lib.hid h1
    clear hcells hown hx h1
    go_enter Try.func28, Try.ntmps28
    go_wp2_with (at_builtin; refine wpList_append_own _ rfl (.tmp 5) (.tmp 6) 31 rfl w.heap.size 5 i0 (.int .u8 0) 1 1 Try.underlying31 hi hz0 hz1 hz2 rfl (by decide) _ _ _ rfl Ho.out ad _ _ xs rfl (Nat.mul_one _).symm Hc.out H1.out (by unfold maxLen; omega) (by omega) (by simp) ?_)
    intro v' w1 hown1 hgrow _
    have hb : Below w.heap.size w w1 := ((Below.refl _ _).alloc (Nat.le_refl _) _).grown hgrow (by simp) (fun k hk => by simp [Value.ownBlock] at hk; omega)
    have HO := Lib.hid hown1; have HB := Lib.hid hb
    clear hown1 hb hgrow
    go_wp2
    go_ret
    exact ⟨_, rfl, HO.out, HB.out⟩

/-- It returns a slice of its own with these bytes; nothing that was there has turned. -/
def RetBytes (q : List Nat) (w : World) (e : Ending) (w' : World) : Prop := ∃ v', e = .returned v' ∧ w'.ownsRow w.heap.size 5 1 v' q.length (bvals q) ∧ Below w.heap.size w w'

theorem clone_bytes (w : World) (v : Value) (q : List Nat) (h : Rd w w.heap.size v (bvals q)) (hl : q.length ≤ 10000000) : Calls Try.prog 28 #[v] w (RetBytes q w) :=
  (clone_any w v (bvals q) h (bvals_one q) (by rw [bvals_length]; exact hl)).mono fun _ _ ⟨v', he, ho, hb⟩ => ⟨v', he, by rw [bvals_length] at ho; exact ho, hb⟩

theorem pack_length (l : List Bool) : (pack l).length = nb l.length := by unfold pack; exact packTo_length _ _

theorem bytes_some (w : World) (B g : Nat) (l : List Bool) (hW : Wr w B g l) (hl : l.length ≤ 1000000) : Calls Try.prog 13 #[.pointer (some ⟨g, 0, none⟩)] w (RetBytes (pack l) w) := by
  obtain ⟨v, hr, hown⟩ := hW
  have h0 := hr.cell 0
  simp only [List.getElem?_toArray, List.getElem?_cons_zero] at h0
  have hrd : Rd w w.heap.size v (bvals (pack l)) := Rd.of_own hown
  have hpl : (pack l).length ≤ 10000000 := by rw [pack_length]; unfold nb; omega
  have Hrd := Lib.hid hrd; have Hpl := Lib.hid hpl
  clear hr hown hrd hpl
  go_enter Try.func13, Try.ntmps13
  go_wp2_with fail
  refine (clone_bytes w v _ Hrd.out Hpl.out).mono ?_
  rintro e w' ⟨v', rfl, ho, hb⟩
  have HO := Lib.hid ho; have HB := Lib.hid hb
  clear ho hb
  go_wp2_with fail
  go_ret
  exact ⟨_, rfl, HO.out, HB.out⟩

theorem bytes_none (w : World) : Calls Try.prog 13 #[.pointer none] w fun e w' => e = .returned (.slice none 0 0) ∧ w = w' := by
  go_enter Try.func13, Try.ntmps13
  go_wp2
  go_ret
  exact ⟨rfl, rfl⟩

/-- A reader at block 'g' over the bytes 'q', 'rd' bits of which are read; its bytes lie from block 'B' on. -/
def Rr (w : World) (B g : Nat) (q : List Nat) (rd : Nat) (fl : Bool) : Prop :=
  ∃ v, Row w g 61 #[v, .int .i64 (rd : Int), .bool fl] ∧ w.ownsRow B 5 1 v q.length (bvals q)

/-- It returns a new reader. -/
def RetReader (q : List Nat) (w : World) (e : Ending) (w' : World) : Prop := ∃ g, e = .returned (.pointer (some ⟨g, 0, none⟩)) ∧ w.heap.size ≤ g ∧ Rr w' w.heap.size g q 0 false ∧ Below w.heap.size w w'

theorem newReader_any (w : World) (v : Value) (q : List Nat) (h : Rd w w.heap.size v (bvals q)) (hl : q.length ≤ 10000000) : Calls Try.prog 15 #[v] w (RetReader q w) := by
  have H := Lib.hid h; clear h
  go_enter Try.func15, Try.ntmps15
  go_wp2_with fail
  refine (clone_bytes w v _ H.out hl).mono ?_
  rintro e w' ⟨v', rfl, ho, hb⟩
  obtain ⟨A', c', rfl, _⟩ := Rd.of_own ho
  rw [bvals_length] at *
  have hr := Row.new w' 61 #[.slice A' q.length c', .int .i64 0, .bool false]
  have HO := Lib.hid ho; have HB := Lib.hid hb; have HR := Lib.hid hr
  clear ho hb hr
  go_wp2_with fail
  go_ret
  exact ⟨w'.heap.size, rfl, HB.out.size, ⟨_, HR.out, HO.out.alloc _⟩, HB.out.alloc HB.out.size _⟩

set_option maxHeartbeats 1000000 in
theorem refBytes_true (w : World) (B : Nat) (va vb : Value) (q : List Nat) (ha : Rd w B va (bvals q)) (hb : Rd w B vb (bvals q)) (hl : q.length ≤ 10000000) :
    Calls Try.prog 12 #[va, vb] w fun e w' => e = .returned (.bool true) ∧ ∃ n, w' = w.drewN n := by
  obtain ⟨A, c, rfl, hA⟩ := ha
  obtain ⟨A', c', rfl, hB⟩ := hb
  rw [bvals_length] at *
  have HA := Lib.hid hA; have HB := Lib.hid hB
  clear hA hB
  generalize hn : q.length = n at *
  have Hn := Lib.hid hn; clear hn
  go_enter Try.func12, Try.ntmps12
  go_wp2
  go_loopw [5] (fun t wr => ∃ i : Nat, i ≤ n ∧ t = .int .i64 i ∧ ∃ m, wr = w.drewN m) (fun t _ => n - (intOf t).toNat)
  case atStart => exact ⟨0, Nat.zero_le _, rfl, 0, rfl⟩
  case round =>
    obtain ⟨i, hi, rfl, m, rfl⟩ := hrel
    by_cases hlt : i < n
    · obtain ⟨b, o, rfl, _, h1⟩ := HA.out (by omega)
      obtain ⟨b', o', rfl, _, h2⟩ := HB.out (by omega)
      have hq : (bvals q)[i]? = some (.int .u8 (q[i]'(by have := Hn.out; omega) : Int)) := bvals_get q i (by have := Hn.out; omega)
      have k1 := h1 i _ hq
      have k2 := h2 i _ hq
      clear h1 h2 hq
      generalize (q[i]'(by have := Hn.out; omega) : Int) = x at k1 k2
      go_wp2
      go_quiet (fail)
      go_wp2
      go_roundw
      case rel => exact ⟨i + 1, by omega, by go_num, _, rfl⟩
      case measure => simp [intOf]; omega
    · go_wp2
      go_ret
      exact ⟨rfl, m, rfl⟩

end Go.Proofs.Ytnnfkehpoeehbaa
