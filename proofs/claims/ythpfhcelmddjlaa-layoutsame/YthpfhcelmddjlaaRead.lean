/- Contracts: slices.Clone, the Writer's Bytes, NewReader, the document's comparison of bytes. -/
import Derived.Test.YthpfhcelmddjlaaPut
import Derived.Deep.QuietTactic
import Derived.BigQuiet
import Derived.Deep.Draws
namespace Go.Proofs.Ythpfhcelmddjlaa
open Go.RowKit
set_option maxRecDepth 100000

set_option maxHeartbeats 1000000 in
theorem clone_any (w : World) (v : Value) (xs : List Value) (h : Rd w w.heap.size v xs) (h1 : ∀ u ∈ xs, u.oneCell' = true) (hl : xs.length ≤ 10000000) :
    Calls Try.prog 56 #[v] w fun e w' => ∃ v', e = .returned v' ∧ w'.ownsRow w.heap.size 5 1 v' xs.length xs ∧ Below w.heap.size w w' := by
  obtain ⟨i0, hi, hz0, hz1, hz2⟩ := info_parts Try.info5
  obtain ⟨A, c, rfl, -, hx⟩ := h
  have hnil := fun (w : World) (a : Option Addr) (n c : Nat) => Lib.run_eql_slice_nil (P := Try.prog) w 35 5 a n c 0 0 Try.underlying35
  cases A with
  | none =>
    have hx0 : xs = [] := by
      cases xs with
      | nil => rfl
      | cons a r => obtain ⟨b, o, hA, _⟩ := hx (by simp); cases hA
    subst hx0
    clear hx
    go_enter Try.func56, Try.ntmps56
    go_wp2
    go_ret
    exact ⟨_, rfl, World.ownsRow_nil _ _ _ _, Below.refl _ _⟩
  | some ad =>
    have hcells : ∀ j u, xs[j]? = some u → (w.alloc (.cells #[] 5)).cell? (ad.add j) = some u := by
      intro j u hu
      have hj := (List.getElem?_eq_some_iff.1 hu).1
      obtain ⟨b, o, hA, hb, hc⟩ := hx (by omega)
      obtain rfl := Option.some.inj hA
      have e : (⟨b, o, none⟩ : Addr).add j = ⟨b, o + j, none⟩ := by unfold Addr.add; by_cases z : j = 0 <;> simp [z]
      rw [e, World.cell?_alloc_past _ _ _ hb]
      exact hc j u hu
    have hown : (w.alloc (.cells #[] 5)).ownsRow w.heap.size 5 1 (.slice (some ⟨w.heap.size, 0, none⟩) 0 0) 0 [] := World.ownsRow_lit w #[] 0 (Nat.le_refl _) (by unfold maxLen; omega) (by simp)
    have Hc := Lib.hid hcells
    have Ho := Lib.hid hown
    have H1 := Lib.hid h1
    clear hcells hown hx h1
    go_enter Try.func56, Try.ntmps56
    go_wp2_with (at_builtin; refine wpList_append_own _ rfl (.tmp 5) (.tmp 6) 35 rfl w.heap.size 5 i0 (.int .u8 0) 1 1 Try.underlying35 hi hz0 hz1 hz2 rfl (by decide) _ _ _ rfl Ho.out ad _ _ xs rfl (Nat.mul_one _).symm Hc.out H1.out (by unfold maxLen; omega) (by omega) (by simp) ?_)
    intro v' w1 hown1 hgrow _
    have hb : Below w.heap.size w w1 := ((Below.refl _ _).alloc (Nat.le_refl _) _).grown hgrow (by simp) (fun k hk => by simp [Value.ownBlock] at hk; omega)
    have HO := Lib.hid hown1; have HB := Lib.hid hb
    clear hown1 hb hgrow
    go_wp2
    go_ret
    exact ⟨_, rfl, HO.out, HB.out⟩

theorem clone_bytes (w : World) (v : Value) (q : List Nat) (h : Rd w w.heap.size v (bvals q)) (hl : q.length ≤ 10000000) : Calls Try.prog 56 #[v] w (RetBytes q w) :=
  (clone_any w v (bvals q) h (bvals_one q) (by rw [bvals_length]; exact hl)).mono fun _ _ ⟨v', he, ho, hb⟩ => ⟨v', he, by rw [bvals_length] at ho; exact ho, hb⟩

theorem pack_length (l : List Bool) : (pack l).length = nb l.length := by unfold pack; exact packTo_length _ _

theorem bytes_some (w : World) (B g : Nat) (l : List Bool) (hW : Wr w B g l) (hl : l.length ≤ 1000000) : Calls Try.prog 32 #[.pointer (some ⟨g, 0, none⟩)] w (RetBytes (pack l) w) := by
  obtain ⟨v, hr, hown⟩ := hW
  have h0 := hr.cell 0
  simp only [List.getElem?_toArray, List.getElem?_cons_zero] at h0
  have hrd : Rd w w.heap.size v (bvals (pack l)) := Rd.of_own hown
  have hpl : (pack l).length ≤ 10000000 := by rw [pack_length]; unfold nb; omega
  have Hrd := Lib.hid hrd; have Hpl := Lib.hid hpl
  clear hr hown hrd hpl
  go_enter Try.func32, Try.ntmps32
  go_wp2_with fail
  refine (clone_bytes w v _ Hrd.out Hpl.out).mono ?_
  rintro e w' ⟨v', rfl, ho, hb⟩
  have HO := Lib.hid ho; have HB := Lib.hid hb
  clear ho hb
  go_wp2_with fail
  go_ret
  exact ⟨_, rfl, HO.out, HB.out⟩

/-- A reader at block 'g' over the bytes 'q', 'rd' bits of which are read; its bytes lie from block 'B' on. -/
def Rr (w : World) (B g : Nat) (q : List Nat) (rd : Nat) (fl : Bool) : Prop :=
  ∃ v, Row w g 99 #[v, .int .i64 (rd : Int), .bool fl] ∧ w.ownsRow B 5 1 v q.length (bvals q)

/-- It returns a new reader. -/
def RetReader (q : List Nat) (w : World) (e : Ending) (w' : World) : Prop := ∃ g, e = .returned (.pointer (some ⟨g, 0, none⟩)) ∧ w.heap.size ≤ g ∧ Rr w' w.heap.size g q 0 false ∧ Below w.heap.size w w'

theorem newReader_any (w : World) (v : Value) (q : List Nat) (h : Rd w w.heap.size v (bvals q)) (hl : q.length ≤ 10000000) : Calls Try.prog 34 #[v] w (RetReader q w) := by
  have H := Lib.hid h; clear h
  go_enter Try.func34, Try.ntmps34
  go_wp2_with fail
  refine (clone_bytes w v _ H.out hl).mono ?_
  rintro e w' ⟨v', rfl, ho, hb⟩
  obtain ⟨A', c', rfl, _⟩ := Rd.of_own ho
  rw [bvals_length] at *
  have hr := Row.new w' 99 #[.slice A' q.length c', .int .i64 0, .bool false]
  have HO := Lib.hid ho; have HB := Lib.hid hb; have HR := Lib.hid hr
  clear ho hb hr
  go_wp2_with fail
  go_ret
  exact ⟨w'.heap.size, rfl, HB.out.size, ⟨_, HR.out, HO.out.alloc _⟩, HB.out.alloc HB.out.size _⟩

end Go.Proofs.Ythpfhcelmddjlaa
