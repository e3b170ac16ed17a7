/- Contracts of package bits' Writer: what one bit laid leaves: one bit more, in the writer's own memory alone. -/
import Derived.Test.YthpfhcelmddjlaaKnown
import Derived.Test.YthpfhcelmddjlaaArg
import Derived.Test.YthpfhcelmddjlaaMem
import Derived.Test.YthpfhcelmddjlaaBitMath
import Derived.RegionTactic
import Derived.ChangeAlike
import Derived.BigRegion
namespace Go.Proofs.Ythpfhcelmddjlaa
open Go.RowKit

/-- A writer at block 'g' that has laid the bits 'l'; its bytes lie from block 'B' on. -/
def Wr (w : World) (B g : Nat) (l : List Bool) : Prop :=
  ∃ v, Row w g 59 #[v, .int .i64 (l.length : Int)] ∧ w.ownsRow B 5 1 v (nb l.length) (bvals (pack l))

theorem Wr.lt {w : World} {B g : Nat} {l : List Bool} (h : Wr w B g l) : g < w.heap.size := by obtain ⟨v, hr, _⟩ := h; exact hr.lt

theorem own_far {w : World} {base : Nat} {e : TypeId} {size : Nat} {v : Value} {n : Nat} {xs : List Value} (h : w.ownsRow base e size v n xs) {a : Addr} (ha : v.ownBlock ≠ some a.block) (u : Value) : (w.setCell a u).ownsRow base e size v n xs := by
  obtain ⟨h1, h2⟩ := h
  refine ⟨h1, ?_⟩
  rcases h2 with h2 | ⟨g, cap, cur, rfl, hg, hh, r⟩
  · exact Or.inl h2
  · refine Or.inr ⟨g, cap, cur, rfl, hg, ?_, r⟩
    rw [Below.heap_setCell _ _ _ _ (by intro e; subst e; exact ha rfl)]; exact hh

/-- No block but 'g' has turned that holds other things than bytes. -/
def Still (g : Nat) (w w' : World) : Prop := ∀ (k : Nat) (t : TypeId) (cs : Array Value) (fr : Nat × Nat), t ≠ 5 → k ≠ g → w.heap[k]? = some (.cells cs t fr) → w'.heap[k]? = some (.cells cs t fr)

theorem Still.refl (g : Nat) (w : World) : Still g w w := fun _ _ _ _ _ _ h => h
theorem Still.trans {g : Nat} {a b c : World} (h : Still g a b) (k : Still g b c) : Still g a c := fun i t cs fr ht hg hi => k i t cs fr ht hg (h i t cs fr ht hg hi)
theorem Still.drew {g : Nat} {a w : World} (h : Still g a w) : Still g a w.drew := h
theorem Still.alloc {g : Nat} {a w : World} (h : Still g a w) (o : Obj) : Still g a (w.alloc o) := fun i t cs fr ht hg hi => by
  have h1 := h i t cs fr ht hg hi
  have hlt : i < w.heap.size := by
    rcases Nat.lt_or_ge i w.heap.size with c | c
    · exact c
    · rw [Array.getElem?_eq_none c] at h1; cases h1
  rw [Below.heap_alloc w o i hlt]; exact h1
theorem Still.own {g i : Nat} {a w : World} (h : Still g a w) (u : Value) : Still g a (w.setCell ⟨g, i, none⟩ u) := fun k t cs fr ht hg hi => by
  rw [Below.heap_setCell w ⟨g, i, none⟩ u k hg]; exact h k t cs fr ht hg hi
theorem Still.bytes {g r i : Nat} {a w : World} {cur : Array Value} (h : Still g a w) (hr : w.heap[r]? = some (.cells cur 5 (0, 0))) (u : Value) : Still g a (w.setCell ⟨r, i, none⟩ u) := fun k t cs fr ht hg hi => by
  have h1 := h k t cs fr ht hg hi
  have hk : k ≠ r := by
    rintro rfl
    rw [hr] at h1
    injection h1 with h1
    injection h1 with _ h2
    exact ht h2.symm
  rw [Below.heap_setCell w ⟨r, i, none⟩ u k hk]; exact h1
theorem Still.grown {g : Nat} {a w w' : World} {base n size : Nat} {v : Value} {xs : List Value} (h : Still g a w) (ho : w.ownsRow base 5 size v n xs) (hgr : w.grownBy w' v.ownBlock) : Still g a w' := fun k t cs fr ht hg hi => by
  have h1 := h k t cs fr ht hg hi
  have hlt : k < w.heap.size := by
    rcases Nat.lt_or_ge k w.heap.size with c | c
    · exact c
    · rw [Array.getElem?_eq_none c] at h1; cases h1
  have hne : some k ≠ v.ownBlock := by
    intro e
    rcases ho.2 with ⟨rfl, _⟩ | ⟨g', cap, cur, rfl, _, hh, _⟩
    · simp [Value.ownBlock] at e
    · have : k = g' := by simpa [Value.ownBlock] using e
      subst this
      rw [hh] at h1
      injection h1 with h1
      injection h1 with _ h2
      exact ht h2.symm
  rw [hgr.block k hlt hne]; exact h1

theorem own_block {w : World} {base : Nat} {e : TypeId} {size n r cap : Nat} {xs : List Value} (h : w.ownsRow base e size (.slice (some ⟨r, 0, none⟩) n cap) n xs) : ∃ cur, w.heap[r]? = some (.cells cur e (0, 0)) := by
  rcases h.2 with ⟨h', _⟩ | ⟨g', cap', cur, h', _, hh, _⟩
  · simp at h'
  · injection h' with h1 _ _
    injection h1 with h1
    injection h1 with h1
    subst h1
    exact ⟨cur, hh⟩

theorem or_eq (y n : Nat) (b : Bool) (hy : y < 256) : bits .or .u8 (y : Int) ((b.toNat : Int) * 2 ^ (7 - (n : Int) % 8).toNat % 256) = ((y ||| b.toNat * 2 ^ (7 - n % 8) : Nat) : Int) := by
  have h1 : (7 - (n : Int) % 8).toNat = 7 - n % 8 := by omega
  have h2 : b.toNat * 2 ^ (7 - n % 8) < 256 := by
    have : 2 ^ (7 - n % 8) ≤ 2 ^ 7 := Nat.pow_le_pow_right (by decide) (by omega)
    cases b
    · simp
    · simp; omega
  have h3 : (b.toNat : Int) * 2 ^ (7 - (n : Int) % 8).toNat % 256 = ((b.toNat * 2 ^ (7 - n % 8) : Nat) : Int) := by
    rw [h1]
    have : (b.toNat : Int) * 2 ^ (7 - n % 8) = ((b.toNat * 2 ^ (7 - n % 8) : Nat) : Int) := by simp
    rw [this]; omega
  rw [h3, u8_or_nat _ _ hy h2]

set_option maxHeartbeats 1000000 in
theorem lay_old (w : World) (B g : Nat) (l : List Bool) (b : Bool) (hW : Wr w B g l) (hl : l.length ≤ 1000000) (hu : ¬ l.length % 8 = 0) :
    Calls Try.prog 78 #[.pointer (some ⟨g, 0, none⟩), .int .u8 (b.toNat : Int)] w fun e w' => e = .returned (.tuple #[]) ∧ Wr w' B g (l ++ [b]) ∧ Kept B g w w' ∧ Still g w w' := by
  obtain ⟨v, hr, hown⟩ := hW
  have hnb : nb l.length = l.length / 8 + 1 := by unfold nb; omega
  have hpk : pack l = packTo l (l.length / 8 + 1) := by unfold pack; rw [hnb]
  rw [hnb, hpk] at hown
  obtain ⟨r, cap, rfl⟩ : ∃ r cap, v = .slice (some ⟨r, 0, none⟩) (l.length / 8 + 1) cap := by
    rcases hown.2 with ⟨_, h⟩ | ⟨r, cap, _, h, _⟩
    · omega
    · exact ⟨r, cap, h⟩
  have hgr : g ≠ r := fun e => own_ne hown hr (by decide) (by rw [e]; rfl)
  have hrB : B ≤ r := (hown.lt r rfl).1
  have h0 := hr.cell 0; have h1 := hr.cell 1; have f0 := hr.frozen 0; have f1 := hr.frozen 1
  have h2 : w.cell? ⟨r, l.length / 8, none⟩ = some (.int .u8 (byteAt l (l.length / 8) : Int)) := by
    rw [hown.cellAt _ (by omega), bvals_get _ _ (by rw [packTo_length]; omega), packTo_get]
  have f2 := hown.frozenAt (l.length / 8)
  obtain ⟨cur, hcur⟩ := own_block hown
  have HCUR := Lib.hid hcur; clear hcur
  simp only [List.getElem?_toArray, List.getElem?_cons_zero, List.getElem?_cons_succ] at h0 h1
  have hor := or_eq (byteAt l (l.length / 8)) l.length b (byteAt_lt _ _)
  have Hor := Lib.hid hor
  have hst := hown.stored (l.length / 8) (.int .u8 ((byteAt l (l.length / 8) ||| b.toNat * 2 ^ (7 - l.length % 8) : Nat) : Int))
  rw [bvals_set, packTo_snoc] at hst
  have Hst := Lib.hid hst
  have Hown := Lib.hid hown
  have Hr := Lib.hid hr
  clear hor hst hown hr hpk hnb
  generalize hc : (l.length : Int) = c at *
  have Hc := Lib.hid hc; clear hc
  generalize hn : l.length / 8 = n at *
  have Hn := Lib.hid hn; clear hn
  have c0 : 0 ≤ c := by have := Hc.out; omega
  have c1 : c ≤ 1000000 := by have := Hc.out; omega
  have n1 : n ≤ 1000000 := by have := Hn.out; omega
  have hub : ((c % 8 : Int) == 0) = false := by have := Hc.out; simp; omega
  have hb0 := toNat_le b
  have hsh : 0 ≤ 7 - c % 8 := by omega
  clear hu hl
  go_enter Try.func78, Try.ntmps78
  go_wp2
  go_region
  go_wp2
  go_end0
  rw [Hor.out]
  refine ⟨rfl, ⟨.slice (some ⟨r, 0, none⟩) (n + 1) cap, ?_, ?_⟩, ?_⟩
  · have k := (Hr.out.far (p := ⟨r, n, none⟩) hgr (.int .u8 ((byteAt l n ||| b.toNat * 2 ^ (7 - l.length % 8) : Nat) : Int))).set 1 (.int .i64 (c + 1))
    have e : (((l ++ [b]).length : Nat) : Int) = c + 1 := by rw [List.length_append]; have := Hc.out; simp; omega
    rw [e]
    exact k
  · have k := own_far (a := ⟨g, 1, none⟩) Hst.out.1 (by intro e; injection e with e; exact hgr e.symm) (.int .i64 (c + 1))
    have e1 : nb (l ++ [b]).length = n + 1 := by rw [List.length_append]; show nb (l.length + 1) = _; rw [nb_snoc, Hn.out]
    rw [e1]
    unfold pack
    rw [e1]
    exact k
  · exact ⟨(((Kept.refl B g w).set (Or.inl hrB) _).drew).set (Or.inr rfl) _, (((Still.refl g w).bytes HCUR.out _).drew).own _⟩

set_option maxHeartbeats 1000000 in
theorem lay_new (w : World) (B g : Nat) (l : List Bool) (b : Bool) (hW : Wr w B g l) (hB : B ≤ w.heap.size) (hl : l.length ≤ 1000000) (hu : l.length % 8 = 0) :
    Calls Try.prog 78 #[.pointer (some ⟨g, 0, none⟩), .int .u8 (b.toNat : Int)] w fun e w' => e = .returned (.tuple #[]) ∧ Wr w' B g (l ++ [b]) ∧ Kept B g w w' ∧ Still g w w' := by
  obtain ⟨i0, hi, hz0, hz1, hz2⟩ := info_parts Try.info5
  obtain ⟨v, hr, hown⟩ := hW
  have hnb : nb l.length = l.length / 8 := by unfold nb; omega
  have hpk : pack l = packTo l (l.length / 8) := by unfold pack; rw [hnb]
  rw [hnb, hpk] at hown
  have hgv := own_ne hown hr (by decide)
  have hg := hr.lt
  have hrow : ∀ k, v.ownBlock = some k → B ≤ k := fun k hk => (hown.lt k hk).1
  have h0 := hr.cell 0; have h1 := hr.cell 1; have f0 := hr.frozen 0; have f1 := hr.frozen 1
  simp only [List.getElem?_toArray, List.getElem?_cons_zero, List.getElem?_cons_succ] at h0 h1
  have hap : bvals (packTo l (l.length / 8)) ++ [.int .u8 0] = bvals (packTo l (l.length / 8 + 1)) := by
    rw [packTo_zero (by omega), ← bvals_append]; rfl
  have hor := or_eq (byteAt l (l.length / 8)) l.length b (byteAt_lt _ _)
  have hsn := packTo_snoc l b
  have Hor := Lib.hid hor
  have Hap := Lib.hid hap
  have Hsn := Lib.hid hsn
  have Hown := Lib.hid hown
  have Hr := Lib.hid hr
  have Hgv := Lib.hid hgv
  have Hrow := Lib.hid hrow
  clear hor hap hsn hown hr hpk hnb hgv hrow
  generalize hc : (l.length : Int) = c at *
  have Hc := Lib.hid hc; clear hc
  generalize hn : l.length / 8 = n at *
  have Hn := Lib.hid hn; clear hn
  have c0 : 0 ≤ c := by have := Hc.out; omega
  have c1 : c ≤ 1000000 := by have := Hc.out; omega
  have n1 : n ≤ 1000000 := by have := Hn.out; omega
  have hub : ((c % 8 : Int) == 0) = true := by have := Hc.out; simp; omega
  have hb0 := toNat_le b
  have hsh : 0 ≤ 7 - c % 8 := by omega
  clear hu hl
  go_enter Try.func78, Try.ntmps78
  go_wp2_with (at_builtin; refine wpList_append_own _ rfl (.tmp 16) (.tmp 17) 35 rfl B 5 i0 (.int .u8 0) 1 1 Try.underlying35 hi hz0 hz1 hz2 rfl (by decide) _ _ _ rfl (Hown.out.alloc _) ⟨w.heap.size, 0, none⟩ 1 1 [.int .u8 0] rfl rfl ?c1 ?c2 ?c3 ?c4 ?c5 ?_)
  case c1 => intro j u hj; match j, hj with | 0, hj => simp at hj; subst hj; simp [Addr.add]
  case c2 => intro u hu; simp at hu; subst hu; rfl
  case c3 => unfold maxLen; omega
  case c4 => omega
  case c5 => simp; omega
  · intro v' w1 hown1 hgrow _
    rw [Hap.out] at hown1
    obtain ⟨r, cap, rfl⟩ : ∃ r cap, v' = .slice (some ⟨r, 0, none⟩) (n + 1) cap := by
      rcases hown1.2 with ⟨_, h⟩ | ⟨r, cap, _, h, _⟩
      · omega
      · exact ⟨r, cap, h⟩
    have hr1 : Row w1 g 59 #[v, .int .i64 c] := (Hr.out.alloc _).grown hgrow Hgv.out
    have hgr : g ≠ r := fun e => own_ne hown1 hr1 (by decide) (by rw [e]; rfl)
    have hrB : B ≤ r := (hown1.lt r rfl).1
    have k0 := hr1.cell 0; have k1 := hr1.cell 1; have e0 := hr1.frozen 0; have e1 := hr1.frozen 1
    simp only [List.getElem?_toArray, List.getElem?_cons_zero, List.getElem?_cons_succ] at k0 k1
    have k2 : w1.cell? ⟨r, n, none⟩ = some (.int .u8 (byteAt l n : Int)) := by
      rw [hown1.cellAt _ (by omega), bvals_get _ _ (by rw [packTo_length]; omega), packTo_get]
    have e2 := hown1.frozenAt n
    have hst := (own_far (a := ⟨g, 0, none⟩) hown1 (by intro e; injection e with e; exact hgr e.symm) (.slice (some ⟨r, 0, none⟩) (n + 1) cap)).stored n (.int .u8 ((byteAt l n ||| b.toNat * 2 ^ (7 - l.length % 8) : Nat) : Int))
    rw [bvals_set, Hsn.out] at hst
    have hkp : Kept B g w w1 := ((Kept.refl B g w).alloc hB _).grown hgrow (by simp; omega) Hrow.out
    have hsl : Still g w w1 := ((Still.refl g w).alloc _).grown (Hown.out.alloc _) hgrow
    have hsl2 := hsl.own (i := 0) (.slice (some ⟨r, 0, none⟩) (n + 1) cap)
    obtain ⟨cur, hcur⟩ := own_block (own_far (a := ⟨g, 0, none⟩) hown1 (by intro e; injection e with e; exact hgr e.symm) (.slice (some ⟨r, 0, none⟩) (n + 1) cap))
    have HSL := Lib.hid (hsl2.bytes (i := n) hcur (.int .u8 ((byteAt l n ||| b.toNat * 2 ^ (7 - l.length % 8) : Nat) : Int)))
    clear hsl hsl2 hcur
    have Hst := Lib.hid hst
    have Hr1 := Lib.hid hr1
    have Hkp := Lib.hid hkp
    clear hst hr1 hkp hown1 hgrow h0 h1 f0 f1
    go_wp2
    go_region
    go_wp2
    go_end0
    rw [Hor.out]
    refine ⟨rfl, ⟨.slice (some ⟨r, 0, none⟩) (n + 1) cap, ?_, ?_⟩, ?_⟩
    · have k := ((Hr1.out.set 0 (.slice (some ⟨r, 0, none⟩) (n + 1) cap)).far (p := ⟨r, n, none⟩) hgr (.int .u8 ((byteAt l n ||| b.toNat * 2 ^ (7 - l.length % 8) : Nat) : Int))).set 1 (.int .i64 (c + 1))
      have e : (((l ++ [b]).length : Nat) : Int) = c + 1 := by rw [List.length_append]; have := Hc.out; simp; omega
      rw [e]
      exact k
    · have k := own_far (a := ⟨g, 1, none⟩) Hst.out.1 (by intro e; injection e with e; exact hgr e.symm) (.int .i64 (c + 1))
      have e1 : nb (l ++ [b]).length = n + 1 := by rw [List.length_append]; show nb (l.length + 1) = _; rw [nb_snoc, Hn.out]
      rw [e1]
      unfold pack
      rw [e1]
      exact k
    · exact ⟨((((Hkp.out).set (Or.inr rfl) _).set (Or.inl hrB) _).drew).set (Or.inr rfl) _, (HSL.out.drew).own _⟩

theorem lay_still (w : World) (B g : Nat) (l : List Bool) (b : Bool) (hW : Wr w B g l) (hB : B ≤ w.heap.size) (hl : l.length ≤ 1000000) :
    Calls Try.prog 78 #[.pointer (some ⟨g, 0, none⟩), .int .u8 (b.toNat : Int)] w fun e w' => e = .returned (.tuple #[]) ∧ Wr w' B g (l ++ [b]) ∧ Kept B g w w' ∧ Still g w w' := by
  by_cases hu : l.length % 8 = 0
  · exact lay_new w B g l b hW hB hl hu
  · exact lay_old w B g l b hW hl hu

end Go.Proofs.Ythpfhcelmddjlaa
