/- Contracts of the document's own bits: Put and Bytes. -/
import Derived.Test.YthpfhcelmddjlaaOwn
import Derived.Deep.Cut
namespace Go.Proofs.Ythpfhcelmddjlaa
open Go.RowKit
set_option maxRecDepth 100000

theorem Try.info4 : (Try.prog.info? 4).map (fun i => (i.zero, i.size, i.bytes)) = some (some (.bool false), 1, 1) := by kernel_rfl

def cvals (l : List Bool) : List Value := l.map Value.bool

theorem cvals_length (l : List Bool) : (cvals l).length = l.length := by simp [cvals]
theorem cvals_get (l : List Bool) (i : Nat) (h : i < l.length) : (cvals l)[i]? = some (.bool l[i]) := by simp [cvals, h]
theorem cvals_append (p q : List Bool) : cvals p ++ cvals q = cvals (p ++ q) := by simp [cvals]
theorem cvals_one (l : List Bool) : ∀ u ∈ cvals l, u.oneCell' = true := by
  intro u hu; simp only [cvals, List.mem_map] at hu; obtain ⟨x, _, rfl⟩ := hu; rfl

theorem one_new (w : World) (t : TypeId) (x : Value) : ∀ j u, [x][j]? = some u → (w.alloc (.cells #[x] t)).cell? ((⟨w.heap.size, 0, none⟩ : Addr).add j) = some u := by
  intro j u hj
  match j, hj with
  | 0, hj => simp at hj; subst hj; simp [Addr.add]

theorem one_cell {x : Value} (h : x.oneCell' = true) : ∀ u ∈ [x], u.oneCell' = true := by
  intro u hu; rw [List.mem_singleton] at hu; rw [hu]; exact h

/-- It returns a slice of its own with these bits; nothing that was there has turned. -/
def RetBits (l : List Bool) (w : World) (e : Ending) (w' : World) : Prop := ∃ v', e = .returned v' ∧ w'.ownsRow w.heap.size 4 1 v' l.length (cvals l) ∧ Below w.heap.size w w'

set_option maxHeartbeats 2000000 in
theorem refPut_in (w : World) (l : List Bool) (N W : Nat) (v : Value) (width : Int) (hsrc : (v = .slice none 0 0 ∧ l = []) ∨ ∃ b, w.ownsRow b 4 1 v l.length (cvals l)) (hl : l.length ≤ 900000) (hW : W ≤ 64) (hw : width = (W : Int)) :
    Calls Try.prog 68 #[v, .int .u64 (N : Int), .int .i64 width] w (RetBits (l ++ numBits N W) w) := by
  obtain ⟨i0, hi, hz0, hz1, hz2⟩ := info_parts Try.info4
  have hset : ∃ A c, v = .slice A l.length c ∧ (A = none → l = [] ∧ c = 0) ∧ (∀ ad, A = some ad → ∀ j u, (cvals l)[j]? = some u → w.cell? (ad.add j) = some u) := by
    rcases hsrc with ⟨rfl, rfl⟩ | ⟨b, ho⟩
    · exact ⟨none, 0, rfl, fun _ => ⟨rfl, rfl⟩, (fun ad h => by cases h)⟩
    · rcases ho.2 with ⟨rfl, hn⟩ | ⟨g, cap, cur, rfl, _⟩
      · exact ⟨none, 0, by rw [hn], fun _ => ⟨List.eq_nil_of_length_eq_zero hn, rfl⟩, (fun ad h => by cases h)⟩
      · exact ⟨some ⟨g, 0, none⟩, cap, rfl, (fun h => by cases h), (fun ad h j u hu => by injection h with h; subst h; exact ho.cells rfl j u hu)⟩
  clear hsrc
  obtain ⟨A, c, rfl, hn, hc⟩ := hset
  have HN := Lib.hid hn; have HC := Lib.hid hc
  clear hn hc
  subst hw
  cases A with
  | none =>
    obtain ⟨hl0, rfl⟩ := HN.out rfl
    clear HN HC
    have ho : w.ownsRow w.heap.size 4 1 (.slice none 0 0) l.length (cvals l) := by rw [hl0]; exact World.ownsRow_nil _ _ _ _
    rw [show l.length = 0 from by rw [hl0]; rfl]
    clear hl0
    have HO := Lib.hid ho; have HB := Lib.hid (Below.refl w.heap.size w)
    clear ho
    go_enter Try.func68, Try.ntmps68
    go_upto_region 4 with (fail)

    go_wp2_with (at_builtin; refine wpList_append_own_none rfl (.tmp 11) (.tmp 12) 78 rfl w.heap.size 4 i0 1 Try.underlying78 hi _ 0 [] rfl (World.ownsRow_nil _ _ _ _) rfl ?_)

    go_loopw [7, 8] (fun t c wr => ∃ i : Nat, i ≤ W ∧ c = .int .i64 i ∧ Hid (wr.ownsRow w.heap.size 4 1 t (l.length + i) (cvals (l ++ (numBits N W).take i)) ∧ Below w.heap.size w wr)) (fun _ c _ => W - (intOf c).toNat)
    case atStart => exact ⟨0, Nat.zero_le _, rfl, by simpa using HO.out, HB.out⟩
    case round =>
      obtain ⟨i, hi', rfl, HI⟩ := hrel
      by_cases hlt : i < W
      · obtain ⟨hox, hbx⟩ := HI.out
        have hbit := shr_bit_t N (W - 1 - i)
        have hap : cvals (l ++ (numBits N W).take i) ++ [.bool (N.testBit (W - 1 - i))] = cvals (l ++ (numBits N W).take (i + 1)) := by
          rw [numBits_take N W i hlt]; simp [cvals]
        have HAP := Lib.hid hap
        have HOX := Lib.hid hox; have HBX := Lib.hid hbx
        clear hox hbx hap
        go_wp2_with (at_builtin; refine wpList_append_own _ rfl (.tmp 19) (.tmp 28) 78 rfl w.heap.size 4 i0 (.bool false) 1 1 Try.underlying78 hi hz0 hz1 hz2 rfl (by decide) _ _ _ rfl (HOX.out.alloc _) ⟨wr.heap.size, 0, none⟩ 1 1 [.bool (N.testBit (W - 1 - i))] rfl rfl (one_new wr 4 _) (one_cell rfl) (by unfold maxLen; omega) (by omega) (by have := HBX.out.size; simp; omega) ?_)
        intro v2 w2 hown2 hgrow2 _
        rw [HAP.out] at hown2
        have hb2 : Below w.heap.size w w2 := (HBX.out.alloc HBX.out.size _).grown hgrow2 (by have := HBX.out.size; simp; omega) (fun k hk => (HOX.out.lt k hk).1)
        have H2 : Hid (w2.ownsRow w.heap.size 4 1 v2 (l.length + (i + 1)) (cvals (l ++ (numBits N W).take (i + 1))) ∧ Below w.heap.size w w2) := ⟨by rw [show l.length + (i + 1) = l.length + i + 1 from by omega]; exact hown2, hb2⟩
        clear hown2 hgrow2 hb2 hbit
        go_wp2
        go_roundw
        case rel => exact ⟨i + 1, by omega, by go_num, H2⟩
        case measure => simp [intOf]; omega
      · have hf : (numBits N W).take i = numBits N W := List.take_of_length_le (by rw [numBits_length]; omega)
        have hfl : l.length + i = (l ++ numBits N W).length := by rw [List.length_append, numBits_length]; omega
        have Hf := Lib.hid hf; have HFL := Lib.hid hfl
        clear hf hfl
        go_wp2
        go_ret
        exact ⟨_, rfl, by have h := HI.out.1; rw [Hf.out, HFL.out] at h; exact h, HI.out.2⟩

  | some ad =>
    have HC2 := Lib.hid (HC.out ad rfl)
    clear HN HC
    go_enter Try.func68, Try.ntmps68
    go_upto_region 4 with (fail)

    go_wp2_with (at_builtin; refine wpList_append_own _ rfl (.tmp 11) (.tmp 12) 78 rfl w.heap.size 4 i0 (.bool false) 1 1 Try.underlying78 hi hz0 hz1 hz2 rfl (by decide) _ 0 [] rfl (World.ownsRow_nil _ _ _ _) ad _ _ (cvals l) rfl (by rw [cvals_length]; omega) HC2.out (cvals_one l) (by unfold maxLen; omega) (by omega) (Nat.le_refl _) ?_)
    intro v' w1 hown1 hgrow _
    have hb : Below w.heap.size w w1 := (Below.refl _ _).grown hgrow (Nat.le_refl _) (fun k hk => by simp [Value.ownBlock] at hk)
    have HO := Lib.hid hown1; have HB := Lib.hid hb
    clear hown1 hb hgrow HC2
    go_wp2

    go_loopw [7, 8] (fun t c wr => ∃ i : Nat, i ≤ W ∧ c = .int .i64 i ∧ Hid (wr.ownsRow w.heap.size 4 1 t (l.length + i) (cvals (l ++ (numBits N W).take i)) ∧ Below w.heap.size w wr)) (fun _ c _ => W - (intOf c).toNat)
    case atStart => exact ⟨0, Nat.zero_le _, rfl, by simpa using HO.out, HB.out⟩
    case round =>
      obtain ⟨i, hi', rfl, HI⟩ := hrel
      by_cases hlt : i < W
      · obtain ⟨hox, hbx⟩ := HI.out
        have hbit := shr_bit_t N (W - 1 - i)
        have hap : cvals (l ++ (numBits N W).take i) ++ [.bool (N.testBit (W - 1 - i))] = cvals (l ++ (numBits N W).take (i + 1)) := by
          rw [numBits_take N W i hlt]; simp [cvals]
        have HAP := Lib.hid hap
        have HOX := Lib.hid hox; have HBX := Lib.hid hbx
        clear hox hbx hap
        go_wp2_with (at_builtin; refine wpList_append_own _ rfl (.tmp 19) (.tmp 28) 78 rfl w.heap.size 4 i0 (.bool false) 1 1 Try.underlying78 hi hz0 hz1 hz2 rfl (by decide) _ _ _ rfl (HOX.out.alloc _) ⟨wr.heap.size, 0, none⟩ 1 1 [.bool (N.testBit (W - 1 - i))] rfl rfl (one_new wr 4 _) (one_cell rfl) (by unfold maxLen; omega) (by omega) (by have := HBX.out.size; simp; omega) ?_)
        intro v2 w2 hown2 hgrow2 _
        rw [HAP.out] at hown2
        have hb2 : Below w.heap.size w w2 := (HBX.out.alloc HBX.out.size _).grown hgrow2 (by have := HBX.out.size; simp; omega) (fun k hk => (HOX.out.lt k hk).1)
        have H2 : Hid (w2.ownsRow w.heap.size 4 1 v2 (l.length + (i + 1)) (cvals (l ++ (numBits N W).take (i + 1))) ∧ Below w.heap.size w w2) := ⟨by rw [show l.length + (i + 1) = l.length + i + 1 from by omega]; exact hown2, hb2⟩
        clear hown2 hgrow2 hb2 hbit
        go_wp2
        go_roundw
        case rel => exact ⟨i + 1, by omega, by go_num, H2⟩
        case measure => simp [intOf]; omega
      · have hf : (numBits N W).take i = numBits N W := List.take_of_length_le (by rw [numBits_length]; omega)
        have hfl : l.length + i = (l ++ numBits N W).length := by rw [List.length_append, numBits_length]; omega
        have Hf := Lib.hid hf; have HFL := Lib.hid hfl
        clear hf hfl
        go_wp2
        go_ret
        exact ⟨_, rfl, by have h := HI.out.1; rw [Hf.out, HFL.out] at h; exact h, HI.out.2⟩


end Go.Proofs.Ythpfhcelmddjlaa
