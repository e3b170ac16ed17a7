/- Pure: of the tracks of drafts: ends, parts. -/
import Derived.Test.YtpipkbdkkbcooaaBMath
import Derived.Test.YtpipkbdkkbcooaaN3
namespace Go.Proofs.Ytpipkbdkkbcooaa
open Go.RowKit Fl
set_option maxRecDepth 100000

def endsSum (ss : List (Int × Int × Int)) : Nat → Nat
  | 0 => 0
  | i + 1 => endsSum ss i + (endsL ss (i : Int)).length
theorem endsSum_se {ss tt : List (Int × Int × Int)} (h : SE ss tt) : ∀ i, endsSum ss i = endsSum tt i
  | 0 => rfl
  | i + 1 => by rw [endsSum, endsSum, endsSum_se h i, endsL_se h]
theorem endsSum_le (ss : List (Int × Int × Int)) : ∀ i, endsSum ss i ≤ 2 * ss.length * i
  | 0 => by simp [endsSum]
  | i + 1 => by
    have h1 := endsSum_le ss i
    have h2 := endsTo_le ss (i : Int) ss.length
    have h3 : (endsL ss (i : Int)).length = (endsTo ss (i : Int) ss.length).length := rfl
    rw [endsSum, h3, Nat.mul_add, Nat.mul_one]; omega
theorem ends_shapes : ∀ f : Fin 24, endsSum (makeL (dOf f.val)).secs (makeL (dOf f.val)).nodes.length = 2 * (makeL (dOf f.val)).secs.length := by decide +kernel
theorem ends_all (d : Dr) : endsSum (fullL d).secs (fullL d).nodes.length = 2 * (fullL d).secs.length := by
  have h := ends_shapes ⟨d.form % 24, Nat.mod_lt _ (by decide)⟩
  have e := shape_se d
  rw [endsSum_se e, e.1]
  have hn : (fullL d).nodes.length = (shape d).nodes.length := makeNodes_shape d
  rw [hn]; exact h

def symOk (L : Lay) : Bool := (List.range L.secs.length).all fun s => (nearTo L (s : Int) 2).all fun n => (nearTo L n 2).contains (s : Int)
theorem sym_shapes : ∀ f : Fin 24, symOk (makeL (dOf f.val)) = true := by decide +kernel
theorem near_sym (d : Dr) (s : Nat) (hs : s < (fullL d).secs.length) (n : Int) (hn : n ∈ nearL (fullL d) (s : Int)) : (s : Int) ∈ nearL (fullL d) n := by
  have h := sym_shapes ⟨d.form % 24, Nat.mod_lt _ (by decide)⟩
  have e := shape_se d
  have p := shape_pts d
  unfold nearL at hn ⊢
  rw [riseL_mem] at hn ⊢
  rw [nearTo_se e p] at hn ⊢
  rw [e.1] at hs
  have h2 := List.all_eq_true.1 h s (List.mem_range.2 hs)
  have h3 := List.all_eq_true.1 h2 n hn
  exact List.contains_iff_mem.1 h3

theorem putLast_flatten (l : List (List Int)) (x : Int) (h : 0 < l.length) : (putLast l x).flatten = l.flatten ++ [x] := by
  unfold putLast
  have hne : l ≠ [] := by intro e; rw [e] at h; simp at h
  rw [List.getLast?_eq_some_getLast hne]
  have e := List.dropLast_concat_getLast hne
  have e2 : l.flatten = (l.dropLast ++ [l.getLast hne]).flatten := by rw [e]
  rw [e2, List.flatten_append, List.flatten_append]
  simp
theorem makeParts_flatten (d : Dr) : ∀ n, (makeParts d n).flatten = (List.range n).map (fun (i : Nat) => (i : Int))
  | 0 => rfl
  | n + 1 => by
    have ih := makeParts_flatten d n
    rw [List.range_succ, List.map_append, ← ih]
    by_cases h : joins d n = true
    · rw [makeParts_join h]
      have hn : 0 < n := by unfold joins at h; simp at h; exact h.1
      exact putLast_flatten _ _ (makeParts_pos d n hn)
    · rw [makeParts_new h, List.flatten_append]; rfl
theorem parts_flatten (d : Dr) : (fullL d).parts.flatten = (List.range (fullL d).secs.length).map (fun (i : Nat) => (i : Int)) := by
  have h := makeParts_flatten d (makeEnds d).length
  have e : (fullL d).secs.length = (makeEnds d).length := makeSecs_len d _ _
  rw [e]; exact h
theorem parts_apart (d : Dr) : (fullL d).parts.Pairwise (fun a b => ∀ x ∈ a, ∀ y ∈ b, x ≠ y) := by
  have h : (fullL d).parts.flatten.Nodup := by
    rw [parts_flatten]
    unfold List.Nodup
    rw [List.pairwise_map]
    exact List.nodup_range.imp (by intro a b h; omega)
  unfold List.Nodup at h
  rw [List.pairwise_flatten] at h
  exact h.2
theorem part_of_mem (d : Dr) (i : Nat) (hi : i < (fullL d).parts.length) (s : Int) (hs : s ∈ (fullL d).parts[i]) : partL (fullL d).parts s = (i : Int) := by
  refine partL_at hi (List.contains_iff_mem.2 hs) fun j hj hji => ?_
  have h := List.pairwise_iff_getElem.1 (parts_apart d) j i hj hi hji
  cases hc : (fullL d).parts[j].contains s with
  | false => rfl
  | true => exact absurd rfl (h s (List.contains_iff_mem.1 hc) s hs)
theorem part_mem {ps : List (List Int)} {s : Int} (h : 0 ≤ partL ps s) : ∃ i : Nat, ∃ hi : i < ps.length, partL ps s = (i : Int) ∧ s ∈ ps[i] := by
  unfold partL at h ⊢
  cases e : ps.findIdx? (fun p => p.contains s) with
  | none => rw [e] at h; simp at h
  | some i =>
    rw [List.findIdx?_eq_some_iff_getElem] at e
    exact ⟨i, e.1, rfl, List.contains_iff_mem.1 e.2.1⟩
theorem mem_parts (d : Dr) (i : Nat) (hi : i < (fullL d).parts.length) (s : Int) (hs : s ∈ (fullL d).parts[i]) : ∃ n : Nat, s = (n : Int) ∧ n < (fullL d).secs.length := by
  have h : s ∈ (fullL d).parts.flatten := List.mem_flatten.2 ⟨_, List.getElem_mem hi, hs⟩
  rw [parts_flatten] at h
  obtain ⟨n, hn, rfl⟩ := List.mem_map.1 h
  exact ⟨n, rfl, List.mem_range.1 hn⟩
theorem part_all (d : Dr) (n : Nat) (hn : n < (fullL d).secs.length) : ∃ i : Nat, ∃ hi : i < (fullL d).parts.length, partL (fullL d).parts (n : Int) = (i : Int) ∧ ((fullL d).parts[i]).contains (n : Int) = true := by
  have h : (n : Int) ∈ (fullL d).parts.flatten := by
    rw [parts_flatten]
    exact List.mem_map.2 ⟨n, List.mem_range.2 hn, rfl⟩
  obtain ⟨l, hl, hx⟩ := List.mem_flatten.1 h
  obtain ⟨i, hi, rfl⟩ := List.getElem_of_mem hl
  exact ⟨i, hi, part_of_mem d i hi _ hx, List.contains_iff_mem.2 hx⟩

theorem besideL_mem (L : Lay) (i : Nat) (hi : i < L.parts.length) (b : Int) : b ∈ besideL L (i : Int) ↔ ∃ s ∈ L.parts[i], ∃ n ∈ nearL L s, partL L.parts n = b ∧ b ≠ (i : Int) ∧ 0 ≤ b := by
  unfold besideL
  rw [if_pos (by omega), riseL_mem]
  have e : L.parts.getD (i : Int).toNat [] = L.parts[i] := by simp [List.getD, hi]
  rw [e]
  unfold besTo partsOf otherP
  simp only [List.mem_flatMap, List.mem_filter, List.mem_map, Bool.and_eq_true, Bool.not_eq_true', beq_eq_false_iff_ne, decide_eq_true_eq]
  constructor
  · rintro ⟨s, hs, ⟨n, hn, e⟩, h1, h2⟩; exact ⟨s, hs, n, hn, e, h1, h2⟩
  · rintro ⟨s, hs, n, hn, e, h1, h2⟩; exact ⟨s, hs, ⟨n, hn, e⟩, h1, h2⟩
theorem beside_back (d : Dr) (i : Nat) (hi : i < (fullL d).parts.length) (b : Int) (hb : b ∈ besideL (fullL d) (i : Int)) : b ≠ (i : Int) ∧ (besideL (fullL d) b).contains (i : Int) = true := by
  obtain ⟨s, hs, n, hn, hp, hne, h0⟩ := (besideL_mem _ i hi b).1 hb
  refine ⟨hne, List.contains_iff_mem.2 ?_⟩
  obtain ⟨k, hk, hpk, hmem⟩ := part_mem (ps := (fullL d).parts) (s := n) (by rw [hp]; exact h0)
  have hbk : b = (k : Int) := by rw [← hp]; exact hpk
  subst hbk
  obtain ⟨m, rfl, hm⟩ := mem_parts d i hi s hs
  exact (besideL_mem _ k hk (i : Int)).2 ⟨n, hmem, (m : Int), near_sym d m hm n hn, part_of_mem d i hi _ hs, fun e => hne e.symm, by omega⟩
theorem lenL_at (ss : List (Int × Int × Int)) (i : Nat) (h : i < ss.length) : lenL ss (i : Int) = ss[i].1 := by
  unfold lenL hasB
  rw [if_pos (by simp; omega)]
  simp [List.getD, h]
theorem besideL_le (L : Lay) (hL : Fits L) (p : Int) : (besideL L p).length ≤ 400 := by
  unfold besideL
  split
  · rename_i h
    have h1 := riseL_le (besTo L p (L.parts.getD p.toNat []))
    have h2 := besTo_le L p (L.parts.getD p.toNat [])
    have h3 : (L.parts.getD p.toNat []).length ≤ 100 := by
      have hlt : p.toNat < L.parts.length := by omega
      rw [List.getD, List.getElem?_eq_getElem hlt]
      exact hL.r _ (List.getElem_mem _)
    omega
  · simp

end Go.Proofs.Ytpipkbdkkbcooaa
