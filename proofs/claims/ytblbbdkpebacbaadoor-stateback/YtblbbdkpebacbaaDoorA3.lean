/- Contracts of state: stateOf. -/
import Derived.Test.YtblbbdkpebacbaaDoorA2
namespace Go.Proofs.YtblbbdkpebacbaaDoor
open Go.RowKit Fl
set_option maxRecDepth 100000

/-- What a section is, by whose its part is. -/
def byO (xs : List Vw) (s who : Int) : Nat :=
  if who = -2 then 0 else if 0 ≤ who then (if inV xs who s = true then 1 else 0) else if anyV xs s = true then 2 else 3
theorem stO_by (L : Lay) (own : List Int) (xs : List Vw) (s : Int) : stO L own xs s = byO xs s (whoS L own s) := rfl
theorem inV_getD (xs : List Vw) (id s : Int) : inV xs id s = ((findV xs id).getD noV).2.2.contains s := by
  unfold inV
  cases findV xs id with
  | none => simp [noV]
  | some v => rfl

set_option maxHeartbeats 2000000 in
theorem stateOf_any (w : World) (v : Value) (ps : List Vw) (s who : Int) (h : Vws w w.heap.size v ps) (hl : ps.length ≤ 100) (hs : ∀ p ∈ ps, p.2.2.length ≤ 1000) (hw : -2 ≤ who) :
    Calls Tryd.prog 32 #[.int .i64 s, .int .i64 who, v] w fun e w' => e = .returned (.int .u8 (byO ps s who : Int)) ∧ Below w.heap.size w w' := by
  have HV := Lib.hid h
  by_cases h1 : who = -2
  · subst h1
    obtain ⟨A, c, vs, rfl, -⟩ := h
    have e0 : byO ps s (-2) = 0 := by unfold byO; rw [if_pos rfl]
    rw [e0]
    go_enter Tryd.func32, Tryd.ntmps32
    go_wp2_with fail
    go_ret
    exact ⟨rfl, Below.refl _ _⟩
  · by_cases h2 : who = -1
    · subst h2
      have e0 : byO ps s (-1) = (if anyV ps s = true then 2 else 3) := by unfold byO; rw [if_neg (by decide), if_neg (by decide)]
      have hn := notKnown_any w w.heap.size v ps s h (Nat.le_refl _) hl hs
      rw [e0]
      generalize (if anyV ps s = true then 2 else 3 : Nat) = q at *
      have HN := Lib.hid hn
      obtain ⟨A, c, vs, rfl, -⟩ := h
      clear hn e0
      go_enter Tryd.func32, Tryd.ntmps32
      go_wp2_with fail
      refine HN.out.mono ?_; rintro e w' ⟨rfl, hb⟩
      have HB := Lib.hid hb
      clear hb
      go_wp2_with fail
      go_ret
      exact ⟨rfl, HB.out⟩
    · have h3 : 0 ≤ who := by omega
      have e0 : byO ps s who = (if ((findV ps who).getD noV).2.2.contains s = true then 1 else 0) := by
        unfold byO; rw [if_neg h1, if_pos h3, inV_getD]
      have hln : ((findV ps who).getD noV).2.2.length ≤ 1000 := by
        cases e : findV ps who with
        | none => simp [noV]
        | some z => exact hs z (List.mem_of_find?_eq_some e)
      have hf := findC_any w v ps who h hl hs
      unfold RetFindC at hf
      rw [e0]
      have hiz : (findV ps who).isSome = true ∨ (findV ps who).isSome = false := by cases (findV ps who).isSome <;> simp
      generalize (findV ps who).isSome = z at *
      generalize (findV ps who).getD noV = y at *
      obtain ⟨y0, y1, y2⟩ := y
      simp only at hf hln e0 ⊢
      have HF := Lib.hid hf
      have HLN := Lib.hid hln
      obtain ⟨q, hq⟩ : ∃ q, y2.contains s = q := ⟨_, rfl⟩
      have HQ := Lib.hid hq
      rw [hq]
      obtain ⟨A, c, vs, rfl, -⟩ := h
      have g1 : (who == -2) = false := by simpa using h1
      have g2 : (who == -1) = false := by simpa using h2
      clear hf hln e0 hq hiz h3
      cases q <;>
      · go_enter Tryd.func32, Tryd.ntmps32
        go_wp2_with fail
        refine HF.out.mono ?_; rintro e w1 ⟨A5, c5, rfl, h5, hb⟩
        have h6 := (Below.refl w1.heap.size w1).alloc (Nat.le_refl _) (.cells #[.int .i64 y0, .bool y1, .slice A5 y2.length c5] 73)
        have HB := Lib.hid (hb.trans (h6.mono hb.size))
        have HC := Lib.hid (contains40 _ _ _ y2 s (h5.up h6) (by have := HLN.out; omega))
        rw [HQ.out] at HC
        clear hb h5 h6
        obtain ⟨yl, hyl⟩ : ∃ n, y2.length = n := ⟨_, rfl⟩
        rw [hyl] at HC HB ⊢
        clear hyl
        go_wp2_with fail
        refine HC.out.mono ?_; rintro e w2 ⟨rfl, rfl⟩
        go_wp2_with fail
        go_ret
        exact ⟨rfl, HB.out⟩
end Go.Proofs.YtblbbdkpebacbaaDoor
