/- Contracts: the document's comparison of bytes, and its Join. -/
import Derived.Test.YtblbbdkpebacbaaDoorS1
namespace Go.Proofs.YtblbbdkpebacbaaDoor
open Go.RowKit Fl
set_option maxRecDepth 100000

theorem bvals_append (p q : List Nat) : bvals p ++ bvals q = bvals (p ++ q) := by simp [bvals]
theorem bvals_one (q : List Nat) : ∀ u ∈ bvals q, u.oneCell' = true := by
  intro u hu; simp only [bvals, List.mem_map] at hu; obtain ⟨x, _, rfl⟩ := hu; rfl


theorem Tryd.info5 : (Tryd.prog.info? 5).map (fun i => (i.zero, i.size, i.bytes)) = some (some (.int .u8 0), 1, 1) := by kernel_rfl

/-- It returns a slice of its own with these bytes; nothing that was there has turned. -/
def RetBytes (q : List Nat) (w : World) (e : Ending) (w' : World) : Prop := ∃ v', e = .returned v' ∧ w'.ownsRow w.heap.size 5 1 v' q.length (bvals q) ∧ Below w.heap.size w w'

theorem Rd.none_nil {w : World} {B n c : Nat} {q : List Nat} (h : Rd w B (.slice none n c) (bvals q)) : n = 0 ∧ c = 0 ∧ q = [] := by
  obtain ⟨A, c', hv, h0, hx⟩ := h
  injection hv with h1 h2 h3
  subst h1; subst h3
  have : q = [] := by
    cases q with
    | nil => rfl
    | cons a r => obtain ⟨b, o, hA, _⟩ := hx (by simp [bvals]); cases hA
  subst this
  exact ⟨by simpa [bvals] using h2, h0.1 rfl, rfl⟩

theorem join_none_none (w : World) : Calls Tryd.prog 24 #[.slice none 0 0, .slice none 0 0] w (RetBytes [] w) := by
  obtain ⟨i0, hi, hz0, hz1, hz2⟩ := info_parts Tryd.info5
  go_enter Tryd.func24, Tryd.ntmps24
  go_wp2_with (first
    | (at_builtin; refine wpList_append_own_none rfl (.tmp 6) (.tmp 7) 26 rfl w.heap.size 5 i0 1 Tryd.underlying26 hi _ 0 [] rfl (World.ownsRow_nil _ _ _ _) rfl ?_)
    | (at_builtin; refine wpList_append_own_none rfl (.tmp 9) (.tmp 10) 26 rfl w.heap.size 5 i0 1 Tryd.underlying26 hi _ 0 [] rfl (World.ownsRow_nil _ _ _ _) rfl ?_))
  go_ret
  exact ⟨_, rfl, World.ownsRow_nil _ _ _ _, Below.refl _ _⟩

theorem join_some_none (w : World) (B : Nat) (ad : Addr) (q : List Nat) (c : Nat) (h : Rd w B (.slice (some ad) q.length c) (bvals q)) (hl : q.length ≤ 10000000) :
    Calls Tryd.prog 24 #[.slice (some ad) q.length c, .slice none 0 0] w (RetBytes q w) := by
  obtain ⟨i0, hi, hz0, hz1, hz2⟩ := info_parts Tryd.info5
  have Hc := Lib.hid h.cells
  clear h
  go_enter Tryd.func24, Tryd.ntmps24
  go_wp2_with (at_builtin; refine wpList_append_own _ rfl (.tmp 6) (.tmp 7) 26 rfl w.heap.size 5 i0 (.int .u8 0) 1 1 Tryd.underlying26 hi hz0 hz1 hz2 rfl (by decide) _ 0 [] rfl (World.ownsRow_nil _ _ _ _) ad _ _ (bvals q) rfl (by rw [bvals_length]; omega) Hc.out (bvals_one q) (by unfold maxLen; omega) (by omega) (Nat.le_refl _) ?_)
  intro v' w1 hown1 hgrow _
  have hb : Below w.heap.size w w1 := (Below.refl _ _).grown hgrow (Nat.le_refl _) (fun k hk => by simp [Value.ownBlock] at hk)
  have HO := Lib.hid hown1; have HB := Lib.hid hb
  clear hown1 hb hgrow
  go_wp2_with (at_builtin; refine wpList_append_own_none rfl (.tmp 9) (.tmp 10) 26 rfl w.heap.size 5 i0 1 Tryd.underlying26 hi _ _ _ rfl HO.out rfl ?_)
  go_ret
  exact ⟨_, rfl, by simpa using HO.out, HB.out⟩

theorem join_none_some (w : World) (B : Nat) (ad : Addr) (q : List Nat) (c : Nat) (h : Rd w B (.slice (some ad) q.length c) (bvals q)) (hl : q.length ≤ 10000000) :
    Calls Tryd.prog 24 #[.slice none 0 0, .slice (some ad) q.length c] w (RetBytes q w) := by
  obtain ⟨i0, hi, hz0, hz1, hz2⟩ := info_parts Tryd.info5
  have Hc := Lib.hid h.cells
  clear h
  go_enter Tryd.func24, Tryd.ntmps24
  go_wp2_with (first
    | (at_builtin; refine wpList_append_own_none rfl (.tmp 6) (.tmp 7) 26 rfl w.heap.size 5 i0 1 Tryd.underlying26 hi _ 0 [] rfl (World.ownsRow_nil _ _ _ _) rfl ?_)
    | (at_builtin; refine wpList_append_own _ rfl (.tmp 9) (.tmp 10) 26 rfl w.heap.size 5 i0 (.int .u8 0) 1 1 Tryd.underlying26 hi hz0 hz1 hz2 rfl (by decide) _ 0 [] rfl (World.ownsRow_nil _ _ _ _) ad _ _ (bvals q) rfl (by rw [bvals_length]; omega) Hc.out (bvals_one q) (by unfold maxLen; omega) (by omega) (Nat.le_refl _) ?_))
  intro v' w1 hown1 hgrow _
  have hb : Below w.heap.size w w1 := (Below.refl _ _).grown hgrow (Nat.le_refl _) (fun k hk => by simp [Value.ownBlock] at hk)
  have HO := Lib.hid hown1; have HB := Lib.hid hb
  clear hown1 hb hgrow
  go_wp2
  go_ret
  exact ⟨_, rfl, by simpa using HO.out, HB.out⟩

theorem join_some_some (w : World) (B : Nat) (ad ad2 : Addr) (q q2 : List Nat) (c c2 : Nat) (h : Rd w B (.slice (some ad) q.length c) (bvals q)) (h2 : Rd w B (.slice (some ad2) q2.length c2) (bvals q2)) (hB : B ≤ w.heap.size) (hl : q.length ≤ 10000000) (hl2 : q2.length ≤ 10000000) :
    Calls Tryd.prog 24 #[.slice (some ad) q.length c, .slice (some ad2) q2.length c2] w (RetBytes (q ++ q2) w) := by
  obtain ⟨i0, hi, hz0, hz1, hz2⟩ := info_parts Tryd.info5
  have Hc := Lib.hid h.cells
  have H2 := Lib.hid h2
  clear h h2
  have HBB := Lib.hid hB; clear hB
  go_enter Tryd.func24, Tryd.ntmps24
  go_wp2_with (at_builtin; refine wpList_append_own _ rfl (.tmp 6) (.tmp 7) 26 rfl w.heap.size 5 i0 (.int .u8 0) 1 1 Tryd.underlying26 hi hz0 hz1 hz2 rfl (by decide) _ 0 [] rfl (World.ownsRow_nil _ _ _ _) ad _ _ (bvals q) rfl (by rw [bvals_length]; omega) Hc.out (bvals_one q) (by unfold maxLen; omega) (by omega) (Nat.le_refl _) ?_)
  intro v' w1 hown1 hgrow _
  have hb : Below w.heap.size w w1 := (Below.refl _ _).grown hgrow (Nat.le_refl _) (fun k hk => by simp [Value.ownBlock] at hk)
  have Hc2 := Lib.hid (H2.out.below hb HBB.out).cells
  have HO := Lib.hid hown1; have HB := Lib.hid hb
  clear hown1 hb hgrow
  go_wp2_with (at_builtin; refine wpList_append_own _ rfl (.tmp 9) (.tmp 10) 26 rfl w.heap.size 5 i0 (.int .u8 0) 1 1 Tryd.underlying26 hi hz0 hz1 hz2 rfl (by decide) _ _ _ rfl HO.out ad2 _ _ (bvals q2) rfl (by rw [bvals_length]; omega) Hc2.out (bvals_one q2) (by unfold maxLen; omega) (by omega) HB.out.size ?_)
  intro v2 w2 hown2 hgrow2 _
  have hb2 : Below w.heap.size w w2 := HB.out.grown hgrow2 HB.out.size (fun k hk => (HO.out.lt k hk).1)
  have HO2 := Lib.hid hown2; have HB2 := Lib.hid hb2
  clear hown2 hb2 hgrow2
  go_wp2
  go_ret
  exact ⟨_, rfl, by rw [List.length_append, ← bvals_append]; exact HO2.out, HB2.out⟩

theorem join_any (w : World) (B : Nat) (v v2 : Value) (q q2 : List Nat) (h : Rd w B v (bvals q)) (h2 : Rd w B v2 (bvals q2)) (hB : B ≤ w.heap.size) (hl : q.length ≤ 10000000) (hl2 : q2.length ≤ 10000000) :
    Calls Tryd.prog 24 #[v, v2] w (RetBytes (q ++ q2) w) := by
  obtain ⟨A, c, rfl, _⟩ := id h
  obtain ⟨A2, c2, rfl, _⟩ := id h2
  simp only [bvals_length] at *
  cases A with
  | none =>
    obtain ⟨-, rfl, rfl⟩ := h.none_nil
    cases A2 with
    | none => obtain ⟨-, rfl, rfl⟩ := h2.none_nil; simp only [List.length_nil, List.nil_append]; exact join_none_none w
    | some ad2 => simp only [List.length_nil, List.nil_append]; exact join_none_some w B ad2 q2 c2 h2 hl2
  | some ad =>
    cases A2 with
    | none => obtain ⟨-, rfl, rfl⟩ := h2.none_nil; simp only [List.length_nil, List.append_nil]; exact join_some_none w B ad q c h hl
    | some ad2 => exact join_some_some w B ad ad2 q q2 c c2 h h2 hB hl hl2

set_option maxHeartbeats 1000000 in
theorem refBytes_true (w : World) (B : Nat) (va vb : Value) (q : List Nat) (ha : Rd w B va (bvals q)) (hb : Rd w B vb (bvals q)) (hl : q.length ≤ 10000000) :
    Calls Tryd.prog 15 #[va, vb] w fun e w' => e = .returned (.bool true) ∧ ∃ n, w' = w.drewN n := by
  obtain ⟨A, c, rfl, -, hA⟩ := ha
  obtain ⟨A', c', rfl, -, hB⟩ := hb
  simp only [bvals_length] at *
  have HA := Lib.hid hA; have HB := Lib.hid hB
  clear hA hB
  generalize hn : q.length = n at *
  have Hn := Lib.hid hn; clear hn
  go_enter Tryd.func15, Tryd.ntmps15
  go_wp2
  go_loopw [5] (fun t wr => ∃ i : Nat, i ≤ n ∧ t = .int .i64 i ∧ ∃ m, wr = w.drewN m) (fun t _ => n - (intOf t).toNat)
  case atStart => exact ⟨0, Nat.zero_le _, rfl, 0, rfl⟩
  case round =>
    obtain ⟨i, hi, rfl, m, rfl⟩ := hrel
    by_cases hlt : i < n
    · obtain ⟨b, o, rfl, _, h1⟩ := HA.out (by omega)
      obtain ⟨b', o', rfl, _, h2⟩ := HB.out (by omega)
      have hq : (bvals q)[i]? = some (.int .u8 (q[i]'(by have := Hn.out; omega) : Int)) := bvals_get q i (by have := Hn.out; omega)
      have k1 := h1 i _ hq
      have k2 := h2 i _ hq
      clear h1 h2 hq
      generalize (q[i]'(by have := Hn.out; omega) : Int) = x at k1 k2
      go_wp2
      go_quiet (fail)
      go_wp2
      go_roundw
      case rel => exact ⟨i + 1, by omega, by go_num, _, rfl⟩
      case measure => simp [intOf]; omega
    · go_wp2
      go_ret
      exact ⟨rfl, m, rfl⟩

set_option maxHeartbeats 1000000 in
/-- Two lists of one length that aren't one. -/
theorem refBytes_false (w : World) (B : Nat) (va vb : Value) (q r : List Nat) (ha : Rd w B va (bvals q)) (hb : Rd w B vb (bvals r)) (hl : q.length ≤ 10000000) (hqr : r.length = q.length) (hne : q ≠ r) :
    Calls Tryd.prog 15 #[va, vb] w fun e w' => e = .returned (.bool false) ∧ ∃ n, w' = w.drewN n := by
  obtain ⟨A, c, rfl, -, hA⟩ := ha
  obtain ⟨A', c', rfl, -, hB⟩ := hb
  simp only [bvals_length] at *
  rw [hqr] at hB
  rw [hqr]
  have HA := Lib.hid hA; have HB := Lib.hid hB; have HNE := Lib.hid hne; have Hr := Lib.hid hqr
  clear hA hB hne hqr
  generalize hn : q.length = n at *
  have Hn := Lib.hid hn; clear hn
  go_enter Tryd.func15, Tryd.ntmps15
  go_wp2
  go_loopw [5] (fun t wr => ∃ i : Nat, i ≤ n ∧ t = .int .i64 i ∧ Hid (q.take i = r.take i) ∧ ∃ m, wr = w.drewN m) (fun t _ => n - (intOf t).toNat)
  case atStart => exact ⟨0, Nat.zero_le _, rfl, rfl, 0, rfl⟩
  case round =>
    obtain ⟨i, hi, rfl, HE, m, rfl⟩ := hrel
    by_cases hlt : i < n
    · obtain ⟨b, o, rfl, _, h1⟩ := HA.out (by omega)
      obtain ⟨b', o', rfl, _, h2⟩ := HB.out (by omega)
      have hiq : i < q.length := by have := Hn.out; omega
      have hir : i < r.length := by have := Hr.out; have := Hn.out; omega
      have k1 := h1 i _ (bvals_get q i hiq)
      have k2 := h2 i _ (bvals_get r i hir)
      have HT : Hid (q[i] = r[i] → q.take (i + 1) = r.take (i + 1)) := fun e => by rw [List.take_succ_eq_append_getElem hiq, List.take_succ_eq_append_getElem hir, HE.out, e]
      clear h1 h2
      generalize q[i] = x at *
      generalize r[i] = y at *
      by_cases hxy : x = y
      · subst hxy
        have HT2 := Lib.hid (HT.out rfl)
        clear HT
        go_wp2
        go_quiet (fail)
        go_wp2
        go_roundw
        case rel => exact ⟨i + 1, by omega, by go_num, HT2, _, rfl⟩
        case measure => simp [intOf]; omega
      · have hd : ((x : Int) == (y : Int)) = false := by simp; omega
        clear hxy
        go_wp2
        go_quiet (fail)
        go_wp2
        go_ret
        exact ⟨rfl, m + nq, World.drewN_drewN _ _ _⟩
    · exfalso
      apply HNE.out
      have := HE.out
      rw [List.take_of_length_le (by have := Hn.out; omega), List.take_of_length_le (by have := Hr.out; have := Hn.out; omega)] at this
      exact this

end Go.Proofs.YtblbbdkpebacbaaDoor
