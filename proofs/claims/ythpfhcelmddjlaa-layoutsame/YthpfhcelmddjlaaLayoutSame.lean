/-
  PROVED: for every input the law LayoutSame returns true and leaves its arguments as they were: two layouts are the Same as the document says; one is the Same as itself, and none in which something is another thing. No condition.
-/
import Derived.Test.YthpfhcelmddjlaaRows
import Derived.Test.YthpfhcelmddjlaaRm5
import Derived.WalkKit
import Derived.ProofKit
import Derived.OpenShut
import Derived.ShutString
import Derived.ChangeOld
import Derived.Below
import Derived.Deep.RegionHeld3
import Derived.Deep.CutBlock
namespace Go.Proofs.Ythpfhcelmddjlaa.layoutSame
open Go.ChangeShapes Go.WideShapes Go.ChangeAt Go.RowKit
open Go.ChangeMaps (open_string shut_string)
set_option linter.unusedVariables false
set_option maxRecDepth 100000

theorem own : ownKnob Try.prog.godebug = none := by kernel_rfl
theorem laidOut : laidOutB Try.prog = true := by kernel_rfl

section

variable {P : Program} {ops : Array Oper} {Q : Exit → Act → World → Prop} {md : Region.Mode} {S : World → Prop} {t : Nat}

theorem any_two (i j : Nat) {oi oj : Oper} {n : Nat} {L : Array Bool} {a : Act} {w : World} (hi : ops[i]? = some oi) (hj : ops[j]? = some oj) (hr : Region.ready md ops L = [i, j]) (wi : Region.wanted oi (yielded ops a.tmps) = true) (wj : Region.wanted oj (yielded ops a.tmps) = true)
    (h1 : oi.wp P a w (fun a' w' => (i ≠ t → S w') ∧ AnyBut P md ops Q S t n (L.setIfInBounds i true) a' w') Q) (h2 : oj.wp P a w (fun a' w' => (j ≠ t → S w') ∧ AnyBut P md ops Q S t n (L.setIfInBounds j true) a' w') Q) : AnyBut P md ops Q S t (n + 1) L a w :=
  ⟨fun h0 => absurd (hr.symm.trans h0) (by simp), fun k hk => (by
    rw [hr] at hk
    simp only [List.mem_cons, List.not_mem_nil, or_false] at hk
    unfold wpOp
    rcases hk with e | e
    · rw [e]; simp only [hi, wi, if_true]; exact .inl h1
    · rw [e]; simp only [hj, wj, if_true]; exact .inl h2)⟩

theorem any_three (i j l : Nat) {oi oj ol : Oper} {n : Nat} {L : Array Bool} {a : Act} {w : World} (hi : ops[i]? = some oi) (hj : ops[j]? = some oj) (hl : ops[l]? = some ol) (hr : Region.ready md ops L = [i, j, l]) (wi : Region.wanted oi (yielded ops a.tmps) = true) (wj : Region.wanted oj (yielded ops a.tmps) = true) (wl : Region.wanted ol (yielded ops a.tmps) = true)
    (h1 : oi.wp P a w (fun a' w' => (i ≠ t → S w') ∧ AnyBut P md ops Q S t n (L.setIfInBounds i true) a' w') Q) (h2 : oj.wp P a w (fun a' w' => (j ≠ t → S w') ∧ AnyBut P md ops Q S t n (L.setIfInBounds j true) a' w') Q) (h3 : ol.wp P a w (fun a' w' => (l ≠ t → S w') ∧ AnyBut P md ops Q S t n (L.setIfInBounds l true) a' w') Q) : AnyBut P md ops Q S t (n + 1) L a w :=
  ⟨fun h0 => absurd (hr.symm.trans h0) (by simp), fun k hk => (by
    rw [hr] at hk
    simp only [List.mem_cons, List.not_mem_nil, or_false] at hk
    unfold wpOp
    rcases hk with e | e | e
    · rw [e]; simp only [hi, wi, if_true]; exact .inl h1
    · rw [e]; simp only [hj, wj, if_true]; exact .inl h2
    · rw [e]; simp only [hl, wl, if_true]; exact .inl h3)⟩

end

theorem five_up {W W' : World} {vN vS vP vQ vR : Value} {L : Lay} (h : Five W vN vS vP vQ vR L) (hb : Below W.heap.size W W') : Five W' vN vS vP vQ vR L := h.kept (KeptL.of_below (S := []) hb) (by intro t _ k hk; simp at hk)

theorem five_slices {W : World} {vN vS vP vQ vR : Value} {L : Lay} (h : Five W vN vS vP vQ vR L) : (∃ A k c, vN = .slice A k c) ∧ (∃ A k c, vS = .slice A k c) ∧ (∃ A k c, vP = .slice A k c) ∧ (∃ A k c, vQ = .slice A k c) ∧ ∃ A k c, vR = .slice A k c := by
  refine ⟨?_, ?_, ?_, ?_, ?_⟩
  · obtain ⟨A, c, e⟩ := h.n.slice; exact ⟨A, _, c, e⟩
  · obtain ⟨A, c, e⟩ := h.s.slice; exact ⟨A, _, c, e⟩
  · obtain ⟨A, c, e⟩ := h.p.slice; exact ⟨A, _, c, e⟩
  · obtain ⟨A, c, e⟩ := h.q.slice; exact ⟨A, _, c, e⟩
  · obtain ⟨A, c, e⟩ := h.r.slice; exact ⟨A, _, c, e⟩

/-- Both boxes. -/
def Boxes (g0 g1 : Nat) (S0 S1 : Array Value) (w : World) : Prop := Row w g0 25 S0 ∧ Row w g1 25 S1

open Fl

theorem own_other {w : World} {B n : Nat} {t0 : TypeId} {size : Nat} {v : Value} {xs : List Value} (h : w.ownsRow B t0 size v n xs) : ∀ t, t ≠ t0 → Other w t v.ownBlock.toList := by
  intro t ht k hk
  have hk' : v.ownBlock = some k := by simpa using hk
  rcases h.2 with ⟨rfl, _⟩ | ⟨r, cap, cur, rfl, _, hh, _⟩
  · cases hk'
  · injection hk' with e
    subst e
    exact ⟨t0, cur, ht, hh⟩

/-- What the law keeps: three layouts. -/
structure Three (w W : World) (n7 n8 n9 : Nat) (L M X : Lay) (pA0 : Option Addr) (pk0 pc0 : Nat) (pA1 : Option Addr) (pk1 pc1 : Nat) (pA2 : Option Addr) (pk2 pc2 : Nat) (pA3 : Option Addr) (pk3 pc3 : Nat) (pA4 : Option Addr) (pk4 pc4 : Nat) (sA0 : Option Addr) (sk0 sc0 : Nat) (sA1 : Option Addr) (sk1 sc1 : Nat) (sA2 : Option Addr) (sk2 sc2 : Nat) (sA3 : Option Addr) (sk3 sc3 : Nat) (sA4 : Option Addr) (sk4 sc4 : Nat) (yA0 : Option Addr) (yk0 yc0 : Nat) (yA1 : Option Addr) (yk1 yc1 : Nat) (yA2 : Option Addr) (yk2 yc2 : Nat) (yA3 : Option Addr) (yk3 yc3 : Nat) (yA4 : Option Addr) (yk4 yc4 : Nat) : Prop where
  r7 : Row W n7 33 #[.slice pA0 pk0 pc0, .slice pA1 pk1 pc1, .slice pA2 pk2 pc2, .slice pA3 pk3 pc3, .slice pA4 pk4 pc4, .int .i64 L.speed, .int .i64 L.mute, .int .i64 L.wait, .int .i64 L.cancel, .int .i64 L.stay]
  r8 : Row W n8 33 #[.slice sA0 sk0 sc0, .slice sA1 sk1 sc1, .slice sA2 sk2 sc2, .slice sA3 sk3 sc3, .slice sA4 sk4 sc4, .int .i64 M.speed, .int .i64 M.mute, .int .i64 M.wait, .int .i64 M.cancel, .int .i64 M.stay]
  r9 : Row W n9 33 #[.slice yA0 yk0 yc0, .slice yA1 yk1 yc1, .slice yA2 yk2 yc2, .slice yA3 yk3 yc3, .slice yA4 yk4 yc4, .int .i64 X.speed, .int .i64 X.mute, .int .i64 X.wait, .int .i64 X.cancel, .int .i64 X.stay]
  f7 : Five W (.slice pA0 pk0 pc0) (.slice pA1 pk1 pc1) (.slice pA2 pk2 pc2) (.slice pA3 pk3 pc3) (.slice pA4 pk4 pc4) L
  f8 : Five W (.slice sA0 sk0 sc0) (.slice sA1 sk1 sc1) (.slice sA2 sk2 sc2) (.slice sA3 sk3 sc3) (.slice sA4 sk4 sc4) M
  f9 : Five W (.slice yA0 yk0 yc0) (.slice yA1 yk1 yc1) (.slice yA2 yk2 yc2) (.slice yA3 yk3 yc3) (.slice yA4 yk4 yc4) X
  below : Below w.heap.size w W

theorem Three.up {w W : World} {n7 n8 n9 : Nat} {L M X : Lay} {pA0 pA1 pA2 pA3 pA4 sA0 sA1 sA2 sA3 sA4 yA0 yA1 yA2 yA3 yA4 : Option Addr} {pk0 pc0 pk1 pc1 pk2 pc2 pk3 pc3 pk4 pc4 sk0 sc0 sk1 sc1 sk2 sc2 sk3 sc3 sk4 sc4 yk0 yc0 yk1 yc1 yk2 yc2 yk3 yc3 yk4 yc4 : Nat} {W' : World} (h : Three w W n7 n8 n9 L M X pA0 pk0 pc0 pA1 pk1 pc1 pA2 pk2 pc2 pA3 pk3 pc3 pA4 pk4 pc4 sA0 sk0 sc0 sA1 sk1 sc1 sA2 sk2 sc2 sA3 sk3 sc3 sA4 sk4 sc4 yA0 yk0 yc0 yA1 yk1 yc1 yA2 yk2 yc2 yA3 yk3 yc3 yA4 yk4 yc4) (hb : Below W.heap.size W W') : Three w W' n7 n8 n9 L M X pA0 pk0 pc0 pA1 pk1 pc1 pA2 pk2 pc2 pA3 pk3 pc3 pA4 pk4 pc4 sA0 sk0 sc0 sA1 sk1 sc1 sA2 sk2 sc2 sA3 sk3 sc3 sA4 sk4 sc4 yA0 yk0 yc0 yA1 yk1 yc1 yA2 yk2 yc2 yA3 yk3 yc3 yA4 yk4 yc4 :=
  ⟨Below.row hb h.r7 h.r7.lt, Below.row hb h.r8 h.r8.lt, Below.row hb h.r9 h.r9.lt, five_up h.f7 hb, five_up h.f8 hb, five_up h.f9 hb, h.below.trans (hb.mono h.below.size)⟩
theorem Three.m7 {w W : World} {n7 n8 n9 : Nat} {L M X : Lay} {pA0 pA1 pA2 pA3 pA4 sA0 sA1 sA2 sA3 sA4 yA0 yA1 yA2 yA3 yA4 : Option Addr} {pk0 pc0 pk1 pc1 pk2 pc2 pk3 pc3 pk4 pc4 sk0 sc0 sk1 sc1 sk2 sc2 sk3 sc3 sk4 sc4 yk0 yc0 yk1 yc1 yk2 yc2 yk3 yc3 yk4 yc4 : Nat} (h : Three w W n7 n8 n9 L M X pA0 pk0 pc0 pA1 pk1 pc1 pA2 pk2 pc2 pA3 pk3 pc3 pA4 pk4 pc4 sA0 sk0 sc0 sA1 sk1 sc1 sA2 sk2 sc2 sA3 sk3 sc3 sA4 sk4 sc4 yA0 yk0 yc0 yA1 yk1 yc1 yA2 yk2 yc2 yA3 yk3 yc3 yA4 yk4 yc4) : LayV W W.heap.size (.agg #[.slice pA0 pk0 pc0, .slice pA1 pk1 pc1, .slice pA2 pk2 pc2, .slice pA3 pk3 pc3, .slice pA4 pk4 pc4, .int .i64 L.speed, .int .i64 L.mute, .int .i64 L.wait, .int .i64 L.cancel, .int .i64 L.stay]) L := IsLay.v ⟨_, _, _, _, _, rfl, h.f7⟩
theorem Three.m8 {w W : World} {n7 n8 n9 : Nat} {L M X : Lay} {pA0 pA1 pA2 pA3 pA4 sA0 sA1 sA2 sA3 sA4 yA0 yA1 yA2 yA3 yA4 : Option Addr} {pk0 pc0 pk1 pc1 pk2 pc2 pk3 pc3 pk4 pc4 sk0 sc0 sk1 sc1 sk2 sc2 sk3 sc3 sk4 sc4 yk0 yc0 yk1 yc1 yk2 yc2 yk3 yc3 yk4 yc4 : Nat} (h : Three w W n7 n8 n9 L M X pA0 pk0 pc0 pA1 pk1 pc1 pA2 pk2 pc2 pA3 pk3 pc3 pA4 pk4 pc4 sA0 sk0 sc0 sA1 sk1 sc1 sA2 sk2 sc2 sA3 sk3 sc3 sA4 sk4 sc4 yA0 yk0 yc0 yA1 yk1 yc1 yA2 yk2 yc2 yA3 yk3 yc3 yA4 yk4 yc4) : LayV W W.heap.size (.agg #[.slice sA0 sk0 sc0, .slice sA1 sk1 sc1, .slice sA2 sk2 sc2, .slice sA3 sk3 sc3, .slice sA4 sk4 sc4, .int .i64 M.speed, .int .i64 M.mute, .int .i64 M.wait, .int .i64 M.cancel, .int .i64 M.stay]) M := IsLay.v ⟨_, _, _, _, _, rfl, h.f8⟩
theorem Three.m9 {w W : World} {n7 n8 n9 : Nat} {L M X : Lay} {pA0 pA1 pA2 pA3 pA4 sA0 sA1 sA2 sA3 sA4 yA0 yA1 yA2 yA3 yA4 : Option Addr} {pk0 pc0 pk1 pc1 pk2 pc2 pk3 pc3 pk4 pc4 sk0 sc0 sk1 sc1 sk2 sc2 sk3 sc3 sk4 sc4 yk0 yc0 yk1 yc1 yk2 yc2 yk3 yc3 yk4 yc4 : Nat} (h : Three w W n7 n8 n9 L M X pA0 pk0 pc0 pA1 pk1 pc1 pA2 pk2 pc2 pA3 pk3 pc3 pA4 pk4 pc4 sA0 sk0 sc0 sA1 sk1 sc1 sA2 sk2 sc2 sA3 sk3 sc3 sA4 sk4 sc4 yA0 yk0 yc0 yA1 yk1 yc1 yA2 yk2 yc2 yA3 yk3 yc3 yA4 yk4 yc4) : LayV W W.heap.size (.agg #[.slice yA0 yk0 yc0, .slice yA1 yk1 yc1, .slice yA2 yk2 yc2, .slice yA3 yk3 yc3, .slice yA4 yk4 yc4, .int .i64 X.speed, .int .i64 X.mute, .int .i64 X.wait, .int .i64 X.cancel, .int .i64 X.stay]) X := IsLay.v ⟨_, _, _, _, _, rfl, h.f9⟩

theorem Three.cells {w W : World} {n7 n8 n9 : Nat} {L M X : Lay} {pA0 pA1 pA2 pA3 pA4 sA0 sA1 sA2 sA3 sA4 yA0 yA1 yA2 yA3 yA4 : Option Addr} {pk0 pc0 pk1 pc1 pk2 pc2 pk3 pc3 pk4 pc4 sk0 sc0 sk1 sc1 sk2 sc2 sk3 sc3 sk4 sc4 yk0 yc0 yk1 yc1 yk2 yc2 yk3 yc3 yk4 yc4 : Nat} (h : Three w W n7 n8 n9 L M X pA0 pk0 pc0 pA1 pk1 pc1 pA2 pk2 pc2 pA3 pk3 pc3 pA4 pk4 pc4 sA0 sk0 sc0 sA1 sk1 sc1 sA2 sk2 sc2 sA3 sk3 sc3 sA4 sk4 sc4 yA0 yk0 yc0 yA1 yk1 yc1 yA2 yk2 yc2 yA3 yk3 yc3 yA4 yk4 yc4) : W.cell? ⟨n7, 0, none⟩ = some (.slice pA0 pk0 pc0) ∧ W.cell? ⟨n7, 1, none⟩ = some (.slice pA1 pk1 pc1) ∧ W.cell? ⟨n7, 2, none⟩ = some (.slice pA2 pk2 pc2) ∧ W.cell? ⟨n7, 3, none⟩ = some (.slice pA3 pk3 pc3) ∧ W.cell? ⟨n7, 4, none⟩ = some (.slice pA4 pk4 pc4) ∧ W.cell? ⟨n7, 5, none⟩ = some (.int .i64 L.speed) ∧ W.cell? ⟨n7, 6, none⟩ = some (.int .i64 L.mute) ∧ W.cell? ⟨n7, 7, none⟩ = some (.int .i64 L.wait) ∧ W.cell? ⟨n7, 8, none⟩ = some (.int .i64 L.cancel) ∧ W.cell? ⟨n7, 9, none⟩ = some (.int .i64 L.stay) ∧ W.cell? ⟨n8, 0, none⟩ = some (.slice sA0 sk0 sc0) ∧ W.cell? ⟨n8, 1, none⟩ = some (.slice sA1 sk1 sc1) ∧ W.cell? ⟨n8, 2, none⟩ = some (.slice sA2 sk2 sc2) ∧ W.cell? ⟨n8, 3, none⟩ = some (.slice sA3 sk3 sc3) ∧ W.cell? ⟨n8, 4, none⟩ = some (.slice sA4 sk4 sc4) ∧ W.cell? ⟨n8, 5, none⟩ = some (.int .i64 M.speed) ∧ W.cell? ⟨n8, 6, none⟩ = some (.int .i64 M.mute) ∧ W.cell? ⟨n8, 7, none⟩ = some (.int .i64 M.wait) ∧ W.cell? ⟨n8, 8, none⟩ = some (.int .i64 M.cancel) ∧ W.cell? ⟨n8, 9, none⟩ = some (.int .i64 M.stay) ∧ W.cell? ⟨n9, 0, none⟩ = some (.slice yA0 yk0 yc0) ∧ W.cell? ⟨n9, 1, none⟩ = some (.slice yA1 yk1 yc1) ∧ W.cell? ⟨n9, 2, none⟩ = some (.slice yA2 yk2 yc2) ∧ W.cell? ⟨n9, 3, none⟩ = some (.slice yA3 yk3 yc3) ∧ W.cell? ⟨n9, 4, none⟩ = some (.slice yA4 yk4 yc4) ∧ W.cell? ⟨n9, 5, none⟩ = some (.int .i64 X.speed) ∧ W.cell? ⟨n9, 6, none⟩ = some (.int .i64 X.mute) ∧ W.cell? ⟨n9, 7, none⟩ = some (.int .i64 X.wait) ∧ W.cell? ⟨n9, 8, none⟩ = some (.int .i64 X.cancel) ∧ W.cell? ⟨n9, 9, none⟩ = some (.int .i64 X.stay) := by
  have h7 := h.r7; have h8 := h.r8; have h9 := h.r9
  refine ⟨?_, ?_, ?_, ?_, ?_, ?_, ?_, ?_, ?_, ?_, ?_, ?_, ?_, ?_, ?_, ?_, ?_, ?_, ?_, ?_, ?_, ?_, ?_, ?_, ?_, ?_, ?_, ?_, ?_, ?_⟩
  · have := h7.cell 0; simpa using this
  · have := h7.cell 1; simpa using this
  · have := h7.cell 2; simpa using this
  · have := h7.cell 3; simpa using this
  · have := h7.cell 4; simpa using this
  · have := h7.cell 5; simpa using this
  · have := h7.cell 6; simpa using this
  · have := h7.cell 7; simpa using this
  · have := h7.cell 8; simpa using this
  · have := h7.cell 9; simpa using this
  · have := h8.cell 0; simpa using this
  · have := h8.cell 1; simpa using this
  · have := h8.cell 2; simpa using this
  · have := h8.cell 3; simpa using this
  · have := h8.cell 4; simpa using this
  · have := h8.cell 5; simpa using this
  · have := h8.cell 6; simpa using this
  · have := h8.cell 7; simpa using this
  · have := h8.cell 8; simpa using this
  · have := h8.cell 9; simpa using this
  · have := h9.cell 0; simpa using this
  · have := h9.cell 1; simpa using this
  · have := h9.cell 2; simpa using this
  · have := h9.cell 3; simpa using this
  · have := h9.cell 4; simpa using this
  · have := h9.cell 5; simpa using this
  · have := h9.cell 6; simpa using this
  · have := h9.cell 7; simpa using this
  · have := h9.cell 8; simpa using this
  · have := h9.cell 9; simpa using this

set_option maxHeartbeats 16000000 in
theorem walk (d0 : Dr) (vr0 : Value) (d1 : Dr) (vr1 : Value) (a2 : Int) (w : World) (w0 : DrOk d0 ∧ BRows w w.heap.size vr0 d0.routes ∧ d0.routes.length ≤ 9223372036854775807 ∧ ∀ r ∈ d0.routes, r.length ≤ 9223372036854775807) (w1 : DrOk d1 ∧ BRows w w.heap.size vr1 d1.routes ∧ d1.routes.length ≤ 9223372036854775807 ∧ ∀ r ∈ d1.routes, r.length ≤ 9223372036854775807) (w2 : (Lit.int .u8 a2).wf = true) :
    Calls Try.prog 7 #[drV d0 vr0, drV d1 vr1, .int .u8 a2] w fun e w' => e = .returned (.bool true) ∧ Below w.heap.size w w' := by
  obtain ⟨a2n, rfl, ha2⟩ := u8_nat w2
  clear w2
  obtain ⟨hd0, hbr0, hl0, hrl0⟩ := w0
  obtain ⟨rA0, rk0, rc0, hvr0⟩ : ∃ A k c, vr0 = .slice A k c := by obtain ⟨vs, ⟨A, c, e, _⟩, _⟩ := hbr0; exact ⟨A, _, c, e⟩
  subst hvr0
  have HDK0 := Lib.hid hd0
  have HL0 : Hid (d0.routes.length ≤ 9223372036854775807 ∧ ∀ r ∈ d0.routes, r.length ≤ 9223372036854775807) := ⟨hl0, hrl0⟩
  have HD0 : Hid (∀ (U : World), Below w.heap.size w U → BRows U U.heap.size (.slice rA0 rk0 rc0) d0.routes) := fun U h => hbr0.up h
  clear hd0 hl0 hrl0 hbr0
  obtain ⟨hd1, hbr1, hl1, hrl1⟩ := w1
  obtain ⟨rA1, rk1, rc1, hvr1⟩ : ∃ A k c, vr1 = .slice A k c := by obtain ⟨vs, ⟨A, c, e, _⟩, _⟩ := hbr1; exact ⟨A, _, c, e⟩
  subst hvr1
  have HDK1 := Lib.hid hd1
  have HL1 : Hid (d1.routes.length ≤ 9223372036854775807 ∧ ∀ r ∈ d1.routes, r.length ≤ 9223372036854775807) := ⟨hl1, hrl1⟩
  have HD1 : Hid (∀ (U : World), Below w.heap.size w U → BRows U U.heap.size (.slice rA1 rk1 rc1) d1.routes) := fun U h => hbr1.up h
  clear hd1 hl1 hrl1 hbr1
  have hb0 := ((Below.refl w.heap.size w).alloc (Nat.le_refl _) (.cells #[.int .u8 (d0.form : Int), .int .u8 (d0.len : Int), .int .u8 (d0.speed : Int), .int .u16 (d0.mute : Int), .int .u16 (d0.wait : Int), .int .u8 (d0.cancel : Int), .int .u8 (d0.stay : Int), .int .u8 (d0.join : Int), .slice rA0 rk0 rc0] 25)).alloc (by simp) (.cells #[.int .u8 (d1.form : Int), .int .u8 (d1.len : Int), .int .u8 (d1.speed : Int), .int .u16 (d1.mute : Int), .int .u16 (d1.wait : Int), .int .u8 (d1.cancel : Int), .int .u8 (d1.stay : Int), .int .u8 (d1.join : Int), .slice rA1 rk1 rc1] 25)
  have HB := Lib.hid hb0
  have HR0 := Lib.hid ((Row.new w 25 #[.int .u8 (d0.form : Int), .int .u8 (d0.len : Int), .int .u8 (d0.speed : Int), .int .u16 (d0.mute : Int), .int .u16 (d0.wait : Int), .int .u8 (d0.cancel : Int), .int .u8 (d0.stay : Int), .int .u8 (d0.join : Int), .slice rA0 rk0 rc0]).alloc (.cells #[.int .u8 (d1.form : Int), .int .u8 (d1.len : Int), .int .u8 (d1.speed : Int), .int .u16 (d1.mute : Int), .int .u16 (d1.wait : Int), .int .u8 (d1.cancel : Int), .int .u8 (d1.stay : Int), .int .u8 (d1.join : Int), .slice rA1 rk1 rc1] 25))
  have HR1 : Hid (Row ((w.alloc (.cells #[.int .u8 (d0.form : Int), .int .u8 (d0.len : Int), .int .u8 (d0.speed : Int), .int .u16 (d0.mute : Int), .int .u16 (d0.wait : Int), .int .u8 (d0.cancel : Int), .int .u8 (d0.stay : Int), .int .u8 (d0.join : Int), .slice rA0 rk0 rc0] 25)).alloc (.cells #[.int .u8 (d1.form : Int), .int .u8 (d1.len : Int), .int .u8 (d1.speed : Int), .int .u16 (d1.mute : Int), .int .u16 (d1.wait : Int), .int .u8 (d1.cancel : Int), .int .u8 (d1.stay : Int), .int .u8 (d1.join : Int), .slice rA1 rk1 rc1] 25)) (w.heap.size + 1) 25 #[.int .u8 (d1.form : Int), .int .u8 (d1.len : Int), .int .u8 (d1.speed : Int), .int .u16 (d1.mute : Int), .int .u16 (d1.wait : Int), .int .u8 (d1.cancel : Int), .int .u8 (d1.stay : Int), .int .u8 (d1.join : Int), .slice rA1 rk1 rc1]) := by
    have := Row.new (w.alloc (.cells #[.int .u8 (d0.form : Int), .int .u8 (d0.len : Int), .int .u8 (d0.speed : Int), .int .u16 (d0.mute : Int), .int .u16 (d0.wait : Int), .int .u8 (d0.cancel : Int), .int .u8 (d0.stay : Int), .int .u8 (d0.join : Int), .slice rA0 rk0 rc0] 25)) 25 #[.int .u8 (d1.form : Int), .int .u8 (d1.len : Int), .int .u8 (d1.speed : Int), .int .u16 (d1.mute : Int), .int .u16 (d1.wait : Int), .int .u8 (d1.cancel : Int), .int .u8 (d1.stay : Int), .int .u8 (d1.join : Int), .slice rA1 rk1 rc1]
    rw [World.size_alloc] at this; exact this
  clear hb0
  unfold drV
  go_enter Try.func7, Try.ntmps7
  go_upto_region 1 with (fail)
  obtain ⟨g0, hg0⟩ : ∃ x, x = w.heap.size := ⟨_, rfl⟩
  obtain ⟨g1, hg1⟩ : ∃ x, x = w.heap.size + 1 := ⟨_, rfl⟩
  rw [← hg1] at HR1 ⊢
  rw [← hg0] at HR0 ⊢
  clear hg0 hg1
  generalize (w.alloc (.cells #[.int .u8 (d0.form : Int), .int .u8 (d0.len : Int), .int .u8 (d0.speed : Int), .int .u16 (d0.mute : Int), .int .u16 (d0.wait : Int), .int .u8 (d0.cancel : Int), .int .u8 (d0.stay : Int), .int .u8 (d0.join : Int), .slice rA0 rk0 rc0] 25)).alloc (.cells #[.int .u8 (d1.form : Int), .int .u8 (d1.len : Int), .int .u8 (d1.speed : Int), .int .u16 (d1.mute : Int), .int .u16 (d1.wait : Int), .int .u8 (d1.cancel : Int), .int .u8 (d1.stay : Int), .int .u8 (d1.join : Int), .slice rA1 rk1 rc1] 25) = W0 at *
  go_wp2_with fail
  refine (bare_any W0).mono ?_; rintro e WA ⟨rfl, hbA⟩
  have HBA := Lib.hid (HB.out.trans (hbA.mono HB.out.size))
  have HRA0 := Lib.hid (Below.row hbA HR0.out HR0.out.lt); have HRA1 := Lib.hid (Below.row hbA HR1.out HR1.out.lt)
  clear hbA HB HR0 HR1
  have f0 := HRA0.out.cell 0
  have f1 := HRA0.out.cell 1
  have f2 := HRA0.out.cell 2
  have f3 := HRA0.out.cell 3
  have f4 := HRA0.out.cell 4
  have f5 := HRA0.out.cell 5
  have f6 := HRA0.out.cell 6
  have f7 := HRA0.out.cell 7
  have f8 := HRA0.out.cell 8
  simp only [List.getElem?_toArray, List.getElem?_cons_zero, List.getElem?_cons_succ] at f0 f1 f2 f3 f4 f5 f6 f7 f8
  go_wp2_with fail
  refine (small_any WA d0 (.slice rA0 rk0 rc0) (HD0.out WA HBA.out) HL0.out.1 HL0.out.2).mono ?_; rintro e WB ⟨rfl, hbB⟩
  have HBB := Lib.hid (HBA.out.trans (hbB.mono HBA.out.size))
  have HRB0 := Lib.hid (Below.row hbB HRA0.out HRA0.out.lt); have HRB1 := Lib.hid (Below.row hbB HRA1.out HRA1.out.lt)
  clear f0 f1 f2 f3 f4 f5 f6 f7 f8
  clear hbB HBA HRA0 HRA1
  cases hs0 : small d0 with
  | false =>
    go_wp2_with fail
    refine (bare_any WB).mono ?_; rintro e WZ ⟨rfl, hbZ⟩
    have HZ := Lib.hid (HBB.out.trans (hbZ.mono HBB.out.size))
    clear hbZ
    go_wp2_with fail
    go_ret
    exact ⟨rfl, HZ.out⟩
  | true =>
  have f0 := HRB1.out.cell 0
  have f1 := HRB1.out.cell 1
  have f2 := HRB1.out.cell 2
  have f3 := HRB1.out.cell 3
  have f4 := HRB1.out.cell 4
  have f5 := HRB1.out.cell 5
  have f6 := HRB1.out.cell 6
  have f7 := HRB1.out.cell 7
  have f8 := HRB1.out.cell 8
  simp only [List.getElem?_toArray, List.getElem?_cons_zero, List.getElem?_cons_succ] at f0 f1 f2 f3 f4 f5 f6 f7 f8
  go_wp2_with fail
  refine (small_any WB d1 (.slice rA1 rk1 rc1) (HD1.out WB HBB.out) HL1.out.1 HL1.out.2).mono ?_; rintro e WC ⟨rfl, hbC⟩
  have HB := Lib.hid (HBB.out.trans (hbC.mono HBB.out.size))
  have HR0 := Lib.hid (Below.row hbC HRB0.out HRB0.out.lt); have HR1 := Lib.hid (Below.row hbC HRB1.out HRB1.out.lt)
  clear f0 f1 f2 f3 f4 f5 f6 f7 f8
  clear hbC HBB HRB0 HRB1
  cases hs1 : small d1 with
  | false =>
    go_wp2_with fail
    refine (bare_any WC).mono ?_; rintro e WZ ⟨rfl, hbZ⟩
    have HZ := Lib.hid (HB.out.trans (hbZ.mono HB.out.size))
    clear hbZ
    go_wp2_with fail
    go_ret
    exact ⟨rfl, HZ.out⟩
  | true =>
  have HS0 := Lib.hid hs0; have HS1 := Lib.hid hs1
  clear hs0 hs1
  obtain ⟨L, hL⟩ : ∃ L, roughL d0 = L := ⟨_, rfl⟩
  obtain ⟨M, hM⟩ : ∃ M, roughL d1 = M := ⟨_, rfl⟩
  have HMM := Lib.hid hL; have HNN := Lib.hid hM
  have HMOD : Hid (Modest L ∧ Few L) := by rw [← hL]; exact ⟨rough_modest HS0.out, (rough_modest HS0.out).few⟩
  have HLOW : Hid (lows L = L) := by rw [← hL]; exact rough_lows HDK0.out
  clear hL hM
  go_upto_region 3 with (fail)
  go_cut [7, 8] (fun v7 v8 wx => ∃ n7 n8 pA0 pk0 pc0 pA1 pk1 pc1 pA2 pk2 pc2 pA3 pk3 pc3 pA4 pk4 pc4 sA0 sk0 sc0 sA1 sk1 sc1 sA2 sk2 sc2 sA3 sk3 sc3 sA4 sk4 sc4, v7 = .pointer (some ⟨n7, 0, none⟩) ∧ v8 = .pointer (some ⟨n8, 0, none⟩) ∧ Hid (Row wx n7 33 #[.slice pA0 pk0 pc0, .slice pA1 pk1 pc1, .slice pA2 pk2 pc2, .slice pA3 pk3 pc3, .slice pA4 pk4 pc4, .int .i64 L.speed, .int .i64 L.mute, .int .i64 L.wait, .int .i64 L.cancel, .int .i64 L.stay] ∧ Row wx n8 33 #[.slice sA0 sk0 sc0, .slice sA1 sk1 sc1, .slice sA2 sk2 sc2, .slice sA3 sk3 sc3, .slice sA4 sk4 sc4, .int .i64 M.speed, .int .i64 M.mute, .int .i64 M.wait, .int .i64 M.cancel, .int .i64 M.stay] ∧ Five wx (.slice pA0 pk0 pc0) (.slice pA1 pk1 pc1) (.slice pA2 pk2 pc2) (.slice pA3 pk3 pc3) (.slice pA4 pk4 pc4) L ∧ Five wx (.slice sA0 sk0 sc0) (.slice sA1 sk1 sc1) (.slice sA2 sk2 sc2) (.slice sA3 sk3 sc3) (.slice sA4 sk4 sc4) M ∧ Row wx g0 25 #[.int .u8 (d0.form : Int), .int .u8 (d0.len : Int), .int .u8 (d0.speed : Int), .int .u16 (d0.mute : Int), .int .u16 (d0.wait : Int), .int .u8 (d0.cancel : Int), .int .u8 (d0.stay : Int), .int .u8 (d0.join : Int), .slice rA0 rk0 rc0] ∧ Below w.heap.size w wx))
  case first =>
    have HBU0 : Hid (Below w.heap.size w WC.drew) := ⟨HB.out.os, HB.out.tape, HB.out.output, HB.out.size, HB.out.block⟩
    have HR0U0 : Hid (Row WC.drew g0 25 #[.int .u8 (d0.form : Int), .int .u8 (d0.len : Int), .int .u8 (d0.speed : Int), .int .u16 (d0.mute : Int), .int .u16 (d0.wait : Int), .int .u8 (d0.cancel : Int), .int .u8 (d0.stay : Int), .int .u8 (d0.join : Int), .slice rA0 rk0 rc0]) := HR0.out
    have HR1U0 : Hid (Row WC.drew g1 25 #[.int .u8 (d1.form : Int), .int .u8 (d1.len : Int), .int .u8 (d1.speed : Int), .int .u16 (d1.mute : Int), .int .u16 (d1.wait : Int), .int .u8 (d1.cancel : Int), .int .u8 (d1.stay : Int), .int .u8 (d1.join : Int), .slice rA1 rk1 rc1]) := HR1.out
    clear HB HR0 HR1
    refine AnyBut.region (Boxes g0 g1 #[.int .u8 (d0.form : Int), .int .u8 (d0.len : Int), .int .u8 (d0.speed : Int), .int .u16 (d0.mute : Int), .int .u16 (d0.wait : Int), .int .u8 (d0.cancel : Int), .int .u8 (d0.stay : Int), .int .u8 (d0.join : Int), .slice rA0 rk0 rc0] #[.int .u8 (d1.form : Int), .int .u8 (d1.len : Int), .int .u8 (d1.speed : Int), .int .u16 (d1.mute : Int), .int .u16 (d1.wait : Int), .int .u8 (d1.cancel : Int), .int .u8 (d1.stay : Int), .int .u8 (d1.join : Int), .slice rA1 rk1 rc1]) 7 (by kernel_rfl) ?_
    change AnyBut _ _ _ _ _ _ _ _ _ WC.drew
    generalize WC.drew = U0 at *
    refine AnyBut.take 0 (v := .agg #[.int .u8 (d0.form : Int), .int .u8 (d0.len : Int), .int .u8 (d0.speed : Int), .int .u16 (d0.mute : Int), .int .u16 (d0.wait : Int), .int .u8 (d0.cancel : Int), .int .u8 (d0.stay : Int), .int .u8 (d0.join : Int), .slice rA0 rk0 rc0]) rfl (by kernel_rfl) (by kernel_rfl) (by kernel_rfl) (by kernel_rfl) (by decide) (fun _ _ _ h => h) (yields_of (by rfl) (fun w9 hS => (by have hr := hS.1; have s0 := hr.cell 0; have s1 := hr.cell 1; have s2 := hr.cell 2; have s3 := hr.cell 3; have s4 := hr.cell 4; have s5 := hr.cell 5; have s6 := hr.cell 6; have s7 := hr.cell 7; have s8 := hr.cell 8; simp only [List.getElem?_toArray, List.getElem?_cons_zero, List.getElem?_cons_succ] at s0 s1 s2 s3 s4 s5 s6 s7 s8; go_simp; try rfl))) ⟨HR0U0.out, HR1U0.out⟩ ?_
    refine AnyBut.take 2 (v := .agg #[.int .u8 (d1.form : Int), .int .u8 (d1.len : Int), .int .u8 (d1.speed : Int), .int .u16 (d1.mute : Int), .int .u16 (d1.wait : Int), .int .u8 (d1.cancel : Int), .int .u8 (d1.stay : Int), .int .u8 (d1.join : Int), .slice rA1 rk1 rc1]) rfl (by kernel_rfl) (by kernel_rfl) (by kernel_rfl) (by kernel_rfl) (by decide) (fun _ _ _ h => h) (yields_of (by rfl) (fun w9 hS => (by have hr := hS.2; have s0 := hr.cell 0; have s1 := hr.cell 1; have s2 := hr.cell 2; have s3 := hr.cell 3; have s4 := hr.cell 4; have s5 := hr.cell 5; have s6 := hr.cell 6; have s7 := hr.cell 7; have s8 := hr.cell 8; simp only [List.getElem?_toArray, List.getElem?_cons_zero, List.getElem?_cons_succ] at s0 s1 s2 s3 s4 s5 s6 s7 s8; go_simp; try rfl))) ⟨HR0U0.out, HR1U0.out⟩ ?_
    refine any_three 1 4 5 rfl rfl rfl (by kernel_rfl) (by rfl) (by rfl) (by rfl) ?_ ?_ ?_
    · go_simp
      refine (roughO_any U0 d0 _ HDK0.out (HD0.out U0 HBU0.out) HS0.out).mono ?_
      rintro e U1 ⟨vN, vS, vP, vQ, vR, rfl, hF, -, hb⟩
      rw [HMM.out] at hF ⊢
      obtain ⟨⟨pA0, pk0, pc0, rfl⟩, ⟨pA1, pk1, pc1, rfl⟩, ⟨pA2, pk2, pc2, rfl⟩, ⟨pA3, pk3, pc3, rfl⟩, ⟨pA4, pk4, pc4, rfl⟩⟩ := five_slices hF
      have HBU1 := Lib.hid (HBU0.out.trans (hb.mono HBU0.out.size))
      have HR0U1 := Lib.hid (Below.row hb HR0U0.out HR0U0.out.lt)
      have HR1U1 := Lib.hid (Below.row hb HR1U0.out HR1U0.out.lt)
      have HV1U1 := Lib.hid hF
      clear hb hF
      clear HBU0 HR0U0 HR1U0
      first | refine ⟨⟨HR0U1.out, HR1U1.out⟩, ?_⟩ | refine ⟨fun _ => ⟨HR0U1.out, HR1U1.out⟩, ?_⟩
      refine any_three 3 4 5 rfl rfl rfl (by kernel_rfl) (by rfl) (by rfl) (by rfl) ?_ ?_ ?_
      · go_simp
        refine (roughO_any U1 d1 _ HDK1.out (HD1.out U1 HBU1.out) HS1.out).mono ?_
        rintro e U2 ⟨vN, vS, vP, vQ, vR, rfl, hF, -, hb⟩
        rw [HNN.out] at hF ⊢
        obtain ⟨⟨sA0, sk0, sc0, rfl⟩, ⟨sA1, sk1, sc1, rfl⟩, ⟨sA2, sk2, sc2, rfl⟩, ⟨sA3, sk3, sc3, rfl⟩, ⟨sA4, sk4, sc4, rfl⟩⟩ := five_slices hF
        have HBU2 := Lib.hid (HBU1.out.trans (hb.mono HBU1.out.size))
        have HR0U2 := Lib.hid (Below.row hb HR0U1.out HR0U1.out.lt)
        have HR1U2 := Lib.hid (Below.row hb HR1U1.out HR1U1.out.lt)
        have HV1U2 := Lib.hid (five_up HV1U1.out hb)
        have HV2U2 := Lib.hid hF
        clear hb hF
        clear HBU1 HR0U1 HR1U1 HV1U1
        first | refine ⟨⟨HR0U2.out, HR1U2.out⟩, ?_⟩ | refine ⟨fun _ => ⟨HR0U2.out, HR1U2.out⟩, ?_⟩
        refine any_two 4 5 rfl rfl (by kernel_rfl) (by rfl) (by rfl) ?_ ?_
        · go_simp
          have hb := (Below.refl U2.heap.size U2).alloc (Nat.le_refl _) (.cells #[.slice none 0 0, .slice none 0 0, .slice none 0 0, .slice none 0 0, .slice none 0 0, .int .i64 0, .int .i64 0, .int .i64 0, .int .i64 0, .int .i64 0] 33)
          have HBU3 := Lib.hid (HBU2.out.trans (hb.mono HBU2.out.size))
          have HR0U3 := Lib.hid (Below.row hb HR0U2.out HR0U2.out.lt)
          have HR1U3 := Lib.hid (Below.row hb HR1U2.out HR1U2.out.lt)
          have HV1U3 := Lib.hid (five_up HV1U2.out hb)
          have HV2U3 := Lib.hid (five_up HV2U2.out hb)
          have HN7U3 := Lib.hid (Row.new U2 33 #[.slice none 0 0, .slice none 0 0, .slice none 0 0, .slice none 0 0, .slice none 0 0, .int .i64 0, .int .i64 0, .int .i64 0, .int .i64 0, .int .i64 0])
          have HG7 : Hid (w.heap.size ≤ U2.heap.size) := HBU2.out.size
          clear hb
          clear HBU2 HR0U2 HR1U2 HV1U2 HV2U2
          obtain ⟨n7, hn7⟩ : ∃ x, x = U2.heap.size := ⟨_, rfl⟩
          rw [← hn7] at HN7U3 HG7 ⊢
          clear hn7
          generalize U2.alloc (.cells #[.slice none 0 0, .slice none 0 0, .slice none 0 0, .slice none 0 0, .slice none 0 0, .int .i64 0, .int .i64 0, .int .i64 0, .int .i64 0, .int .i64 0] 33) = U3 at *
          first | refine ⟨⟨HR0U3.out, HR1U3.out⟩, ?_⟩ | refine ⟨fun _ => ⟨HR0U3.out, HR1U3.out⟩, ?_⟩
          refine AnyBut.one 5 rfl (by kernel_rfl) (by rfl) ?_
          go_simp
          have hb := (Below.refl U3.heap.size U3).alloc (Nat.le_refl _) (.cells #[.slice none 0 0, .slice none 0 0, .slice none 0 0, .slice none 0 0, .slice none 0 0, .int .i64 0, .int .i64 0, .int .i64 0, .int .i64 0, .int .i64 0] 33)
          have HBU4 := Lib.hid (HBU3.out.trans (hb.mono HBU3.out.size))
          have HR0U4 := Lib.hid (Below.row hb HR0U3.out HR0U3.out.lt)
          have HR1U4 := Lib.hid (Below.row hb HR1U3.out HR1U3.out.lt)
          have HV1U4 := Lib.hid (five_up HV1U3.out hb)
          have HV2U4 := Lib.hid (five_up HV2U3.out hb)
          have HN7U4 := Lib.hid (Below.row hb HN7U3.out HN7U3.out.lt)
          have HN8U4 := Lib.hid (Row.new U3 33 #[.slice none 0 0, .slice none 0 0, .slice none 0 0, .slice none 0 0, .slice none 0 0, .int .i64 0, .int .i64 0, .int .i64 0, .int .i64 0, .int .i64 0])
          have HG8 : Hid (w.heap.size ≤ U3.heap.size) := HBU3.out.size
          have HNE : Hid (n7 ≠ U3.heap.size) := by show _ ≠ _; have := HN7U3.out.lt; omega
          clear hb
          clear HBU3 HR0U3 HR1U3 HV1U3 HV2U3 HN7U3
          obtain ⟨n8, hn8⟩ : ∃ x, x = U3.heap.size := ⟨_, rfl⟩
          rw [← hn8] at HN8U4 HG8 HNE ⊢
          clear hn8
          generalize U3.alloc (.cells #[.slice none 0 0, .slice none 0 0, .slice none 0 0, .slice none 0 0, .slice none 0 0, .int .i64 0, .int .i64 0, .int .i64 0, .int .i64 0, .int .i64 0] 33) = U4 at *
          first | refine ⟨⟨HR0U4.out, HR1U4.out⟩, ?_⟩ | refine ⟨fun _ => ⟨HR0U4.out, HR1U4.out⟩, ?_⟩
          refine AnyBut.one 6 rfl (by kernel_rfl) (by rfl) ?_
          have hz := HN7U4.out
          have q0 := hz.cell 0; have r0 := hz.frozen 0
          have q1 := hz.cell 1; have r1 := hz.frozen 1
          have q2 := hz.cell 2; have r2 := hz.frozen 2
          have q3 := hz.cell 3; have r3 := hz.frozen 3
          have q4 := hz.cell 4; have r4 := hz.frozen 4
          have q5 := hz.cell 5; have r5 := hz.frozen 5
          have q6 := hz.cell 6; have r6 := hz.frozen 6
          have q7 := hz.cell 7; have r7 := hz.frozen 7
          have q8 := hz.cell 8; have r8 := hz.frozen 8
          have q9 := hz.cell 9; have r9 := hz.frozen 9
          simp only [List.getElem?_toArray, List.getElem?_cons_zero, List.getElem?_cons_succ] at q0 q1 q2 q3 q4 q5 q6 q7 q8 q9
          go_simp
          have hp := put10 hz (.slice pA0 pk0 pc0) (.slice pA1 pk1 pc1) (.slice pA2 pk2 pc2) (.slice pA3 pk3 pc3) (.slice pA4 pk4 pc4) (.int .i64 L.speed) (.int .i64 L.mute) (.int .i64 L.wait) (.int .i64 L.cancel) (.int .i64 L.stay)
          clear hz q0 r0 q1 r1 q2 r2 q3 r3 q4 r4 q5 r5 q6 r6 q7 r7 q8 r8 q9 r9
          have ne0 : g0 ≠ n7 := Row.ne HR0U4.out HN7U4.out (by decide)
          have ne1 : g1 ≠ n7 := Row.ne HR1U4.out HN7U4.out (by decide)
          have k0 := Lib.hid (hp.2.2.row HR0U4.out (by simpa using ne0)); have k1 := Lib.hid (hp.2.2.row HR1U4.out (by simpa using ne1))
          have k7 := Lib.hid hp.1; have k8 := Lib.hid (hp.2.2.row HN8U4.out (by simpa using HNE.out.symm))
          have kv1 := Lib.hid (HV1U4.out.kept hp.2.2 (other_one HN7U4.out)); have kv2 := Lib.hid (HV2U4.out.kept hp.2.2 (other_one HN7U4.out))
          have kb : Hid (Below w.heap.size w ((((((((((U4.setCell ⟨n7, 0, none⟩ (.slice pA0 pk0 pc0)).setCell ⟨n7, 1, none⟩ (.slice pA1 pk1 pc1)).setCell ⟨n7, 2, none⟩ (.slice pA2 pk2 pc2)).setCell ⟨n7, 3, none⟩ (.slice pA3 pk3 pc3)).setCell ⟨n7, 4, none⟩ (.slice pA4 pk4 pc4)).setCell ⟨n7, 5, none⟩ (.int .i64 L.speed)).setCell ⟨n7, 6, none⟩ (.int .i64 L.mute)).setCell ⟨n7, 7, none⟩ (.int .i64 L.wait)).setCell ⟨n7, 8, none⟩ (.int .i64 L.cancel)).setCell ⟨n7, 9, none⟩ (.int .i64 L.stay))) := HBU4.out.trans (hp.2.1.mono HG7.out)
          clear hp ne0 ne1
          clear HBU4 HR0U4 HR1U4 HV1U4 HV2U4 HN7U4 HN8U4
          generalize ((((((((((U4.setCell ⟨n7, 0, none⟩ (.slice pA0 pk0 pc0)).setCell ⟨n7, 1, none⟩ (.slice pA1 pk1 pc1)).setCell ⟨n7, 2, none⟩ (.slice pA2 pk2 pc2)).setCell ⟨n7, 3, none⟩ (.slice pA3 pk3 pc3)).setCell ⟨n7, 4, none⟩ (.slice pA4 pk4 pc4)).setCell ⟨n7, 5, none⟩ (.int .i64 L.speed)).setCell ⟨n7, 6, none⟩ (.int .i64 L.mute)).setCell ⟨n7, 7, none⟩ (.int .i64 L.wait)).setCell ⟨n7, 8, none⟩ (.int .i64 L.cancel)).setCell ⟨n7, 9, none⟩ (.int .i64 L.stay)) = U5 at *
          first | refine ⟨⟨k0.out, k1.out⟩, ?_⟩ | refine ⟨fun _ => ⟨k0.out, k1.out⟩, ?_⟩
          refine AnyBut.one 7 rfl (by kernel_rfl) (by rfl) ?_
          have hz := k8.out
          have q0 := hz.cell 0; have r0 := hz.frozen 0
          have q1 := hz.cell 1; have r1 := hz.frozen 1
          have q2 := hz.cell 2; have r2 := hz.frozen 2
          have q3 := hz.cell 3; have r3 := hz.frozen 3
          have q4 := hz.cell 4; have r4 := hz.frozen 4
          have q5 := hz.cell 5; have r5 := hz.frozen 5
          have q6 := hz.cell 6; have r6 := hz.frozen 6
          have q7 := hz.cell 7; have r7 := hz.frozen 7
          have q8 := hz.cell 8; have r8 := hz.frozen 8
          have q9 := hz.cell 9; have r9 := hz.frozen 9
          simp only [List.getElem?_toArray, List.getElem?_cons_zero, List.getElem?_cons_succ] at q0 q1 q2 q3 q4 q5 q6 q7 q8 q9
          go_simp
          have hp := put10 hz (.slice sA0 sk0 sc0) (.slice sA1 sk1 sc1) (.slice sA2 sk2 sc2) (.slice sA3 sk3 sc3) (.slice sA4 sk4 sc4) (.int .i64 M.speed) (.int .i64 M.mute) (.int .i64 M.wait) (.int .i64 M.cancel) (.int .i64 M.stay)
          clear hz q0 r0 q1 r1 q2 r2 q3 r3 q4 r4 q5 r5 q6 r6 q7 r7 q8 r8 q9 r9
          have ne0 : g0 ≠ n8 := Row.ne k0.out k8.out (by decide)
          have HX : Hid (Row ((((((((((U5.setCell ⟨n8, 0, none⟩ (.slice sA0 sk0 sc0)).setCell ⟨n8, 1, none⟩ (.slice sA1 sk1 sc1)).setCell ⟨n8, 2, none⟩ (.slice sA2 sk2 sc2)).setCell ⟨n8, 3, none⟩ (.slice sA3 sk3 sc3)).setCell ⟨n8, 4, none⟩ (.slice sA4 sk4 sc4)).setCell ⟨n8, 5, none⟩ (.int .i64 M.speed)).setCell ⟨n8, 6, none⟩ (.int .i64 M.mute)).setCell ⟨n8, 7, none⟩ (.int .i64 M.wait)).setCell ⟨n8, 8, none⟩ (.int .i64 M.cancel)).setCell ⟨n8, 9, none⟩ (.int .i64 M.stay)) n7 33 #[.slice pA0 pk0 pc0, .slice pA1 pk1 pc1, .slice pA2 pk2 pc2, .slice pA3 pk3 pc3, .slice pA4 pk4 pc4, .int .i64 L.speed, .int .i64 L.mute, .int .i64 L.wait, .int .i64 L.cancel, .int .i64 L.stay] ∧ Row ((((((((((U5.setCell ⟨n8, 0, none⟩ (.slice sA0 sk0 sc0)).setCell ⟨n8, 1, none⟩ (.slice sA1 sk1 sc1)).setCell ⟨n8, 2, none⟩ (.slice sA2 sk2 sc2)).setCell ⟨n8, 3, none⟩ (.slice sA3 sk3 sc3)).setCell ⟨n8, 4, none⟩ (.slice sA4 sk4 sc4)).setCell ⟨n8, 5, none⟩ (.int .i64 M.speed)).setCell ⟨n8, 6, none⟩ (.int .i64 M.mute)).setCell ⟨n8, 7, none⟩ (.int .i64 M.wait)).setCell ⟨n8, 8, none⟩ (.int .i64 M.cancel)).setCell ⟨n8, 9, none⟩ (.int .i64 M.stay)) n8 33 #[.slice sA0 sk0 sc0, .slice sA1 sk1 sc1, .slice sA2 sk2 sc2, .slice sA3 sk3 sc3, .slice sA4 sk4 sc4, .int .i64 M.speed, .int .i64 M.mute, .int .i64 M.wait, .int .i64 M.cancel, .int .i64 M.stay] ∧ Five ((((((((((U5.setCell ⟨n8, 0, none⟩ (.slice sA0 sk0 sc0)).setCell ⟨n8, 1, none⟩ (.slice sA1 sk1 sc1)).setCell ⟨n8, 2, none⟩ (.slice sA2 sk2 sc2)).setCell ⟨n8, 3, none⟩ (.slice sA3 sk3 sc3)).setCell ⟨n8, 4, none⟩ (.slice sA4 sk4 sc4)).setCell ⟨n8, 5, none⟩ (.int .i64 M.speed)).setCell ⟨n8, 6, none⟩ (.int .i64 M.mute)).setCell ⟨n8, 7, none⟩ (.int .i64 M.wait)).setCell ⟨n8, 8, none⟩ (.int .i64 M.cancel)).setCell ⟨n8, 9, none⟩ (.int .i64 M.stay)) (.slice pA0 pk0 pc0) (.slice pA1 pk1 pc1) (.slice pA2 pk2 pc2) (.slice pA3 pk3 pc3) (.slice pA4 pk4 pc4) L ∧ Five ((((((((((U5.setCell ⟨n8, 0, none⟩ (.slice sA0 sk0 sc0)).setCell ⟨n8, 1, none⟩ (.slice sA1 sk1 sc1)).setCell ⟨n8, 2, none⟩ (.slice sA2 sk2 sc2)).setCell ⟨n8, 3, none⟩ (.slice sA3 sk3 sc3)).setCell ⟨n8, 4, none⟩ (.slice sA4 sk4 sc4)).setCell ⟨n8, 5, none⟩ (.int .i64 M.speed)).setCell ⟨n8, 6, none⟩ (.int .i64 M.mute)).setCell ⟨n8, 7, none⟩ (.int .i64 M.wait)).setCell ⟨n8, 8, none⟩ (.int .i64 M.cancel)).setCell ⟨n8, 9, none⟩ (.int .i64 M.stay)) (.slice sA0 sk0 sc0) (.slice sA1 sk1 sc1) (.slice sA2 sk2 sc2) (.slice sA3 sk3 sc3) (.slice sA4 sk4 sc4) M ∧ Row ((((((((((U5.setCell ⟨n8, 0, none⟩ (.slice sA0 sk0 sc0)).setCell ⟨n8, 1, none⟩ (.slice sA1 sk1 sc1)).setCell ⟨n8, 2, none⟩ (.slice sA2 sk2 sc2)).setCell ⟨n8, 3, none⟩ (.slice sA3 sk3 sc3)).setCell ⟨n8, 4, none⟩ (.slice sA4 sk4 sc4)).setCell ⟨n8, 5, none⟩ (.int .i64 M.speed)).setCell ⟨n8, 6, none⟩ (.int .i64 M.mute)).setCell ⟨n8, 7, none⟩ (.int .i64 M.wait)).setCell ⟨n8, 8, none⟩ (.int .i64 M.cancel)).setCell ⟨n8, 9, none⟩ (.int .i64 M.stay)) g0 25 #[.int .u8 (d0.form : Int), .int .u8 (d0.len : Int), .int .u8 (d0.speed : Int), .int .u16 (d0.mute : Int), .int .u16 (d0.wait : Int), .int .u8 (d0.cancel : Int), .int .u8 (d0.stay : Int), .int .u8 (d0.join : Int), .slice rA0 rk0 rc0] ∧ Below w.heap.size w ((((((((((U5.setCell ⟨n8, 0, none⟩ (.slice sA0 sk0 sc0)).setCell ⟨n8, 1, none⟩ (.slice sA1 sk1 sc1)).setCell ⟨n8, 2, none⟩ (.slice sA2 sk2 sc2)).setCell ⟨n8, 3, none⟩ (.slice sA3 sk3 sc3)).setCell ⟨n8, 4, none⟩ (.slice sA4 sk4 sc4)).setCell ⟨n8, 5, none⟩ (.int .i64 M.speed)).setCell ⟨n8, 6, none⟩ (.int .i64 M.mute)).setCell ⟨n8, 7, none⟩ (.int .i64 M.wait)).setCell ⟨n8, 8, none⟩ (.int .i64 M.cancel)).setCell ⟨n8, 9, none⟩ (.int .i64 M.stay))) :=
            ⟨hp.2.2.row k7.out (by simpa using HNE.out), hp.1, kv1.out.kept hp.2.2 (other_one k8.out), kv2.out.kept hp.2.2 (other_one k8.out), hp.2.2.row k0.out (by simpa using ne0), kb.out.trans (hp.2.1.mono HG8.out)⟩
          clear hp ne0 k0 k1 k7 k8 kv1 kv2 kb
          generalize ((((((((((U5.setCell ⟨n8, 0, none⟩ (.slice sA0 sk0 sc0)).setCell ⟨n8, 1, none⟩ (.slice sA1 sk1 sc1)).setCell ⟨n8, 2, none⟩ (.slice sA2 sk2 sc2)).setCell ⟨n8, 3, none⟩ (.slice sA3 sk3 sc3)).setCell ⟨n8, 4, none⟩ (.slice sA4 sk4 sc4)).setCell ⟨n8, 5, none⟩ (.int .i64 M.speed)).setCell ⟨n8, 6, none⟩ (.int .i64 M.mute)).setCell ⟨n8, 7, none⟩ (.int .i64 M.wait)).setCell ⟨n8, 8, none⟩ (.int .i64 M.cancel)).setCell ⟨n8, 9, none⟩ (.int .i64 M.stay)) = U6 at *
          refine AnyBut.done (by kernel_rfl) ?_
          go_wp2_with fail
          go_meet
          case rel => exact ⟨n7, n8, pA0, pk0, pc0, pA1, pk1, pc1, pA2, pk2, pc2, pA3, pk3, pc3, pA4, pk4, pc4, sA0, sk0, sc0, sA1, sk1, sc1, sA2, sk2, sc2, sA3, sk3, sc3, sA4, sk4, sc4, rfl, rfl, HX⟩
        · go_simp
          have hb := (Below.refl U2.heap.size U2).alloc (Nat.le_refl _) (.cells #[.slice none 0 0, .slice none 0 0, .slice none 0 0, .slice none 0 0, .slice none 0 0, .int .i64 0, .int .i64 0, .int .i64 0, .int .i64 0, .int .i64 0] 33)
          have HBU7 := Lib.hid (HBU2.out.trans (hb.mono HBU2.out.size))
          have HR0U7 := Lib.hid (Below.row hb HR0U2.out HR0U2.out.lt)
          have HR1U7 := Lib.hid (Below.row hb HR1U2.out HR1U2.out.lt)
          have HV1U7 := Lib.hid (five_up HV1U2.out hb)
          have HV2U7 := Lib.hid (five_up HV2U2.out hb)
          have HN8U7 := Lib.hid (Row.new U2 33 #[.slice none 0 0, .slice none 0 0, .slice none 0 0, .slice none 0 0, .slice none 0 0, .int .i64 0, .int .i64 0, .int .i64 0, .int .i64 0, .int .i64 0])
          have HG8 : Hid (w.heap.size ≤ U2.heap.size) := HBU2.out.size
          clear hb
          clear HBU2 HR0U2 HR1U2 HV1U2 HV2U2
          obtain ⟨n8, hn8⟩ : ∃ x, x = U2.heap.size := ⟨_, rfl⟩
          rw [← hn8] at HN8U7 HG8 ⊢
          clear hn8
          generalize U2.alloc (.cells #[.slice none 0 0, .slice none 0 0, .slice none 0 0, .slice none 0 0, .slice none 0 0, .int .i64 0, .int .i64 0, .int .i64 0, .int .i64 0, .int .i64 0] 33) = U7 at *
          first | refine ⟨⟨HR0U7.out, HR1U7.out⟩, ?_⟩ | refine ⟨fun _ => ⟨HR0U7.out, HR1U7.out⟩, ?_⟩
          refine AnyBut.one 4 rfl (by kernel_rfl) (by rfl) ?_
          go_simp
          have hb := (Below.refl U7.heap.size U7).alloc (Nat.le_refl _) (.cells #[.slice none 0 0, .slice none 0 0, .slice none 0 0, .slice none 0 0, .slice none 0 0, .int .i64 0, .int .i64 0, .int .i64 0, .int .i64 0, .int .i64 0] 33)
          have HBU8 := Lib.hid (HBU7.out.trans (hb.mono HBU7.out.size))
          have HR0U8 := Lib.hid (Below.row hb HR0U7.out HR0U7.out.lt)
          have HR1U8 := Lib.hid (Below.row hb HR1U7.out HR1U7.out.lt)
          have HV1U8 := Lib.hid (five_up HV1U7.out hb)
          have HV2U8 := Lib.hid (five_up HV2U7.out hb)
          have HN8U8 := Lib.hid (Below.row hb HN8U7.out HN8U7.out.lt)
          have HN7U8 := Lib.hid (Row.new U7 33 #[.slice none 0 0, .slice none 0 0, .slice none 0 0, .slice none 0 0, .slice none 0 0, .int .i64 0, .int .i64 0, .int .i64 0, .int .i64 0, .int .i64 0])
          have HG7 : Hid (w.heap.size ≤ U7.heap.size) := HBU7.out.size
          have HNE : Hid (U7.heap.size ≠ n8) := by show _ ≠ _; have := HN8U7.out.lt; omega
          clear hb
          clear HBU7 HR0U7 HR1U7 HV1U7 HV2U7 HN8U7
          obtain ⟨n7, hn7⟩ : ∃ x, x = U7.heap.size := ⟨_, rfl⟩
          rw [← hn7] at HN7U8 HG7 HNE ⊢
          clear hn7
          generalize U7.alloc (.cells #[.slice none 0 0, .slice none 0 0, .slice none 0 0, .slice none 0 0, .slice none 0 0, .int .i64 0, .int .i64 0, .int .i64 0, .int .i64 0, .int .i64 0] 33) = U8 at *
          first | refine ⟨⟨HR0U8.out, HR1U8.out⟩, ?_⟩ | refine ⟨fun _ => ⟨HR0U8.out, HR1U8.out⟩, ?_⟩
          refine AnyBut.one 6 rfl (by kernel_rfl) (by rfl) ?_
          have hz := HN7U8.out
          have q0 := hz.cell 0; have r0 := hz.frozen 0
          have q1 := hz.cell 1; have r1 := hz.frozen 1
          have q2 := hz.cell 2; have r2 := hz.frozen 2
          have q3 := hz.cell 3; have r3 := hz.frozen 3
          have q4 := hz.cell 4; have r4 := hz.frozen 4
          have q5 := hz.cell 5; have r5 := hz.frozen 5
          have q6 := hz.cell 6; have r6 := hz.frozen 6
          have q7 := hz.cell 7; have r7 := hz.frozen 7
          have q8 := hz.cell 8; have r8 := hz.frozen 8
          have q9 := hz.cell 9; have r9 := hz.frozen 9
          simp only [List.getElem?_toArray, List.getElem?_cons_zero, List.getElem?_cons_succ] at q0 q1 q2 q3 q4 q5 q6 q7 q8 q9
          go_simp
          have hp := put10 hz (.slice pA0 pk0 pc0) (.slice pA1 pk1 pc1) (.slice pA2 pk2 pc2) (.slice pA3 pk3 pc3) (.slice pA4 pk4 pc4) (.int .i64 L.speed) (.int .i64 L.mute) (.int .i64 L.wait) (.int .i64 L.cancel) (.int .i64 L.stay)
          clear hz q0 r0 q1 r1 q2 r2 q3 r3 q4 r4 q5 r5 q6 r6 q7 r7 q8 r8 q9 r9
          have ne0 : g0 ≠ n7 := Row.ne HR0U8.out HN7U8.out (by decide)
          have ne1 : g1 ≠ n7 := Row.ne HR1U8.out HN7U8.out (by decide)
          have k0 := Lib.hid (hp.2.2.row HR0U8.out (by simpa using ne0)); have k1 := Lib.hid (hp.2.2.row HR1U8.out (by simpa using ne1))
          have k7 := Lib.hid hp.1; have k8 := Lib.hid (hp.2.2.row HN8U8.out (by simpa using HNE.out.symm))
          have kv1 := Lib.hid (HV1U8.out.kept hp.2.2 (other_one HN7U8.out)); have kv2 := Lib.hid (HV2U8.out.kept hp.2.2 (other_one HN7U8.out))
          have kb : Hid (Below w.heap.size w ((((((((((U8.setCell ⟨n7, 0, none⟩ (.slice pA0 pk0 pc0)).setCell ⟨n7, 1, none⟩ (.slice pA1 pk1 pc1)).setCell ⟨n7, 2, none⟩ (.slice pA2 pk2 pc2)).setCell ⟨n7, 3, none⟩ (.slice pA3 pk3 pc3)).setCell ⟨n7, 4, none⟩ (.slice pA4 pk4 pc4)).setCell ⟨n7, 5, none⟩ (.int .i64 L.speed)).setCell ⟨n7, 6, none⟩ (.int .i64 L.mute)).setCell ⟨n7, 7, none⟩ (.int .i64 L.wait)).setCell ⟨n7, 8, none⟩ (.int .i64 L.cancel)).setCell ⟨n7, 9, none⟩ (.int .i64 L.stay))) := HBU8.out.trans (hp.2.1.mono HG7.out)
          clear hp ne0 ne1
          clear HBU8 HR0U8 HR1U8 HV1U8 HV2U8 HN7U8 HN8U8
          generalize ((((((((((U8.setCell ⟨n7, 0, none⟩ (.slice pA0 pk0 pc0)).setCell ⟨n7, 1, none⟩ (.slice pA1 pk1 pc1)).setCell ⟨n7, 2, none⟩ (.slice pA2 pk2 pc2)).setCell ⟨n7, 3, none⟩ (.slice pA3 pk3 pc3)).setCell ⟨n7, 4, none⟩ (.slice pA4 pk4 pc4)).setCell ⟨n7, 5, none⟩ (.int .i64 L.speed)).setCell ⟨n7, 6, none⟩ (.int .i64 L.mute)).setCell ⟨n7, 7, none⟩ (.int .i64 L.wait)).setCell ⟨n7, 8, none⟩ (.int .i64 L.cancel)).setCell ⟨n7, 9, none⟩ (.int .i64 L.stay)) = U9 at *
          first | refine ⟨⟨k0.out, k1.out⟩, ?_⟩ | refine ⟨fun _ => ⟨k0.out, k1.out⟩, ?_⟩
          refine AnyBut.one 7 rfl (by kernel_rfl) (by rfl) ?_
          have hz := k8.out
          have q0 := hz.cell 0; have r0 := hz.frozen 0
          have q1 := hz.cell 1; have r1 := hz.frozen 1
          have q2 := hz.cell 2; have r2 := hz.frozen 2
          have q3 := hz.cell 3; have r3 := hz.frozen 3
          have q4 := hz.cell 4; have r4 := hz.frozen 4
          have q5 := hz.cell 5; have r5 := hz.frozen 5
          have q6 := hz.cell 6; have r6 := hz.frozen 6
          have q7 := hz.cell 7; have r7 := hz.frozen 7
          have q8 := hz.cell 8; have r8 := hz.frozen 8
          have q9 := hz.cell 9; have r9 := hz.frozen 9
          simp only [List.getElem?_toArray, List.getElem?_cons_zero, List.getElem?_cons_succ] at q0 q1 q2 q3 q4 q5 q6 q7 q8 q9
          go_simp
          have hp := put10 hz (.slice sA0 sk0 sc0) (.slice sA1 sk1 sc1) (.slice sA2 sk2 sc2) (.slice sA3 sk3 sc3) (.slice sA4 sk4 sc4) (.int .i64 M.speed) (.int .i64 M.mute) (.int .i64 M.wait) (.int .i64 M.cancel) (.int .i64 M.stay)
          clear hz q0 r0 q1 r1 q2 r2 q3 r3 q4 r4 q5 r5 q6 r6 q7 r7 q8 r8 q9 r9
          have ne0 : g0 ≠ n8 := Row.ne k0.out k8.out (by decide)
          have HX : Hid (Row ((((((((((U9.setCell ⟨n8, 0, none⟩ (.slice sA0 sk0 sc0)).setCell ⟨n8, 1, none⟩ (.slice sA1 sk1 sc1)).setCell ⟨n8, 2, none⟩ (.slice sA2 sk2 sc2)).setCell ⟨n8, 3, none⟩ (.slice sA3 sk3 sc3)).setCell ⟨n8, 4, none⟩ (.slice sA4 sk4 sc4)).setCell ⟨n8, 5, none⟩ (.int .i64 M.speed)).setCell ⟨n8, 6, none⟩ (.int .i64 M.mute)).setCell ⟨n8, 7, none⟩ (.int .i64 M.wait)).setCell ⟨n8, 8, none⟩ (.int .i64 M.cancel)).setCell ⟨n8, 9, none⟩ (.int .i64 M.stay)) n7 33 #[.slice pA0 pk0 pc0, .slice pA1 pk1 pc1, .slice pA2 pk2 pc2, .slice pA3 pk3 pc3, .slice pA4 pk4 pc4, .int .i64 L.speed, .int .i64 L.mute, .int .i64 L.wait, .int .i64 L.cancel, .int .i64 L.stay] ∧ Row ((((((((((U9.setCell ⟨n8, 0, none⟩ (.slice sA0 sk0 sc0)).setCell ⟨n8, 1, none⟩ (.slice sA1 sk1 sc1)).setCell ⟨n8, 2, none⟩ (.slice sA2 sk2 sc2)).setCell ⟨n8, 3, none⟩ (.slice sA3 sk3 sc3)).setCell ⟨n8, 4, none⟩ (.slice sA4 sk4 sc4)).setCell ⟨n8, 5, none⟩ (.int .i64 M.speed)).setCell ⟨n8, 6, none⟩ (.int .i64 M.mute)).setCell ⟨n8, 7, none⟩ (.int .i64 M.wait)).setCell ⟨n8, 8, none⟩ (.int .i64 M.cancel)).setCell ⟨n8, 9, none⟩ (.int .i64 M.stay)) n8 33 #[.slice sA0 sk0 sc0, .slice sA1 sk1 sc1, .slice sA2 sk2 sc2, .slice sA3 sk3 sc3, .slice sA4 sk4 sc4, .int .i64 M.speed, .int .i64 M.mute, .int .i64 M.wait, .int .i64 M.cancel, .int .i64 M.stay] ∧ Five ((((((((((U9.setCell ⟨n8, 0, none⟩ (.slice sA0 sk0 sc0)).setCell ⟨n8, 1, none⟩ (.slice sA1 sk1 sc1)).setCell ⟨n8, 2, none⟩ (.slice sA2 sk2 sc2)).setCell ⟨n8, 3, none⟩ (.slice sA3 sk3 sc3)).setCell ⟨n8, 4, none⟩ (.slice sA4 sk4 sc4)).setCell ⟨n8, 5, none⟩ (.int .i64 M.speed)).setCell ⟨n8, 6, none⟩ (.int .i64 M.mute)).setCell ⟨n8, 7, none⟩ (.int .i64 M.wait)).setCell ⟨n8, 8, none⟩ (.int .i64 M.cancel)).setCell ⟨n8, 9, none⟩ (.int .i64 M.stay)) (.slice pA0 pk0 pc0) (.slice pA1 pk1 pc1) (.slice pA2 pk2 pc2) (.slice pA3 pk3 pc3) (.slice pA4 pk4 pc4) L ∧ Five ((((((((((U9.setCell ⟨n8, 0, none⟩ (.slice sA0 sk0 sc0)).setCell ⟨n8, 1, none⟩ (.slice sA1 sk1 sc1)).setCell ⟨n8, 2, none⟩ (.slice sA2 sk2 sc2)).setCell ⟨n8, 3, none⟩ (.slice sA3 sk3 sc3)).setCell ⟨n8, 4, none⟩ (.slice sA4 sk4 sc4)).setCell ⟨n8, 5, none⟩ (.int .i64 M.speed)).setCell ⟨n8, 6, none⟩ (.int .i64 M.mute)).setCell ⟨n8, 7, none⟩ (.int .i64 M.wait)).setCell ⟨n8, 8, none⟩ (.int .i64 M.cancel)).setCell ⟨n8, 9, none⟩ (.int .i64 M.stay)) (.slice sA0 sk0 sc0) (.slice sA1 sk1 sc1) (.slice sA2 sk2 sc2) (.slice sA3 sk3 sc3) (.slice sA4 sk4 sc4) M ∧ Row ((((((((((U9.setCell ⟨n8, 0, none⟩ (.slice sA0 sk0 sc0)).setCell ⟨n8, 1, none⟩ (.slice sA1 sk1 sc1)).setCell ⟨n8, 2, none⟩ (.slice sA2 sk2 sc2)).setCell ⟨n8, 3, none⟩ (.slice sA3 sk3 sc3)).setCell ⟨n8, 4, none⟩ (.slice sA4 sk4 sc4)).setCell ⟨n8, 5, none⟩ (.int .i64 M.speed)).setCell ⟨n8, 6, none⟩ (.int .i64 M.mute)).setCell ⟨n8, 7, none⟩ (.int .i64 M.wait)).setCell ⟨n8, 8, none⟩ (.int .i64 M.cancel)).setCell ⟨n8, 9, none⟩ (.int .i64 M.stay)) g0 25 #[.int .u8 (d0.form : Int), .int .u8 (d0.len : Int), .int .u8 (d0.speed : Int), .int .u16 (d0.mute : Int), .int .u16 (d0.wait : Int), .int .u8 (d0.cancel : Int), .int .u8 (d0.stay : Int), .int .u8 (d0.join : Int), .slice rA0 rk0 rc0] ∧ Below w.heap.size w ((((((((((U9.setCell ⟨n8, 0, none⟩ (.slice sA0 sk0 sc0)).setCell ⟨n8, 1, none⟩ (.slice sA1 sk1 sc1)).setCell ⟨n8, 2, none⟩ (.slice sA2 sk2 sc2)).setCell ⟨n8, 3, none⟩ (.slice sA3 sk3 sc3)).setCell ⟨n8, 4, none⟩ (.slice sA4 sk4 sc4)).setCell ⟨n8, 5, none⟩ (.int .i64 M.speed)).setCell ⟨n8, 6, none⟩ (.int .i64 M.mute)).setCell ⟨n8, 7, none⟩ (.int .i64 M.wait)).setCell ⟨n8, 8, none⟩ (.int .i64 M.cancel)).setCell ⟨n8, 9, none⟩ (.int .i64 M.stay))) :=
            ⟨hp.2.2.row k7.out (by simpa using HNE.out), hp.1, kv1.out.kept hp.2.2 (other_one k8.out), kv2.out.kept hp.2.2 (other_one k8.out), hp.2.2.row k0.out (by simpa using ne0), kb.out.trans (hp.2.1.mono HG8.out)⟩
          clear hp ne0 k0 k1 k7 k8 kv1 kv2 kb
          generalize ((((((((((U9.setCell ⟨n8, 0, none⟩ (.slice sA0 sk0 sc0)).setCell ⟨n8, 1, none⟩ (.slice sA1 sk1 sc1)).setCell ⟨n8, 2, none⟩ (.slice sA2 sk2 sc2)).setCell ⟨n8, 3, none⟩ (.slice sA3 sk3 sc3)).setCell ⟨n8, 4, none⟩ (.slice sA4 sk4 sc4)).setCell ⟨n8, 5, none⟩ (.int .i64 M.speed)).setCell ⟨n8, 6, none⟩ (.int .i64 M.mute)).setCell ⟨n8, 7, none⟩ (.int .i64 M.wait)).setCell ⟨n8, 8, none⟩ (.int .i64 M.cancel)).setCell ⟨n8, 9, none⟩ (.int .i64 M.stay)) = U10 at *
          refine AnyBut.done (by kernel_rfl) ?_
          go_wp2_with fail
          go_meet
          case rel => exact ⟨n7, n8, pA0, pk0, pc0, pA1, pk1, pc1, pA2, pk2, pc2, pA3, pk3, pc3, pA4, pk4, pc4, sA0, sk0, sc0, sA1, sk1, sc1, sA2, sk2, sc2, sA3, sk3, sc3, sA4, sk4, sc4, rfl, rfl, HX⟩
      · go_simp
        have hb := (Below.refl U1.heap.size U1).alloc (Nat.le_refl _) (.cells #[.slice none 0 0, .slice none 0 0, .slice none 0 0, .slice none 0 0, .slice none 0 0, .int .i64 0, .int .i64 0, .int .i64 0, .int .i64 0, .int .i64 0] 33)
        have HBU11 := Lib.hid (HBU1.out.trans (hb.mono HBU1.out.size))
        have HR0U11 := Lib.hid (Below.row hb HR0U1.out HR0U1.out.lt)
        have HR1U11 := Lib.hid (Below.row hb HR1U1.out HR1U1.out.lt)
        have HV1U11 := Lib.hid (five_up HV1U1.out hb)
        have HN7U11 := Lib.hid (Row.new U1 33 #[.slice none 0 0, .slice none 0 0, .slice none 0 0, .slice none 0 0, .slice none 0 0, .int .i64 0, .int .i64 0, .int .i64 0, .int .i64 0, .int .i64 0])
        have HG7 : Hid (w.heap.size ≤ U1.heap.size) := HBU1.out.size
        clear hb
        clear HBU1 HR0U1 HR1U1 HV1U1
        obtain ⟨n7, hn7⟩ : ∃ x, x = U1.heap.size := ⟨_, rfl⟩
        rw [← hn7] at HN7U11 HG7 ⊢
        clear hn7
        generalize U1.alloc (.cells #[.slice none 0 0, .slice none 0 0, .slice none 0 0, .slice none 0 0, .slice none 0 0, .int .i64 0, .int .i64 0, .int .i64 0, .int .i64 0, .int .i64 0] 33) = U11 at *
        first | refine ⟨⟨HR0U11.out, HR1U11.out⟩, ?_⟩ | refine ⟨fun _ => ⟨HR0U11.out, HR1U11.out⟩, ?_⟩
        refine any_two 3 5 rfl rfl (by kernel_rfl) (by rfl) (by rfl) ?_ ?_
        · go_simp
          refine (roughO_any U11 d1 _ HDK1.out (HD1.out U11 HBU11.out) HS1.out).mono ?_
          rintro e U12 ⟨vN, vS, vP, vQ, vR, rfl, hF, -, hb⟩
          rw [HNN.out] at hF ⊢
          obtain ⟨⟨sA0, sk0, sc0, rfl⟩, ⟨sA1, sk1, sc1, rfl⟩, ⟨sA2, sk2, sc2, rfl⟩, ⟨sA3, sk3, sc3, rfl⟩, ⟨sA4, sk4, sc4, rfl⟩⟩ := five_slices hF
          have HBU12 := Lib.hid (HBU11.out.trans (hb.mono HBU11.out.size))
          have HR0U12 := Lib.hid (Below.row hb HR0U11.out HR0U11.out.lt)
          have HR1U12 := Lib.hid (Below.row hb HR1U11.out HR1U11.out.lt)
          have HV1U12 := Lib.hid (five_up HV1U11.out hb)
          have HN7U12 := Lib.hid (Below.row hb HN7U11.out HN7U11.out.lt)
          have HV2U12 := Lib.hid hF
          clear hb hF
          clear HBU11 HR0U11 HR1U11 HV1U11 HN7U11
          first | refine ⟨⟨HR0U12.out, HR1U12.out⟩, ?_⟩ | refine ⟨fun _ => ⟨HR0U12.out, HR1U12.out⟩, ?_⟩
          refine AnyBut.one 5 rfl (by kernel_rfl) (by rfl) ?_
          go_simp
          have hb := (Below.refl U12.heap.size U12).alloc (Nat.le_refl _) (.cells #[.slice none 0 0, .slice none 0 0, .slice none 0 0, .slice none 0 0, .slice none 0 0, .int .i64 0, .int .i64 0, .int .i64 0, .int .i64 0, .int .i64 0] 33)
          have HBU13 := Lib.hid (HBU12.out.trans (hb.mono HBU12.out.size))
          have HR0U13 := Lib.hid (Below.row hb HR0U12.out HR0U12.out.lt)
          have HR1U13 := Lib.hid (Below.row hb HR1U12.out HR1U12.out.lt)
          have HV1U13 := Lib.hid (five_up HV1U12.out hb)
          have HV2U13 := Lib.hid (five_up HV2U12.out hb)
          have HN7U13 := Lib.hid (Below.row hb HN7U12.out HN7U12.out.lt)
          have HN8U13 := Lib.hid (Row.new U12 33 #[.slice none 0 0, .slice none 0 0, .slice none 0 0, .slice none 0 0, .slice none 0 0, .int .i64 0, .int .i64 0, .int .i64 0, .int .i64 0, .int .i64 0])
          have HG8 : Hid (w.heap.size ≤ U12.heap.size) := HBU12.out.size
          have HNE : Hid (n7 ≠ U12.heap.size) := by show _ ≠ _; have := HN7U12.out.lt; omega
          clear hb
          clear HBU12 HR0U12 HR1U12 HV1U12 HV2U12 HN7U12
          obtain ⟨n8, hn8⟩ : ∃ x, x = U12.heap.size := ⟨_, rfl⟩
          rw [← hn8] at HN8U13 HG8 HNE ⊢
          clear hn8
          generalize U12.alloc (.cells #[.slice none 0 0, .slice none 0 0, .slice none 0 0, .slice none 0 0, .slice none 0 0, .int .i64 0, .int .i64 0, .int .i64 0, .int .i64 0, .int .i64 0] 33) = U13 at *
          first | refine ⟨⟨HR0U13.out, HR1U13.out⟩, ?_⟩ | refine ⟨fun _ => ⟨HR0U13.out, HR1U13.out⟩, ?_⟩
          refine AnyBut.one 6 rfl (by kernel_rfl) (by rfl) ?_
          have hz := HN7U13.out
          have q0 := hz.cell 0; have r0 := hz.frozen 0
          have q1 := hz.cell 1; have r1 := hz.frozen 1
          have q2 := hz.cell 2; have r2 := hz.frozen 2
          have q3 := hz.cell 3; have r3 := hz.frozen 3
          have q4 := hz.cell 4; have r4 := hz.frozen 4
          have q5 := hz.cell 5; have r5 := hz.frozen 5
          have q6 := hz.cell 6; have r6 := hz.frozen 6
          have q7 := hz.cell 7; have r7 := hz.frozen 7
          have q8 := hz.cell 8; have r8 := hz.frozen 8
          have q9 := hz.cell 9; have r9 := hz.frozen 9
          simp only [List.getElem?_toArray, List.getElem?_cons_zero, List.getElem?_cons_succ] at q0 q1 q2 q3 q4 q5 q6 q7 q8 q9
          go_simp
          have hp := put10 hz (.slice pA0 pk0 pc0) (.slice pA1 pk1 pc1) (.slice pA2 pk2 pc2) (.slice pA3 pk3 pc3) (.slice pA4 pk4 pc4) (.int .i64 L.speed) (.int .i64 L.mute) (.int .i64 L.wait) (.int .i64 L.cancel) (.int .i64 L.stay)
          clear hz q0 r0 q1 r1 q2 r2 q3 r3 q4 r4 q5 r5 q6 r6 q7 r7 q8 r8 q9 r9
          have ne0 : g0 ≠ n7 := Row.ne HR0U13.out HN7U13.out (by decide)
          have ne1 : g1 ≠ n7 := Row.ne HR1U13.out HN7U13.out (by decide)
          have k0 := Lib.hid (hp.2.2.row HR0U13.out (by simpa using ne0)); have k1 := Lib.hid (hp.2.2.row HR1U13.out (by simpa using ne1))
          have k7 := Lib.hid hp.1; have k8 := Lib.hid (hp.2.2.row HN8U13.out (by simpa using HNE.out.symm))
          have kv1 := Lib.hid (HV1U13.out.kept hp.2.2 (other_one HN7U13.out)); have kv2 := Lib.hid (HV2U13.out.kept hp.2.2 (other_one HN7U13.out))
          have kb : Hid (Below w.heap.size w ((((((((((U13.setCell ⟨n7, 0, none⟩ (.slice pA0 pk0 pc0)).setCell ⟨n7, 1, none⟩ (.slice pA1 pk1 pc1)).setCell ⟨n7, 2, none⟩ (.slice pA2 pk2 pc2)).setCell ⟨n7, 3, none⟩ (.slice pA3 pk3 pc3)).setCell ⟨n7, 4, none⟩ (.slice pA4 pk4 pc4)).setCell ⟨n7, 5, none⟩ (.int .i64 L.speed)).setCell ⟨n7, 6, none⟩ (.int .i64 L.mute)).setCell ⟨n7, 7, none⟩ (.int .i64 L.wait)).setCell ⟨n7, 8, none⟩ (.int .i64 L.cancel)).setCell ⟨n7, 9, none⟩ (.int .i64 L.stay))) := HBU13.out.trans (hp.2.1.mono HG7.out)
          clear hp ne0 ne1
          clear HBU13 HR0U13 HR1U13 HV1U13 HV2U13 HN7U13 HN8U13
          generalize ((((((((((U13.setCell ⟨n7, 0, none⟩ (.slice pA0 pk0 pc0)).setCell ⟨n7, 1, none⟩ (.slice pA1 pk1 pc1)).setCell ⟨n7, 2, none⟩ (.slice pA2 pk2 pc2)).setCell ⟨n7, 3, none⟩ (.slice pA3 pk3 pc3)).setCell ⟨n7, 4, none⟩ (.slice pA4 pk4 pc4)).setCell ⟨n7, 5, none⟩ (.int .i64 L.speed)).setCell ⟨n7, 6, none⟩ (.int .i64 L.mute)).setCell ⟨n7, 7, none⟩ (.int .i64 L.wait)).setCell ⟨n7, 8, none⟩ (.int .i64 L.cancel)).setCell ⟨n7, 9, none⟩ (.int .i64 L.stay)) = U14 at *
          first | refine ⟨⟨k0.out, k1.out⟩, ?_⟩ | refine ⟨fun _ => ⟨k0.out, k1.out⟩, ?_⟩
          refine AnyBut.one 7 rfl (by kernel_rfl) (by rfl) ?_
          have hz := k8.out
          have q0 := hz.cell 0; have r0 := hz.frozen 0
          have q1 := hz.cell 1; have r1 := hz.frozen 1
          have q2 := hz.cell 2; have r2 := hz.frozen 2
          have q3 := hz.cell 3; have r3 := hz.frozen 3
          have q4 := hz.cell 4; have r4 := hz.frozen 4
          have q5 := hz.cell 5; have r5 := hz.frozen 5
          have q6 := hz.cell 6; have r6 := hz.frozen 6
          have q7 := hz.cell 7; have r7 := hz.frozen 7
          have q8 := hz.cell 8; have r8 := hz.frozen 8
          have q9 := hz.cell 9; have r9 := hz.frozen 9
          simp only [List.getElem?_toArray, List.getElem?_cons_zero, List.getElem?_cons_succ] at q0 q1 q2 q3 q4 q5 q6 q7 q8 q9
          go_simp
          have hp := put10 hz (.slice sA0 sk0 sc0) (.slice sA1 sk1 sc1) (.slice sA2 sk2 sc2) (.slice sA3 sk3 sc3) (.slice sA4 sk4 sc4) (.int .i64 M.speed) (.int .i64 M.mute) (.int .i64 M.wait) (.int .i64 M.cancel) (.int .i64 M.stay)
          clear hz q0 r0 q1 r1 q2 r2 q3 r3 q4 r4 q5 r5 q6 r6 q7 r7 q8 r8 q9 r9
          have ne0 : g0 ≠ n8 := Row.ne k0.out k8.out (by decide)
          have HX : Hid (Row ((((((((((U14.setCell ⟨n8, 0, none⟩ (.slice sA0 sk0 sc0)).setCell ⟨n8, 1, none⟩ (.slice sA1 sk1 sc1)).setCell ⟨n8, 2, none⟩ (.slice sA2 sk2 sc2)).setCell ⟨n8, 3, none⟩ (.slice sA3 sk3 sc3)).setCell ⟨n8, 4, none⟩ (.slice sA4 sk4 sc4)).setCell ⟨n8, 5, none⟩ (.int .i64 M.speed)).setCell ⟨n8, 6, none⟩ (.int .i64 M.mute)).setCell ⟨n8, 7, none⟩ (.int .i64 M.wait)).setCell ⟨n8, 8, none⟩ (.int .i64 M.cancel)).setCell ⟨n8, 9, none⟩ (.int .i64 M.stay)) n7 33 #[.slice pA0 pk0 pc0, .slice pA1 pk1 pc1, .slice pA2 pk2 pc2, .slice pA3 pk3 pc3, .slice pA4 pk4 pc4, .int .i64 L.speed, .int .i64 L.mute, .int .i64 L.wait, .int .i64 L.cancel, .int .i64 L.stay] ∧ Row ((((((((((U14.setCell ⟨n8, 0, none⟩ (.slice sA0 sk0 sc0)).setCell ⟨n8, 1, none⟩ (.slice sA1 sk1 sc1)).setCell ⟨n8, 2, none⟩ (.slice sA2 sk2 sc2)).setCell ⟨n8, 3, none⟩ (.slice sA3 sk3 sc3)).setCell ⟨n8, 4, none⟩ (.slice sA4 sk4 sc4)).setCell ⟨n8, 5, none⟩ (.int .i64 M.speed)).setCell ⟨n8, 6, none⟩ (.int .i64 M.mute)).setCell ⟨n8, 7, none⟩ (.int .i64 M.wait)).setCell ⟨n8, 8, none⟩ (.int .i64 M.cancel)).setCell ⟨n8, 9, none⟩ (.int .i64 M.stay)) n8 33 #[.slice sA0 sk0 sc0, .slice sA1 sk1 sc1, .slice sA2 sk2 sc2, .slice sA3 sk3 sc3, .slice sA4 sk4 sc4, .int .i64 M.speed, .int .i64 M.mute, .int .i64 M.wait, .int .i64 M.cancel, .int .i64 M.stay] ∧ Five ((((((((((U14.setCell ⟨n8, 0, none⟩ (.slice sA0 sk0 sc0)).setCell ⟨n8, 1, none⟩ (.slice sA1 sk1 sc1)).setCell ⟨n8, 2, none⟩ (.slice sA2 sk2 sc2)).setCell ⟨n8, 3, none⟩ (.slice sA3 sk3 sc3)).setCell ⟨n8, 4, none⟩ (.slice sA4 sk4 sc4)).setCell ⟨n8, 5, none⟩ (.int .i64 M.speed)).setCell ⟨n8, 6, none⟩ (.int .i64 M.mute)).setCell ⟨n8, 7, none⟩ (.int .i64 M.wait)).setCell ⟨n8, 8, none⟩ (.int .i64 M.cancel)).setCell ⟨n8, 9, none⟩ (.int .i64 M.stay)) (.slice pA0 pk0 pc0) (.slice pA1 pk1 pc1) (.slice pA2 pk2 pc2) (.slice pA3 pk3 pc3) (.slice pA4 pk4 pc4) L ∧ Five ((((((((((U14.setCell ⟨n8, 0, none⟩ (.slice sA0 sk0 sc0)).setCell ⟨n8, 1, none⟩ (.slice sA1 sk1 sc1)).setCell ⟨n8, 2, none⟩ (.slice sA2 sk2 sc2)).setCell ⟨n8, 3, none⟩ (.slice sA3 sk3 sc3)).setCell ⟨n8, 4, none⟩ (.slice sA4 sk4 sc4)).setCell ⟨n8, 5, none⟩ (.int .i64 M.speed)).setCell ⟨n8, 6, none⟩ (.int .i64 M.mute)).setCell ⟨n8, 7, none⟩ (.int .i64 M.wait)).setCell ⟨n8, 8, none⟩ (.int .i64 M.cancel)).setCell ⟨n8, 9, none⟩ (.int .i64 M.stay)) (.slice sA0 sk0 sc0) (.slice sA1 sk1 sc1) (.slice sA2 sk2 sc2) (.slice sA3 sk3 sc3) (.slice sA4 sk4 sc4) M ∧ Row ((((((((((U14.setCell ⟨n8, 0, none⟩ (.slice sA0 sk0 sc0)).setCell ⟨n8, 1, none⟩ (.slice sA1 sk1 sc1)).setCell ⟨n8, 2, none⟩ (.slice sA2 sk2 sc2)).setCell ⟨n8, 3, none⟩ (.slice sA3 sk3 sc3)).setCell ⟨n8, 4, none⟩ (.slice sA4 sk4 sc4)).setCell ⟨n8, 5, none⟩ (.int .i64 M.speed)).setCell ⟨n8, 6, none⟩ (.int .i64 M.mute)).setCell ⟨n8, 7, none⟩ (.int .i64 M.wait)).setCell ⟨n8, 8, none⟩ (.int .i64 M.cancel)).setCell ⟨n8, 9, none⟩ (.int .i64 M.stay)) g0 25 #[.int .u8 (d0.form : Int), .int .u8 (d0.len : Int), .int .u8 (d0.speed : Int), .int .u16 (d0.mute : Int), .int .u16 (d0.wait : Int), .int .u8 (d0.cancel : Int), .int .u8 (d0.stay : Int), .int .u8 (d0.join : Int), .slice rA0 rk0 rc0] ∧ Below w.heap.size w ((((((((((U14.setCell ⟨n8, 0, none⟩ (.slice sA0 sk0 sc0)).setCell ⟨n8, 1, none⟩ (.slice sA1 sk1 sc1)).setCell ⟨n8, 2, none⟩ (.slice sA2 sk2 sc2)).setCell ⟨n8, 3, none⟩ (.slice sA3 sk3 sc3)).setCell ⟨n8, 4, none⟩ (.slice sA4 sk4 sc4)).setCell ⟨n8, 5, none⟩ (.int .i64 M.speed)).setCell ⟨n8, 6, none⟩ (.int .i64 M.mute)).setCell ⟨n8, 7, none⟩ (.int .i64 M.wait)).setCell ⟨n8, 8, none⟩ (.int .i64 M.cancel)).setCell ⟨n8, 9, none⟩ (.int .i64 M.stay))) :=
            ⟨hp.2.2.row k7.out (by simpa using HNE.out), hp.1, kv1.out.kept hp.2.2 (other_one k8.out), kv2.out.kept hp.2.2 (other_one k8.out), hp.2.2.row k0.out (by simpa using ne0), kb.out.trans (hp.2.1.mono HG8.out)⟩
          clear hp ne0 k0 k1 k7 k8 kv1 kv2 kb
          generalize ((((((((((U14.setCell ⟨n8, 0, none⟩ (.slice sA0 sk0 sc0)).setCell ⟨n8, 1, none⟩ (.slice sA1 sk1 sc1)).setCell ⟨n8, 2, none⟩ (.slice sA2 sk2 sc2)).setCell ⟨n8, 3, none⟩ (.slice sA3 sk3 sc3)).setCell ⟨n8, 4, none⟩ (.slice sA4 sk4 sc4)).setCell ⟨n8, 5, none⟩ (.int .i64 M.speed)).setCell ⟨n8, 6, none⟩ (.int .i64 M.mute)).setCell ⟨n8, 7, none⟩ (.int .i64 M.wait)).setCell ⟨n8, 8, none⟩ (.int .i64 M.cancel)).setCell ⟨n8, 9, none⟩ (.int .i64 M.stay)) = U15 at *
          refine AnyBut.done (by kernel_rfl) ?_
          go_wp2_with fail
          go_meet
          case rel => exact ⟨n7, n8, pA0, pk0, pc0, pA1, pk1, pc1, pA2, pk2, pc2, pA3, pk3, pc3, pA4, pk4, pc4, sA0, sk0, sc0, sA1, sk1, sc1, sA2, sk2, sc2, sA3, sk3, sc3, sA4, sk4, sc4, rfl, rfl, HX⟩
        · go_simp
          have hb := (Below.refl U11.heap.size U11).alloc (Nat.le_refl _) (.cells #[.slice none 0 0, .slice none 0 0, .slice none 0 0, .slice none 0 0, .slice none 0 0, .int .i64 0, .int .i64 0, .int .i64 0, .int .i64 0, .int .i64 0] 33)
          have HBU16 := Lib.hid (HBU11.out.trans (hb.mono HBU11.out.size))
          have HR0U16 := Lib.hid (Below.row hb HR0U11.out HR0U11.out.lt)
          have HR1U16 := Lib.hid (Below.row hb HR1U11.out HR1U11.out.lt)
          have HV1U16 := Lib.hid (five_up HV1U11.out hb)
          have HN7U16 := Lib.hid (Below.row hb HN7U11.out HN7U11.out.lt)
          have HN8U16 := Lib.hid (Row.new U11 33 #[.slice none 0 0, .slice none 0 0, .slice none 0 0, .slice none 0 0, .slice none 0 0, .int .i64 0, .int .i64 0, .int .i64 0, .int .i64 0, .int .i64 0])
          have HG8 : Hid (w.heap.size ≤ U11.heap.size) := HBU11.out.size
          have HNE : Hid (n7 ≠ U11.heap.size) := by show _ ≠ _; have := HN7U11.out.lt; omega
          clear hb
          clear HBU11 HR0U11 HR1U11 HV1U11 HN7U11
          obtain ⟨n8, hn8⟩ : ∃ x, x = U11.heap.size := ⟨_, rfl⟩
          rw [← hn8] at HN8U16 HG8 HNE ⊢
          clear hn8
          generalize U11.alloc (.cells #[.slice none 0 0, .slice none 0 0, .slice none 0 0, .slice none 0 0, .slice none 0 0, .int .i64 0, .int .i64 0, .int .i64 0, .int .i64 0, .int .i64 0] 33) = U16 at *
          first | refine ⟨⟨HR0U16.out, HR1U16.out⟩, ?_⟩ | refine ⟨fun _ => ⟨HR0U16.out, HR1U16.out⟩, ?_⟩
          refine AnyBut.one 3 rfl (by kernel_rfl) (by rfl) ?_
          go_simp
          refine (roughO_any U16 d1 _ HDK1.out (HD1.out U16 HBU16.out) HS1.out).mono ?_
          rintro e U17 ⟨vN, vS, vP, vQ, vR, rfl, hF, -, hb⟩
          rw [HNN.out] at hF ⊢
          obtain ⟨⟨sA0, sk0, sc0, rfl⟩, ⟨sA1, sk1, sc1, rfl⟩, ⟨sA2, sk2, sc2, rfl⟩, ⟨sA3, sk3, sc3, rfl⟩, ⟨sA4, sk4, sc4, rfl⟩⟩ := five_slices hF
          have HBU17 := Lib.hid (HBU16.out.trans (hb.mono HBU16.out.size))
          have HR0U17 := Lib.hid (Below.row hb HR0U16.out HR0U16.out.lt)
          have HR1U17 := Lib.hid (Below.row hb HR1U16.out HR1U16.out.lt)
          have HV1U17 := Lib.hid (five_up HV1U16.out hb)
          have HN7U17 := Lib.hid (Below.row hb HN7U16.out HN7U16.out.lt)
          have HN8U17 := Lib.hid (Below.row hb HN8U16.out HN8U16.out.lt)
          have HV2U17 := Lib.hid hF
          clear hb hF
          clear HBU16 HR0U16 HR1U16 HV1U16 HN7U16 HN8U16
          first | refine ⟨⟨HR0U17.out, HR1U17.out⟩, ?_⟩ | refine ⟨fun _ => ⟨HR0U17.out, HR1U17.out⟩, ?_⟩
          refine AnyBut.one 6 rfl (by kernel_rfl) (by rfl) ?_
          have hz := HN7U17.out
          have q0 := hz.cell 0; have r0 := hz.frozen 0
          have q1 := hz.cell 1; have r1 := hz.frozen 1
          have q2 := hz.cell 2; have r2 := hz.frozen 2
          have q3 := hz.cell 3; have r3 := hz.frozen 3
          have q4 := hz.cell 4; have r4 := hz.frozen 4
          have q5 := hz.cell 5; have r5 := hz.frozen 5
          have q6 := hz.cell 6; have r6 := hz.frozen 6
          have q7 := hz.cell 7; have r7 := hz.frozen 7
          have q8 := hz.cell 8; have r8 := hz.frozen 8
          have q9 := hz.cell 9; have r9 := hz.frozen 9
          simp only [List.getElem?_toArray, List.getElem?_cons_zero, List.getElem?_cons_succ] at q0 q1 q2 q3 q4 q5 q6 q7 q8 q9
          go_simp
          have hp := put10 hz (.slice pA0 pk0 pc0) (.slice pA1 pk1 pc1) (.slice pA2 pk2 pc2) (.slice pA3 pk3 pc3) (.slice pA4 pk4 pc4) (.int .i64 L.speed) (.int .i64 L.mute) (.int .i64 L.wait) (.int .i64 L.cancel) (.int .i64 L.stay)
          clear hz q0 r0 q1 r1 q2 r2 q3 r3 q4 r4 q5 r5 q6 r6 q7 r7 q8 r8 q9 r9
          have ne0 : g0 ≠ n7 := Row.ne HR0U17.out HN7U17.out (by decide)
          have ne1 : g1 ≠ n7 := Row.ne HR1U17.out HN7U17.out (by decide)
          have k0 := Lib.hid (hp.2.2.row HR0U17.out (by simpa using ne0)); have k1 := Lib.hid (hp.2.2.row HR1U17.out (by simpa using ne1))
          have k7 := Lib.hid hp.1; have k8 := Lib.hid (hp.2.2.row HN8U17.out (by simpa using HNE.out.symm))
          have kv1 := Lib.hid (HV1U17.out.kept hp.2.2 (other_one HN7U17.out)); have kv2 := Lib.hid (HV2U17.out.kept hp.2.2 (other_one HN7U17.out))
          have kb : Hid (Below w.heap.size w ((((((((((U17.setCell ⟨n7, 0, none⟩ (.slice pA0 pk0 pc0)).setCell ⟨n7, 1, none⟩ (.slice pA1 pk1 pc1)).setCell ⟨n7, 2, none⟩ (.slice pA2 pk2 pc2)).setCell ⟨n7, 3, none⟩ (.slice pA3 pk3 pc3)).setCell ⟨n7, 4, none⟩ (.slice pA4 pk4 pc4)).setCell ⟨n7, 5, none⟩ (.int .i64 L.speed)).setCell ⟨n7, 6, none⟩ (.int .i64 L.mute)).setCell ⟨n7, 7, none⟩ (.int .i64 L.wait)).setCell ⟨n7, 8, none⟩ (.int .i64 L.cancel)).setCell ⟨n7, 9, none⟩ (.int .i64 L.stay))) := HBU17.out.trans (hp.2.1.mono HG7.out)
          clear hp ne0 ne1
          clear HBU17 HR0U17 HR1U17 HV1U17 HV2U17 HN7U17 HN8U17
          generalize ((((((((((U17.setCell ⟨n7, 0, none⟩ (.slice pA0 pk0 pc0)).setCell ⟨n7, 1, none⟩ (.slice pA1 pk1 pc1)).setCell ⟨n7, 2, none⟩ (.slice pA2 pk2 pc2)).setCell ⟨n7, 3, none⟩ (.slice pA3 pk3 pc3)).setCell ⟨n7, 4, none⟩ (.slice pA4 pk4 pc4)).setCell ⟨n7, 5, none⟩ (.int .i64 L.speed)).setCell ⟨n7, 6, none⟩ (.int .i64 L.mute)).setCell ⟨n7, 7, none⟩ (.int .i64 L.wait)).setCell ⟨n7, 8, none⟩ (.int .i64 L.cancel)).setCell ⟨n7, 9, none⟩ (.int .i64 L.stay)) = U18 at *
          first | refine ⟨⟨k0.out, k1.out⟩, ?_⟩ | refine ⟨fun _ => ⟨k0.out, k1.out⟩, ?_⟩
          refine AnyBut.one 7 rfl (by kernel_rfl) (by rfl) ?_
          have hz := k8.out
          have q0 := hz.cell 0; have r0 := hz.frozen 0
          have q1 := hz.cell 1; have r1 := hz.frozen 1
          have q2 := hz.cell 2; have r2 := hz.frozen 2
          have q3 := hz.cell 3; have r3 := hz.frozen 3
          have q4 := hz.cell 4; have r4 := hz.frozen 4
          have q5 := hz.cell 5; have r5 := hz.frozen 5
          have q6 := hz.cell 6; have r6 := hz.frozen 6
          have q7 := hz.cell 7; have r7 := hz.frozen 7
          have q8 := hz.cell 8; have r8 := hz.frozen 8
          have q9 := hz.cell 9; have r9 := hz.frozen 9
          simp only [List.getElem?_toArray, List.getElem?_cons_zero, List.getElem?_cons_succ] at q0 q1 q2 q3 q4 q5 q6 q7 q8 q9
          go_simp
          have hp := put10 hz (.slice sA0 sk0 sc0) (.slice sA1 sk1 sc1) (.slice sA2 sk2 sc2) (.slice sA3 sk3 sc3) (.slice sA4 sk4 sc4) (.int .i64 M.speed) (.int .i64 M.mute) (.int .i64 M.wait) (.int .i64 M.cancel) (.int .i64 M.stay)
          clear hz q0 r0 q1 r1 q2 r2 q3 r3 q4 r4 q5 r5 q6 r6 q7 r7 q8 r8 q9 r9
          have ne0 : g0 ≠ n8 := Row.ne k0.out k8.out (by decide)
          have HX : Hid (Row ((((((((((U18.setCell ⟨n8, 0, none⟩ (.slice sA0 sk0 sc0)).setCell ⟨n8, 1, none⟩ (.slice sA1 sk1 sc1)).setCell ⟨n8, 2, none⟩ (.slice sA2 sk2 sc2)).setCell ⟨n8, 3, none⟩ (.slice sA3 sk3 sc3)).setCell ⟨n8, 4, none⟩ (.slice sA4 sk4 sc4)).setCell ⟨n8, 5, none⟩ (.int .i64 M.speed)).setCell ⟨n8, 6, none⟩ (.int .i64 M.mute)).setCell ⟨n8, 7, none⟩ (.int .i64 M.wait)).setCell ⟨n8, 8, none⟩ (.int .i64 M.cancel)).setCell ⟨n8, 9, none⟩ (.int .i64 M.stay)) n7 33 #[.slice pA0 pk0 pc0, .slice pA1 pk1 pc1, .slice pA2 pk2 pc2, .slice pA3 pk3 pc3, .slice pA4 pk4 pc4, .int .i64 L.speed, .int .i64 L.mute, .int .i64 L.wait, .int .i64 L.cancel, .int .i64 L.stay] ∧ Row ((((((((((U18.setCell ⟨n8, 0, none⟩ (.slice sA0 sk0 sc0)).setCell ⟨n8, 1, none⟩ (.slice sA1 sk1 sc1)).setCell ⟨n8, 2, none⟩ (.slice sA2 sk2 sc2)).setCell ⟨n8, 3, none⟩ (.slice sA3 sk3 sc3)).setCell ⟨n8, 4, none⟩ (.slice sA4 sk4 sc4)).setCell ⟨n8, 5, none⟩ (.int .i64 M.speed)).setCell ⟨n8, 6, none⟩ (.int .i64 M.mute)).setCell ⟨n8, 7, none⟩ (.int .i64 M.wait)).setCell ⟨n8, 8, none⟩ (.int .i64 M.cancel)).setCell ⟨n8, 9, none⟩ (.int .i64 M.stay)) n8 33 #[.slice sA0 sk0 sc0, .slice sA1 sk1 sc1, .slice sA2 sk2 sc2, .slice sA3 sk3 sc3, .slice sA4 sk4 sc4, .int .i64 M.speed, .int .i64 M.mute, .int .i64 M.wait, .int .i64 M.cancel, .int .i64 M.stay] ∧ Five ((((((((((U18.setCell ⟨n8, 0, none⟩ (.slice sA0 sk0 sc0)).setCell ⟨n8, 1, none⟩ (.slice sA1 sk1 sc1)).setCell ⟨n8, 2, none⟩ (.slice sA2 sk2 sc2)).setCell ⟨n8, 3, none⟩ (.slice sA3 sk3 sc3)).setCell ⟨n8, 4, none⟩ (.slice sA4 sk4 sc4)).setCell ⟨n8, 5, none⟩ (.int .i64 M.speed)).setCell ⟨n8, 6, none⟩ (.int .i64 M.mute)).setCell ⟨n8, 7, none⟩ (.int .i64 M.wait)).setCell ⟨n8, 8, none⟩ (.int .i64 M.cancel)).setCell ⟨n8, 9, none⟩ (.int .i64 M.stay)) (.slice pA0 pk0 pc0) (.slice pA1 pk1 pc1) (.slice pA2 pk2 pc2) (.slice pA3 pk3 pc3) (.slice pA4 pk4 pc4) L ∧ Five ((((((((((U18.setCell ⟨n8, 0, none⟩ (.slice sA0 sk0 sc0)).setCell ⟨n8, 1, none⟩ (.slice sA1 sk1 sc1)).setCell ⟨n8, 2, none⟩ (.slice sA2 sk2 sc2)).setCell ⟨n8, 3, none⟩ (.slice sA3 sk3 sc3)).setCell ⟨n8, 4, none⟩ (.slice sA4 sk4 sc4)).setCell ⟨n8, 5, none⟩ (.int .i64 M.speed)).setCell ⟨n8, 6, none⟩ (.int .i64 M.mute)).setCell ⟨n8, 7, none⟩ (.int .i64 M.wait)).setCell ⟨n8, 8, none⟩ (.int .i64 M.cancel)).setCell ⟨n8, 9, none⟩ (.int .i64 M.stay)) (.slice sA0 sk0 sc0) (.slice sA1 sk1 sc1) (.slice sA2 sk2 sc2) (.slice sA3 sk3 sc3) (.slice sA4 sk4 sc4) M ∧ Row ((((((((((U18.setCell ⟨n8, 0, none⟩ (.slice sA0 sk0 sc0)).setCell ⟨n8, 1, none⟩ (.slice sA1 sk1 sc1)).setCell ⟨n8, 2, none⟩ (.slice sA2 sk2 sc2)).setCell ⟨n8, 3, none⟩ (.slice sA3 sk3 sc3)).setCell ⟨n8, 4, none⟩ (.slice sA4 sk4 sc4)).setCell ⟨n8, 5, none⟩ (.int .i64 M.speed)).setCell ⟨n8, 6, none⟩ (.int .i64 M.mute)).setCell ⟨n8, 7, none⟩ (.int .i64 M.wait)).setCell ⟨n8, 8, none⟩ (.int .i64 M.cancel)).setCell ⟨n8, 9, none⟩ (.int .i64 M.stay)) g0 25 #[.int .u8 (d0.form : Int), .int .u8 (d0.len : Int), .int .u8 (d0.speed : Int), .int .u16 (d0.mute : Int), .int .u16 (d0.wait : Int), .int .u8 (d0.cancel : Int), .int .u8 (d0.stay : Int), .int .u8 (d0.join : Int), .slice rA0 rk0 rc0] ∧ Below w.heap.size w ((((((((((U18.setCell ⟨n8, 0, none⟩ (.slice sA0 sk0 sc0)).setCell ⟨n8, 1, none⟩ (.slice sA1 sk1 sc1)).setCell ⟨n8, 2, none⟩ (.slice sA2 sk2 sc2)).setCell ⟨n8, 3, none⟩ (.slice sA3 sk3 sc3)).setCell ⟨n8, 4, none⟩ (.slice sA4 sk4 sc4)).setCell ⟨n8, 5, none⟩ (.int .i64 M.speed)).setCell ⟨n8, 6, none⟩ (.int .i64 M.mute)).setCell ⟨n8, 7, none⟩ (.int .i64 M.wait)).setCell ⟨n8, 8, none⟩ (.int .i64 M.cancel)).setCell ⟨n8, 9, none⟩ (.int .i64 M.stay))) :=
            ⟨hp.2.2.row k7.out (by simpa using HNE.out), hp.1, kv1.out.kept hp.2.2 (other_one k8.out), kv2.out.kept hp.2.2 (other_one k8.out), hp.2.2.row k0.out (by simpa using ne0), kb.out.trans (hp.2.1.mono HG8.out)⟩
          clear hp ne0 k0 k1 k7 k8 kv1 kv2 kb
          generalize ((((((((((U18.setCell ⟨n8, 0, none⟩ (.slice sA0 sk0 sc0)).setCell ⟨n8, 1, none⟩ (.slice sA1 sk1 sc1)).setCell ⟨n8, 2, none⟩ (.slice sA2 sk2 sc2)).setCell ⟨n8, 3, none⟩ (.slice sA3 sk3 sc3)).setCell ⟨n8, 4, none⟩ (.slice sA4 sk4 sc4)).setCell ⟨n8, 5, none⟩ (.int .i64 M.speed)).setCell ⟨n8, 6, none⟩ (.int .i64 M.mute)).setCell ⟨n8, 7, none⟩ (.int .i64 M.wait)).setCell ⟨n8, 8, none⟩ (.int .i64 M.cancel)).setCell ⟨n8, 9, none⟩ (.int .i64 M.stay)) = U19 at *
          refine AnyBut.done (by kernel_rfl) ?_
          go_wp2_with fail
          go_meet
          case rel => exact ⟨n7, n8, pA0, pk0, pc0, pA1, pk1, pc1, pA2, pk2, pc2, pA3, pk3, pc3, pA4, pk4, pc4, sA0, sk0, sc0, sA1, sk1, sc1, sA2, sk2, sc2, sA3, sk3, sc3, sA4, sk4, sc4, rfl, rfl, HX⟩
      · go_simp
        have hb := (Below.refl U1.heap.size U1).alloc (Nat.le_refl _) (.cells #[.slice none 0 0, .slice none 0 0, .slice none 0 0, .slice none 0 0, .slice none 0 0, .int .i64 0, .int .i64 0, .int .i64 0, .int .i64 0, .int .i64 0] 33)
        have HBU20 := Lib.hid (HBU1.out.trans (hb.mono HBU1.out.size))
        have HR0U20 := Lib.hid (Below.row hb HR0U1.out HR0U1.out.lt)
        have HR1U20 := Lib.hid (Below.row hb HR1U1.out HR1U1.out.lt)
        have HV1U20 := Lib.hid (five_up HV1U1.out hb)
        have HN8U20 := Lib.hid (Row.new U1 33 #[.slice none 0 0, .slice none 0 0, .slice none 0 0, .slice none 0 0, .slice none 0 0, .int .i64 0, .int .i64 0, .int .i64 0, .int .i64 0, .int .i64 0])
        have HG8 : Hid (w.heap.size ≤ U1.heap.size) := HBU1.out.size
        clear hb
        clear HBU1 HR0U1 HR1U1 HV1U1
        obtain ⟨n8, hn8⟩ : ∃ x, x = U1.heap.size := ⟨_, rfl⟩
        rw [← hn8] at HN8U20 HG8 ⊢
        clear hn8
        generalize U1.alloc (.cells #[.slice none 0 0, .slice none 0 0, .slice none 0 0, .slice none 0 0, .slice none 0 0, .int .i64 0, .int .i64 0, .int .i64 0, .int .i64 0, .int .i64 0] 33) = U20 at *
        first | refine ⟨⟨HR0U20.out, HR1U20.out⟩, ?_⟩ | refine ⟨fun _ => ⟨HR0U20.out, HR1U20.out⟩, ?_⟩
        refine any_two 3 4 rfl rfl (by kernel_rfl) (by rfl) (by rfl) ?_ ?_
        · go_simp
          refine (roughO_any U20 d1 _ HDK1.out (HD1.out U20 HBU20.out) HS1.out).mono ?_
          rintro e U21 ⟨vN, vS, vP, vQ, vR, rfl, hF, -, hb⟩
          rw [HNN.out] at hF ⊢
          obtain ⟨⟨sA0, sk0, sc0, rfl⟩, ⟨sA1, sk1, sc1, rfl⟩, ⟨sA2, sk2, sc2, rfl⟩, ⟨sA3, sk3, sc3, rfl⟩, ⟨sA4, sk4, sc4, rfl⟩⟩ := five_slices hF
          have HBU21 := Lib.hid (HBU20.out.trans (hb.mono HBU20.out.size))
          have HR0U21 := Lib.hid (Below.row hb HR0U20.out HR0U20.out.lt)
          have HR1U21 := Lib.hid (Below.row hb HR1U20.out HR1U20.out.lt)
          have HV1U21 := Lib.hid (five_up HV1U20.out hb)
          have HN8U21 := Lib.hid (Below.row hb HN8U20.out HN8U20.out.lt)
          have HV2U21 := Lib.hid hF
          clear hb hF
          clear HBU20 HR0U20 HR1U20 HV1U20 HN8U20
          first | refine ⟨⟨HR0U21.out, HR1U21.out⟩, ?_⟩ | refine ⟨fun _ => ⟨HR0U21.out, HR1U21.out⟩, ?_⟩
          refine AnyBut.one 4 rfl (by kernel_rfl) (by rfl) ?_
          go_simp
          have hb := (Below.refl U21.heap.size U21).alloc (Nat.le_refl _) (.cells #[.slice none 0 0, .slice none 0 0, .slice none 0 0, .slice none 0 0, .slice none 0 0, .int .i64 0, .int .i64 0, .int .i64 0, .int .i64 0, .int .i64 0] 33)
          have HBU22 := Lib.hid (HBU21.out.trans (hb.mono HBU21.out.size))
          have HR0U22 := Lib.hid (Below.row hb HR0U21.out HR0U21.out.lt)
          have HR1U22 := Lib.hid (Below.row hb HR1U21.out HR1U21.out.lt)
          have HV1U22 := Lib.hid (five_up HV1U21.out hb)
          have HV2U22 := Lib.hid (five_up HV2U21.out hb)
          have HN8U22 := Lib.hid (Below.row hb HN8U21.out HN8U21.out.lt)
          have HN7U22 := Lib.hid (Row.new U21 33 #[.slice none 0 0, .slice none 0 0, .slice none 0 0, .slice none 0 0, .slice none 0 0, .int .i64 0, .int .i64 0, .int .i64 0, .int .i64 0, .int .i64 0])
          have HG7 : Hid (w.heap.size ≤ U21.heap.size) := HBU21.out.size
          have HNE : Hid (U21.heap.size ≠ n8) := by show _ ≠ _; have := HN8U21.out.lt; omega
          clear hb
          clear HBU21 HR0U21 HR1U21 HV1U21 HV2U21 HN8U21
          obtain ⟨n7, hn7⟩ : ∃ x, x = U21.heap.size := ⟨_, rfl⟩
          rw [← hn7] at HN7U22 HG7 HNE ⊢
          clear hn7
          generalize U21.alloc (.cells #[.slice none 0 0, .slice none 0 0, .slice none 0 0, .slice none 0 0, .slice none 0 0, .int .i64 0, .int .i64 0, .int .i64 0, .int .i64 0, .int .i64 0] 33) = U22 at *
          first | refine ⟨⟨HR0U22.out, HR1U22.out⟩, ?_⟩ | refine ⟨fun _ => ⟨HR0U22.out, HR1U22.out⟩, ?_⟩
          refine AnyBut.one 6 rfl (by kernel_rfl) (by rfl) ?_
          have hz := HN7U22.out
          have q0 := hz.cell 0; have r0 := hz.frozen 0
          have q1 := hz.cell 1; have r1 := hz.frozen 1
          have q2 := hz.cell 2; have r2 := hz.frozen 2
          have q3 := hz.cell 3; have r3 := hz.frozen 3
          have q4 := hz.cell 4; have r4 := hz.frozen 4
          have q5 := hz.cell 5; have r5 := hz.frozen 5
          have q6 := hz.cell 6; have r6 := hz.frozen 6
          have q7 := hz.cell 7; have r7 := hz.frozen 7
          have q8 := hz.cell 8; have r8 := hz.frozen 8
          have q9 := hz.cell 9; have r9 := hz.frozen 9
          simp only [List.getElem?_toArray, List.getElem?_cons_zero, List.getElem?_cons_succ] at q0 q1 q2 q3 q4 q5 q6 q7 q8 q9
          go_simp
          have hp := put10 hz (.slice pA0 pk0 pc0) (.slice pA1 pk1 pc1) (.slice pA2 pk2 pc2) (.slice pA3 pk3 pc3) (.slice pA4 pk4 pc4) (.int .i64 L.speed) (.int .i64 L.mute) (.int .i64 L.wait) (.int .i64 L.cancel) (.int .i64 L.stay)
          clear hz q0 r0 q1 r1 q2 r2 q3 r3 q4 r4 q5 r5 q6 r6 q7 r7 q8 r8 q9 r9
          have ne0 : g0 ≠ n7 := Row.ne HR0U22.out HN7U22.out (by decide)
          have ne1 : g1 ≠ n7 := Row.ne HR1U22.out HN7U22.out (by decide)
          have k0 := Lib.hid (hp.2.2.row HR0U22.out (by simpa using ne0)); have k1 := Lib.hid (hp.2.2.row HR1U22.out (by simpa using ne1))
          have k7 := Lib.hid hp.1; have k8 := Lib.hid (hp.2.2.row HN8U22.out (by simpa using HNE.out.symm))
          have kv1 := Lib.hid (HV1U22.out.kept hp.2.2 (other_one HN7U22.out)); have kv2 := Lib.hid (HV2U22.out.kept hp.2.2 (other_one HN7U22.out))
          have kb : Hid (Below w.heap.size w ((((((((((U22.setCell ⟨n7, 0, none⟩ (.slice pA0 pk0 pc0)).setCell ⟨n7, 1, none⟩ (.slice pA1 pk1 pc1)).setCell ⟨n7, 2, none⟩ (.slice pA2 pk2 pc2)).setCell ⟨n7, 3, none⟩ (.slice pA3 pk3 pc3)).setCell ⟨n7, 4, none⟩ (.slice pA4 pk4 pc4)).setCell ⟨n7, 5, none⟩ (.int .i64 L.speed)).setCell ⟨n7, 6, none⟩ (.int .i64 L.mute)).setCell ⟨n7, 7, none⟩ (.int .i64 L.wait)).setCell ⟨n7, 8, none⟩ (.int .i64 L.cancel)).setCell ⟨n7, 9, none⟩ (.int .i64 L.stay))) := HBU22.out.trans (hp.2.1.mono HG7.out)
          clear hp ne0 ne1
          clear HBU22 HR0U22 HR1U22 HV1U22 HV2U22 HN7U22 HN8U22
          generalize ((((((((((U22.setCell ⟨n7, 0, none⟩ (.slice pA0 pk0 pc0)).setCell ⟨n7, 1, none⟩ (.slice pA1 pk1 pc1)).setCell ⟨n7, 2, none⟩ (.slice pA2 pk2 pc2)).setCell ⟨n7, 3, none⟩ (.slice pA3 pk3 pc3)).setCell ⟨n7, 4, none⟩ (.slice pA4 pk4 pc4)).setCell ⟨n7, 5, none⟩ (.int .i64 L.speed)).setCell ⟨n7, 6, none⟩ (.int .i64 L.mute)).setCell ⟨n7, 7, none⟩ (.int .i64 L.wait)).setCell ⟨n7, 8, none⟩ (.int .i64 L.cancel)).setCell ⟨n7, 9, none⟩ (.int .i64 L.stay)) = U23 at *
          first | refine ⟨⟨k0.out, k1.out⟩, ?_⟩ | refine ⟨fun _ => ⟨k0.out, k1.out⟩, ?_⟩
          refine AnyBut.one 7 rfl (by kernel_rfl) (by rfl) ?_
          have hz := k8.out
          have q0 := hz.cell 0; have r0 := hz.frozen 0
          have q1 := hz.cell 1; have r1 := hz.frozen 1
          have q2 := hz.cell 2; have r2 := hz.frozen 2
          have q3 := hz.cell 3; have r3 := hz.frozen 3
          have q4 := hz.cell 4; have r4 := hz.frozen 4
          have q5 := hz.cell 5; have r5 := hz.frozen 5
          have q6 := hz.cell 6; have r6 := hz.frozen 6
          have q7 := hz.cell 7; have r7 := hz.frozen 7
          have q8 := hz.cell 8; have r8 := hz.frozen 8
          have q9 := hz.cell 9; have r9 := hz.frozen 9
          simp only [List.getElem?_toArray, List.getElem?_cons_zero, List.getElem?_cons_succ] at q0 q1 q2 q3 q4 q5 q6 q7 q8 q9
          go_simp
          have hp := put10 hz (.slice sA0 sk0 sc0) (.slice sA1 sk1 sc1) (.slice sA2 sk2 sc2) (.slice sA3 sk3 sc3) (.slice sA4 sk4 sc4) (.int .i64 M.speed) (.int .i64 M.mute) (.int .i64 M.wait) (.int .i64 M.cancel) (.int .i64 M.stay)
          clear hz q0 r0 q1 r1 q2 r2 q3 r3 q4 r4 q5 r5 q6 r6 q7 r7 q8 r8 q9 r9
          have ne0 : g0 ≠ n8 := Row.ne k0.out k8.out (by decide)
          have HX : Hid (Row ((((((((((U23.setCell ⟨n8, 0, none⟩ (.slice sA0 sk0 sc0)).setCell ⟨n8, 1, none⟩ (.slice sA1 sk1 sc1)).setCell ⟨n8, 2, none⟩ (.slice sA2 sk2 sc2)).setCell ⟨n8, 3, none⟩ (.slice sA3 sk3 sc3)).setCell ⟨n8, 4, none⟩ (.slice sA4 sk4 sc4)).setCell ⟨n8, 5, none⟩ (.int .i64 M.speed)).setCell ⟨n8, 6, none⟩ (.int .i64 M.mute)).setCell ⟨n8, 7, none⟩ (.int .i64 M.wait)).setCell ⟨n8, 8, none⟩ (.int .i64 M.cancel)).setCell ⟨n8, 9, none⟩ (.int .i64 M.stay)) n7 33 #[.slice pA0 pk0 pc0, .slice pA1 pk1 pc1, .slice pA2 pk2 pc2, .slice pA3 pk3 pc3, .slice pA4 pk4 pc4, .int .i64 L.speed, .int .i64 L.mute, .int .i64 L.wait, .int .i64 L.cancel, .int .i64 L.stay] ∧ Row ((((((((((U23.setCell ⟨n8, 0, none⟩ (.slice sA0 sk0 sc0)).setCell ⟨n8, 1, none⟩ (.slice sA1 sk1 sc1)).setCell ⟨n8, 2, none⟩ (.slice sA2 sk2 sc2)).setCell ⟨n8, 3, none⟩ (.slice sA3 sk3 sc3)).setCell ⟨n8, 4, none⟩ (.slice sA4 sk4 sc4)).setCell ⟨n8, 5, none⟩ (.int .i64 M.speed)).setCell ⟨n8, 6, none⟩ (.int .i64 M.mute)).setCell ⟨n8, 7, none⟩ (.int .i64 M.wait)).setCell ⟨n8, 8, none⟩ (.int .i64 M.cancel)).setCell ⟨n8, 9, none⟩ (.int .i64 M.stay)) n8 33 #[.slice sA0 sk0 sc0, .slice sA1 sk1 sc1, .slice sA2 sk2 sc2, .slice sA3 sk3 sc3, .slice sA4 sk4 sc4, .int .i64 M.speed, .int .i64 M.mute, .int .i64 M.wait, .int .i64 M.cancel, .int .i64 M.stay] ∧ Five ((((((((((U23.setCell ⟨n8, 0, none⟩ (.slice sA0 sk0 sc0)).setCell ⟨n8, 1, none⟩ (.slice sA1 sk1 sc1)).setCell ⟨n8, 2, none⟩ (.slice sA2 sk2 sc2)).setCell ⟨n8, 3, none⟩ (.slice sA3 sk3 sc3)).setCell ⟨n8, 4, none⟩ (.slice sA4 sk4 sc4)).setCell ⟨n8, 5, none⟩ (.int .i64 M.speed)).setCell ⟨n8, 6, none⟩ (.int .i64 M.mute)).setCell ⟨n8, 7, none⟩ (.int .i64 M.wait)).setCell ⟨n8, 8, none⟩ (.int .i64 M.cancel)).setCell ⟨n8, 9, none⟩ (.int .i64 M.stay)) (.slice pA0 pk0 pc0) (.slice pA1 pk1 pc1) (.slice pA2 pk2 pc2) (.slice pA3 pk3 pc3) (.slice pA4 pk4 pc4) L ∧ Five ((((((((((U23.setCell ⟨n8, 0, none⟩ (.slice sA0 sk0 sc0)).setCell ⟨n8, 1, none⟩ (.slice sA1 sk1 sc1)).setCell ⟨n8, 2, none⟩ (.slice sA2 sk2 sc2)).setCell ⟨n8, 3, none⟩ (.slice sA3 sk3 sc3)).setCell ⟨n8, 4, none⟩ (.slice sA4 sk4 sc4)).setCell ⟨n8, 5, none⟩ (.int .i64 M.speed)).setCell ⟨n8, 6, none⟩ (.int .i64 M.mute)).setCell ⟨n8, 7, none⟩ (.int .i64 M.wait)).setCell ⟨n8, 8, none⟩ (.int .i64 M.cancel)).setCell ⟨n8, 9, none⟩ (.int .i64 M.stay)) (.slice sA0 sk0 sc0) (.slice sA1 sk1 sc1) (.slice sA2 sk2 sc2) (.slice sA3 sk3 sc3) (.slice sA4 sk4 sc4) M ∧ Row ((((((((((U23.setCell ⟨n8, 0, none⟩ (.slice sA0 sk0 sc0)).setCell ⟨n8, 1, none⟩ (.slice sA1 sk1 sc1)).setCell ⟨n8, 2, none⟩ (.slice sA2 sk2 sc2)).setCell ⟨n8, 3, none⟩ (.slice sA3 sk3 sc3)).setCell ⟨n8, 4, none⟩ (.slice sA4 sk4 sc4)).setCell ⟨n8, 5, none⟩ (.int .i64 M.speed)).setCell ⟨n8, 6, none⟩ (.int .i64 M.mute)).setCell ⟨n8, 7, none⟩ (.int .i64 M.wait)).setCell ⟨n8, 8, none⟩ (.int .i64 M.cancel)).setCell ⟨n8, 9, none⟩ (.int .i64 M.stay)) g0 25 #[.int .u8 (d0.form : Int), .int .u8 (d0.len : Int), .int .u8 (d0.speed : Int), .int .u16 (d0.mute : Int), .int .u16 (d0.wait : Int), .int .u8 (d0.cancel : Int), .int .u8 (d0.stay : Int), .int .u8 (d0.join : Int), .slice rA0 rk0 rc0] ∧ Below w.heap.size w ((((((((((U23.setCell ⟨n8, 0, none⟩ (.slice sA0 sk0 sc0)).setCell ⟨n8, 1, none⟩ (.slice sA1 sk1 sc1)).setCell ⟨n8, 2, none⟩ (.slice sA2 sk2 sc2)).setCell ⟨n8, 3, none⟩ (.slice sA3 sk3 sc3)).setCell ⟨n8, 4, none⟩ (.slice sA4 sk4 sc4)).setCell ⟨n8, 5, none⟩ (.int .i64 M.speed)).setCell ⟨n8, 6, none⟩ (.int .i64 M.mute)).setCell ⟨n8, 7, none⟩ (.int .i64 M.wait)).setCell ⟨n8, 8, none⟩ (.int .i64 M.cancel)).setCell ⟨n8, 9, none⟩ (.int .i64 M.stay))) :=
            ⟨hp.2.2.row k7.out (by simpa using HNE.out), hp.1, kv1.out.kept hp.2.2 (other_one k8.out), kv2.out.kept hp.2.2 (other_one k8.out), hp.2.2.row k0.out (by simpa using ne0), kb.out.trans (hp.2.1.mono HG8.out)⟩
          clear hp ne0 k0 k1 k7 k8 kv1 kv2 kb
          generalize ((((((((((U23.setCell ⟨n8, 0, none⟩ (.slice sA0 sk0 sc0)).setCell ⟨n8, 1, none⟩ (.slice sA1 sk1 sc1)).setCell ⟨n8, 2, none⟩ (.slice sA2 sk2 sc2)).setCell ⟨n8, 3, none⟩ (.slice sA3 sk3 sc3)).setCell ⟨n8, 4, none⟩ (.slice sA4 sk4 sc4)).setCell ⟨n8, 5, none⟩ (.int .i64 M.speed)).setCell ⟨n8, 6, none⟩ (.int .i64 M.mute)).setCell ⟨n8, 7, none⟩ (.int .i64 M.wait)).setCell ⟨n8, 8, none⟩ (.int .i64 M.cancel)).setCell ⟨n8, 9, none⟩ (.int .i64 M.stay)) = U24 at *
          refine AnyBut.done (by kernel_rfl) ?_
          go_wp2_with fail
          go_meet
          case rel => exact ⟨n7, n8, pA0, pk0, pc0, pA1, pk1, pc1, pA2, pk2, pc2, pA3, pk3, pc3, pA4, pk4, pc4, sA0, sk0, sc0, sA1, sk1, sc1, sA2, sk2, sc2, sA3, sk3, sc3, sA4, sk4, sc4, rfl, rfl, HX⟩
        · go_simp
          have hb := (Below.refl U20.heap.size U20).alloc (Nat.le_refl _) (.cells #[.slice none 0 0, .slice none 0 0, .slice none 0 0, .slice none 0 0, .slice none 0 0, .int .i64 0, .int .i64 0, .int .i64 0, .int .i64 0, .int .i64 0] 33)
          have HBU25 := Lib.hid (HBU20.out.trans (hb.mono HBU20.out.size))
          have HR0U25 := Lib.hid (Below.row hb HR0U20.out HR0U20.out.lt)
          have HR1U25 := Lib.hid (Below.row hb HR1U20.out HR1U20.out.lt)
          have HV1U25 := Lib.hid (five_up HV1U20.out hb)
          have HN8U25 := Lib.hid (Below.row hb HN8U20.out HN8U20.out.lt)
          have HN7U25 := Lib.hid (Row.new U20 33 #[.slice none 0 0, .slice none 0 0, .slice none 0 0, .slice none 0 0, .slice none 0 0, .int .i64 0, .int .i64 0, .int .i64 0, .int .i64 0, .int .i64 0])
          have HG7 : Hid (w.heap.size ≤ U20.heap.size) := HBU20.out.size
          have HNE : Hid (U20.heap.size ≠ n8) := by show _ ≠ _; have := HN8U20.out.lt; omega
          clear hb
          clear HBU20 HR0U20 HR1U20 HV1U20 HN8U20
          obtain ⟨n7, hn7⟩ : ∃ x, x = U20.heap.size := ⟨_, rfl⟩
          rw [← hn7] at HN7U25 HG7 HNE ⊢
          clear hn7
          generalize U20.alloc (.cells #[.slice none 0 0, .slice none 0 0, .slice none 0 0, .slice none 0 0, .slice none 0 0, .int .i64 0, .int .i64 0, .int .i64 0, .int .i64 0, .int .i64 0] 33) = U25 at *
          first | refine ⟨⟨HR0U25.out, HR1U25.out⟩, ?_⟩ | refine ⟨fun _ => ⟨HR0U25.out, HR1U25.out⟩, ?_⟩
          refine AnyBut.one 3 rfl (by kernel_rfl) (by rfl) ?_
          go_simp
          refine (roughO_any U25 d1 _ HDK1.out (HD1.out U25 HBU25.out) HS1.out).mono ?_
          rintro e U26 ⟨vN, vS, vP, vQ, vR, rfl, hF, -, hb⟩
          rw [HNN.out] at hF ⊢
          obtain ⟨⟨sA0, sk0, sc0, rfl⟩, ⟨sA1, sk1, sc1, rfl⟩, ⟨sA2, sk2, sc2, rfl⟩, ⟨sA3, sk3, sc3, rfl⟩, ⟨sA4, sk4, sc4, rfl⟩⟩ := five_slices hF
          have HBU26 := Lib.hid (HBU25.out.trans (hb.mono HBU25.out.size))
          have HR0U26 := Lib.hid (Below.row hb HR0U25.out HR0U25.out.lt)
          have HR1U26 := Lib.hid (Below.row hb HR1U25.out HR1U25.out.lt)
          have HV1U26 := Lib.hid (five_up HV1U25.out hb)
          have HN7U26 := Lib.hid (Below.row hb HN7U25.out HN7U25.out.lt)
          have HN8U26 := Lib.hid (Below.row hb HN8U25.out HN8U25.out.lt)
          have HV2U26 := Lib.hid hF
          clear hb hF
          clear HBU25 HR0U25 HR1U25 HV1U25 HN7U25 HN8U25
          first | refine ⟨⟨HR0U26.out, HR1U26.out⟩, ?_⟩ | refine ⟨fun _ => ⟨HR0U26.out, HR1U26.out⟩, ?_⟩
          refine AnyBut.one 6 rfl (by kernel_rfl) (by rfl) ?_
          have hz := HN7U26.out
          have q0 := hz.cell 0; have r0 := hz.frozen 0
          have q1 := hz.cell 1; have r1 := hz.frozen 1
          have q2 := hz.cell 2; have r2 := hz.frozen 2
          have q3 := hz.cell 3; have r3 := hz.frozen 3
          have q4 := hz.cell 4; have r4 := hz.frozen 4
          have q5 := hz.cell 5; have r5 := hz.frozen 5
          have q6 := hz.cell 6; have r6 := hz.frozen 6
          have q7 := hz.cell 7; have r7 := hz.frozen 7
          have q8 := hz.cell 8; have r8 := hz.frozen 8
          have q9 := hz.cell 9; have r9 := hz.frozen 9
          simp only [List.getElem?_toArray, List.getElem?_cons_zero, List.getElem?_cons_succ] at q0 q1 q2 q3 q4 q5 q6 q7 q8 q9
          go_simp
          have hp := put10 hz (.slice pA0 pk0 pc0) (.slice pA1 pk1 pc1) (.slice pA2 pk2 pc2) (.slice pA3 pk3 pc3) (.slice pA4 pk4 pc4) (.int .i64 L.speed) (.int .i64 L.mute) (.int .i64 L.wait) (.int .i64 L.cancel) (.int .i64 L.stay)
          clear hz q0 r0 q1 r1 q2 r2 q3 r3 q4 r4 q5 r5 q6 r6 q7 r7 q8 r8 q9 r9
          have ne0 : g0 ≠ n7 := Row.ne HR0U26.out HN7U26.out (by decide)
          have ne1 : g1 ≠ n7 := Row.ne HR1U26.out HN7U26.out (by decide)
          have k0 := Lib.hid (hp.2.2.row HR0U26.out (by simpa using ne0)); have k1 := Lib.hid (hp.2.2.row HR1U26.out (by simpa using ne1))
          have k7 := Lib.hid hp.1; have k8 := Lib.hid (hp.2.2.row HN8U26.out (by simpa using HNE.out.symm))
          have kv1 := Lib.hid (HV1U26.out.kept hp.2.2 (other_one HN7U26.out)); have kv2 := Lib.hid (HV2U26.out.kept hp.2.2 (other_one HN7U26.out))
          have kb : Hid (Below w.heap.size w ((((((((((U26.setCell ⟨n7, 0, none⟩ (.slice pA0 pk0 pc0)).setCell ⟨n7, 1, none⟩ (.slice pA1 pk1 pc1)).setCell ⟨n7, 2, none⟩ (.slice pA2 pk2 pc2)).setCell ⟨n7, 3, none⟩ (.slice pA3 pk3 pc3)).setCell ⟨n7, 4, none⟩ (.slice pA4 pk4 pc4)).setCell ⟨n7, 5, none⟩ (.int .i64 L.speed)).setCell ⟨n7, 6, none⟩ (.int .i64 L.mute)).setCell ⟨n7, 7, none⟩ (.int .i64 L.wait)).setCell ⟨n7, 8, none⟩ (.int .i64 L.cancel)).setCell ⟨n7, 9, none⟩ (.int .i64 L.stay))) := HBU26.out.trans (hp.2.1.mono HG7.out)
          clear hp ne0 ne1
          clear HBU26 HR0U26 HR1U26 HV1U26 HV2U26 HN7U26 HN8U26
          generalize ((((((((((U26.setCell ⟨n7, 0, none⟩ (.slice pA0 pk0 pc0)).setCell ⟨n7, 1, none⟩ (.slice pA1 pk1 pc1)).setCell ⟨n7, 2, none⟩ (.slice pA2 pk2 pc2)).setCell ⟨n7, 3, none⟩ (.slice pA3 pk3 pc3)).setCell ⟨n7, 4, none⟩ (.slice pA4 pk4 pc4)).setCell ⟨n7, 5, none⟩ (.int .i64 L.speed)).setCell ⟨n7, 6, none⟩ (.int .i64 L.mute)).setCell ⟨n7, 7, none⟩ (.int .i64 L.wait)).setCell ⟨n7, 8, none⟩ (.int .i64 L.cancel)).setCell ⟨n7, 9, none⟩ (.int .i64 L.stay)) = U27 at *
          first | refine ⟨⟨k0.out, k1.out⟩, ?_⟩ | refine ⟨fun _ => ⟨k0.out, k1.out⟩, ?_⟩
          refine AnyBut.one 7 rfl (by kernel_rfl) (by rfl) ?_
          have hz := k8.out
          have q0 := hz.cell 0; have r0 := hz.frozen 0
          have q1 := hz.cell 1; have r1 := hz.frozen 1
          have q2 := hz.cell 2; have r2 := hz.frozen 2
          have q3 := hz.cell 3; have r3 := hz.frozen 3
          have q4 := hz.cell 4; have r4 := hz.frozen 4
          have q5 := hz.cell 5; have r5 := hz.frozen 5
          have q6 := hz.cell 6; have r6 := hz.frozen 6
          have q7 := hz.cell 7; have r7 := hz.frozen 7
          have q8 := hz.cell 8; have r8 := hz.frozen 8
          have q9 := hz.cell 9; have r9 := hz.frozen 9
          simp only [List.getElem?_toArray, List.getElem?_cons_zero, List.getElem?_cons_succ] at q0 q1 q2 q3 q4 q5 q6 q7 q8 q9
          go_simp
          have hp := put10 hz (.slice sA0 sk0 sc0) (.slice sA1 sk1 sc1) (.slice sA2 sk2 sc2) (.slice sA3 sk3 sc3) (.slice sA4 sk4 sc4) (.int .i64 M.speed) (.int .i64 M.mute) (.int .i64 M.wait) (.int .i64 M.cancel) (.int .i64 M.stay)
          clear hz q0 r0 q1 r1 q2 r2 q3 r3 q4 r4 q5 r5 q6 r6 q7 r7 q8 r8 q9 r9
          have ne0 : g0 ≠ n8 := Row.ne k0.out k8.out (by decide)
          have HX : Hid (Row ((((((((((U27.setCell ⟨n8, 0, none⟩ (.slice sA0 sk0 sc0)).setCell ⟨n8, 1, none⟩ (.slice sA1 sk1 sc1)).setCell ⟨n8, 2, none⟩ (.slice sA2 sk2 sc2)).setCell ⟨n8, 3, none⟩ (.slice sA3 sk3 sc3)).setCell ⟨n8, 4, none⟩ (.slice sA4 sk4 sc4)).setCell ⟨n8, 5, none⟩ (.int .i64 M.speed)).setCell ⟨n8, 6, none⟩ (.int .i64 M.mute)).setCell ⟨n8, 7, none⟩ (.int .i64 M.wait)).setCell ⟨n8, 8, none⟩ (.int .i64 M.cancel)).setCell ⟨n8, 9, none⟩ (.int .i64 M.stay)) n7 33 #[.slice pA0 pk0 pc0, .slice pA1 pk1 pc1, .slice pA2 pk2 pc2, .slice pA3 pk3 pc3, .slice pA4 pk4 pc4, .int .i64 L.speed, .int .i64 L.mute, .int .i64 L.wait, .int .i64 L.cancel, .int .i64 L.stay] ∧ Row ((((((((((U27.setCell ⟨n8, 0, none⟩ (.slice sA0 sk0 sc0)).setCell ⟨n8, 1, none⟩ (.slice sA1 sk1 sc1)).setCell ⟨n8, 2, none⟩ (.slice sA2 sk2 sc2)).setCell ⟨n8, 3, none⟩ (.slice sA3 sk3 sc3)).setCell ⟨n8, 4, none⟩ (.slice sA4 sk4 sc4)).setCell ⟨n8, 5, none⟩ (.int .i64 M.speed)).setCell ⟨n8, 6, none⟩ (.int .i64 M.mute)).setCell ⟨n8, 7, none⟩ (.int .i64 M.wait)).setCell ⟨n8, 8, none⟩ (.int .i64 M.cancel)).setCell ⟨n8, 9, none⟩ (.int .i64 M.stay)) n8 33 #[.slice sA0 sk0 sc0, .slice sA1 sk1 sc1, .slice sA2 sk2 sc2, .slice sA3 sk3 sc3, .slice sA4 sk4 sc4, .int .i64 M.speed, .int .i64 M.mute, .int .i64 M.wait, .int .i64 M.cancel, .int .i64 M.stay] ∧ Five ((((((((((U27.setCell ⟨n8, 0, none⟩ (.slice sA0 sk0 sc0)).setCell ⟨n8, 1, none⟩ (.slice sA1 sk1 sc1)).setCell ⟨n8, 2, none⟩ (.slice sA2 sk2 sc2)).setCell ⟨n8, 3, none⟩ (.slice sA3 sk3 sc3)).setCell ⟨n8, 4, none⟩ (.slice sA4 sk4 sc4)).setCell ⟨n8, 5, none⟩ (.int .i64 M.speed)).setCell ⟨n8, 6, none⟩ (.int .i64 M.mute)).setCell ⟨n8, 7, none⟩ (.int .i64 M.wait)).setCell ⟨n8, 8, none⟩ (.int .i64 M.cancel)).setCell ⟨n8, 9, none⟩ (.int .i64 M.stay)) (.slice pA0 pk0 pc0) (.slice pA1 pk1 pc1) (.slice pA2 pk2 pc2) (.slice pA3 pk3 pc3) (.slice pA4 pk4 pc4) L ∧ Five ((((((((((U27.setCell ⟨n8, 0, none⟩ (.slice sA0 sk0 sc0)).setCell ⟨n8, 1, none⟩ (.slice sA1 sk1 sc1)).setCell ⟨n8, 2, none⟩ (.slice sA2 sk2 sc2)).setCell ⟨n8, 3, none⟩ (.slice sA3 sk3 sc3)).setCell ⟨n8, 4, none⟩ (.slice sA4 sk4 sc4)).setCell ⟨n8, 5, none⟩ (.int .i64 M.speed)).setCell ⟨n8, 6, none⟩ (.int .i64 M.mute)).setCell ⟨n8, 7, none⟩ (.int .i64 M.wait)).setCell ⟨n8, 8, none⟩ (.int .i64 M.cancel)).setCell ⟨n8, 9, none⟩ (.int .i64 M.stay)) (.slice sA0 sk0 sc0) (.slice sA1 sk1 sc1) (.slice sA2 sk2 sc2) (.slice sA3 sk3 sc3) (.slice sA4 sk4 sc4) M ∧ Row ((((((((((U27.setCell ⟨n8, 0, none⟩ (.slice sA0 sk0 sc0)).setCell ⟨n8, 1, none⟩ (.slice sA1 sk1 sc1)).setCell ⟨n8, 2, none⟩ (.slice sA2 sk2 sc2)).setCell ⟨n8, 3, none⟩ (.slice sA3 sk3 sc3)).setCell ⟨n8, 4, none⟩ (.slice sA4 sk4 sc4)).setCell ⟨n8, 5, none⟩ (.int .i64 M.speed)).setCell ⟨n8, 6, none⟩ (.int .i64 M.mute)).setCell ⟨n8, 7, none⟩ (.int .i64 M.wait)).setCell ⟨n8, 8, none⟩ (.int .i64 M.cancel)).setCell ⟨n8, 9, none⟩ (.int .i64 M.stay)) g0 25 #[.int .u8 (d0.form : Int), .int .u8 (d0.len : Int), .int .u8 (d0.speed : Int), .int .u16 (d0.mute : Int), .int .u16 (d0.wait : Int), .int .u8 (d0.cancel : Int), .int .u8 (d0.stay : Int), .int .u8 (d0.join : Int), .slice rA0 rk0 rc0] ∧ Below w.heap.size w ((((((((((U27.setCell ⟨n8, 0, none⟩ (.slice sA0 sk0 sc0)).setCell ⟨n8, 1, none⟩ (.slice sA1 sk1 sc1)).setCell ⟨n8, 2, none⟩ (.slice sA2 sk2 sc2)).setCell ⟨n8, 3, none⟩ (.slice sA3 sk3 sc3)).setCell ⟨n8, 4, none⟩ (.slice sA4 sk4 sc4)).setCell ⟨n8, 5, none⟩ (.int .i64 M.speed)).setCell ⟨n8, 6, none⟩ (.int .i64 M.mute)).setCell ⟨n8, 7, none⟩ (.int .i64 M.wait)).setCell ⟨n8, 8, none⟩ (.int .i64 M.cancel)).setCell ⟨n8, 9, none⟩ (.int .i64 M.stay))) :=
            ⟨hp.2.2.row k7.out (by simpa using HNE.out), hp.1, kv1.out.kept hp.2.2 (other_one k8.out), kv2.out.kept hp.2.2 (other_one k8.out), hp.2.2.row k0.out (by simpa using ne0), kb.out.trans (hp.2.1.mono HG8.out)⟩
          clear hp ne0 k0 k1 k7 k8 kv1 kv2 kb
          generalize ((((((((((U27.setCell ⟨n8, 0, none⟩ (.slice sA0 sk0 sc0)).setCell ⟨n8, 1, none⟩ (.slice sA1 sk1 sc1)).setCell ⟨n8, 2, none⟩ (.slice sA2 sk2 sc2)).setCell ⟨n8, 3, none⟩ (.slice sA3 sk3 sc3)).setCell ⟨n8, 4, none⟩ (.slice sA4 sk4 sc4)).setCell ⟨n8, 5, none⟩ (.int .i64 M.speed)).setCell ⟨n8, 6, none⟩ (.int .i64 M.mute)).setCell ⟨n8, 7, none⟩ (.int .i64 M.wait)).setCell ⟨n8, 8, none⟩ (.int .i64 M.cancel)).setCell ⟨n8, 9, none⟩ (.int .i64 M.stay)) = U28 at *
          refine AnyBut.done (by kernel_rfl) ?_
          go_wp2_with fail
          go_meet
          case rel => exact ⟨n7, n8, pA0, pk0, pc0, pA1, pk1, pc1, pA2, pk2, pc2, pA3, pk3, pc3, pA4, pk4, pc4, sA0, sk0, sc0, sA1, sk1, sc1, sA2, sk2, sc2, sA3, sk3, sc3, sA4, sk4, sc4, rfl, rfl, HX⟩
    · go_simp
      have hb := (Below.refl U0.heap.size U0).alloc (Nat.le_refl _) (.cells #[.slice none 0 0, .slice none 0 0, .slice none 0 0, .slice none 0 0, .slice none 0 0, .int .i64 0, .int .i64 0, .int .i64 0, .int .i64 0, .int .i64 0] 33)
      have HBU29 := Lib.hid (HBU0.out.trans (hb.mono HBU0.out.size))
      have HR0U29 := Lib.hid (Below.row hb HR0U0.out HR0U0.out.lt)
      have HR1U29 := Lib.hid (Below.row hb HR1U0.out HR1U0.out.lt)
      have HN7U29 := Lib.hid (Row.new U0 33 #[.slice none 0 0, .slice none 0 0, .slice none 0 0, .slice none 0 0, .slice none 0 0, .int .i64 0, .int .i64 0, .int .i64 0, .int .i64 0, .int .i64 0])
      have HG7 : Hid (w.heap.size ≤ U0.heap.size) := HBU0.out.size
      clear hb
      clear HBU0 HR0U0 HR1U0
      obtain ⟨n7, hn7⟩ : ∃ x, x = U0.heap.size := ⟨_, rfl⟩
      rw [← hn7] at HN7U29 HG7 ⊢
      clear hn7
      generalize U0.alloc (.cells #[.slice none 0 0, .slice none 0 0, .slice none 0 0, .slice none 0 0, .slice none 0 0, .int .i64 0, .int .i64 0, .int .i64 0, .int .i64 0, .int .i64 0] 33) = U29 at *
      first | refine ⟨⟨HR0U29.out, HR1U29.out⟩, ?_⟩ | refine ⟨fun _ => ⟨HR0U29.out, HR1U29.out⟩, ?_⟩
      refine any_two 1 5 rfl rfl (by kernel_rfl) (by rfl) (by rfl) ?_ ?_
      · go_simp
        refine (roughO_any U29 d0 _ HDK0.out (HD0.out U29 HBU29.out) HS0.out).mono ?_
        rintro e U30 ⟨vN, vS, vP, vQ, vR, rfl, hF, -, hb⟩
        rw [HMM.out] at hF ⊢
        obtain ⟨⟨pA0, pk0, pc0, rfl⟩, ⟨pA1, pk1, pc1, rfl⟩, ⟨pA2, pk2, pc2, rfl⟩, ⟨pA3, pk3, pc3, rfl⟩, ⟨pA4, pk4, pc4, rfl⟩⟩ := five_slices hF
        have HBU30 := Lib.hid (HBU29.out.trans (hb.mono HBU29.out.size))
        have HR0U30 := Lib.hid (Below.row hb HR0U29.out HR0U29.out.lt)
        have HR1U30 := Lib.hid (Below.row hb HR1U29.out HR1U29.out.lt)
        have HN7U30 := Lib.hid (Below.row hb HN7U29.out HN7U29.out.lt)
        have HV1U30 := Lib.hid hF
        clear hb hF
        clear HBU29 HR0U29 HR1U29 HN7U29
        first | refine ⟨⟨HR0U30.out, HR1U30.out⟩, ?_⟩ | refine ⟨fun _ => ⟨HR0U30.out, HR1U30.out⟩, ?_⟩
        refine any_two 3 5 rfl rfl (by kernel_rfl) (by rfl) (by rfl) ?_ ?_
        · go_simp
          refine (roughO_any U30 d1 _ HDK1.out (HD1.out U30 HBU30.out) HS1.out).mono ?_
          rintro e U31 ⟨vN, vS, vP, vQ, vR, rfl, hF, -, hb⟩
          rw [HNN.out] at hF ⊢
          obtain ⟨⟨sA0, sk0, sc0, rfl⟩, ⟨sA1, sk1, sc1, rfl⟩, ⟨sA2, sk2, sc2, rfl⟩, ⟨sA3, sk3, sc3, rfl⟩, ⟨sA4, sk4, sc4, rfl⟩⟩ := five_slices hF
          have HBU31 := Lib.hid (HBU30.out.trans (hb.mono HBU30.out.size))
          have HR0U31 := Lib.hid (Below.row hb HR0U30.out HR0U30.out.lt)
          have HR1U31 := Lib.hid (Below.row hb HR1U30.out HR1U30.out.lt)
          have HV1U31 := Lib.hid (five_up HV1U30.out hb)
          have HN7U31 := Lib.hid (Below.row hb HN7U30.out HN7U30.out.lt)
          have HV2U31 := Lib.hid hF
          clear hb hF
          clear HBU30 HR0U30 HR1U30 HV1U30 HN7U30
          first | refine ⟨⟨HR0U31.out, HR1U31.out⟩, ?_⟩ | refine ⟨fun _ => ⟨HR0U31.out, HR1U31.out⟩, ?_⟩
          refine AnyBut.one 5 rfl (by kernel_rfl) (by rfl) ?_
          go_simp
          have hb := (Below.refl U31.heap.size U31).alloc (Nat.le_refl _) (.cells #[.slice none 0 0, .slice none 0 0, .slice none 0 0, .slice none 0 0, .slice none 0 0, .int .i64 0, .int .i64 0, .int .i64 0, .int .i64 0, .int .i64 0] 33)
          have HBU32 := Lib.hid (HBU31.out.trans (hb.mono HBU31.out.size))
          have HR0U32 := Lib.hid (Below.row hb HR0U31.out HR0U31.out.lt)
          have HR1U32 := Lib.hid (Below.row hb HR1U31.out HR1U31.out.lt)
          have HV1U32 := Lib.hid (five_up HV1U31.out hb)
          have HV2U32 := Lib.hid (five_up HV2U31.out hb)
          have HN7U32 := Lib.hid (Below.row hb HN7U31.out HN7U31.out.lt)
          have HN8U32 := Lib.hid (Row.new U31 33 #[.slice none 0 0, .slice none 0 0, .slice none 0 0, .slice none 0 0, .slice none 0 0, .int .i64 0, .int .i64 0, .int .i64 0, .int .i64 0, .int .i64 0])
          have HG8 : Hid (w.heap.size ≤ U31.heap.size) := HBU31.out.size
          have HNE : Hid (n7 ≠ U31.heap.size) := by show _ ≠ _; have := HN7U31.out.lt; omega
          clear hb
          clear HBU31 HR0U31 HR1U31 HV1U31 HV2U31 HN7U31
          obtain ⟨n8, hn8⟩ : ∃ x, x = U31.heap.size := ⟨_, rfl⟩
          rw [← hn8] at HN8U32 HG8 HNE ⊢
          clear hn8
          generalize U31.alloc (.cells #[.slice none 0 0, .slice none 0 0, .slice none 0 0, .slice none 0 0, .slice none 0 0, .int .i64 0, .int .i64 0, .int .i64 0, .int .i64 0, .int .i64 0] 33) = U32 at *
          first | refine ⟨⟨HR0U32.out, HR1U32.out⟩, ?_⟩ | refine ⟨fun _ => ⟨HR0U32.out, HR1U32.out⟩, ?_⟩
          refine AnyBut.one 6 rfl (by kernel_rfl) (by rfl) ?_
          have hz := HN7U32.out
          have q0 := hz.cell 0; have r0 := hz.frozen 0
          have q1 := hz.cell 1; have r1 := hz.frozen 1
          have q2 := hz.cell 2; have r2 := hz.frozen 2
          have q3 := hz.cell 3; have r3 := hz.frozen 3
          have q4 := hz.cell 4; have r4 := hz.frozen 4
          have q5 := hz.cell 5; have r5 := hz.frozen 5
          have q6 := hz.cell 6; have r6 := hz.frozen 6
          have q7 := hz.cell 7; have r7 := hz.frozen 7
          have q8 := hz.cell 8; have r8 := hz.frozen 8
          have q9 := hz.cell 9; have r9 := hz.frozen 9
          simp only [List.getElem?_toArray, List.getElem?_cons_zero, List.getElem?_cons_succ] at q0 q1 q2 q3 q4 q5 q6 q7 q8 q9
          go_simp
          have hp := put10 hz (.slice pA0 pk0 pc0) (.slice pA1 pk1 pc1) (.slice pA2 pk2 pc2) (.slice pA3 pk3 pc3) (.slice pA4 pk4 pc4) (.int .i64 L.speed) (.int .i64 L.mute) (.int .i64 L.wait) (.int .i64 L.cancel) (.int .i64 L.stay)
          clear hz q0 r0 q1 r1 q2 r2 q3 r3 q4 r4 q5 r5 q6 r6 q7 r7 q8 r8 q9 r9
          have ne0 : g0 ≠ n7 := Row.ne HR0U32.out HN7U32.out (by decide)
          have ne1 : g1 ≠ n7 := Row.ne HR1U32.out HN7U32.out (by decide)
          have k0 := Lib.hid (hp.2.2.row HR0U32.out (by simpa using ne0)); have k1 := Lib.hid (hp.2.2.row HR1U32.out (by simpa using ne1))
          have k7 := Lib.hid hp.1; have k8 := Lib.hid (hp.2.2.row HN8U32.out (by simpa using HNE.out.symm))
          have kv1 := Lib.hid (HV1U32.out.kept hp.2.2 (other_one HN7U32.out)); have kv2 := Lib.hid (HV2U32.out.kept hp.2.2 (other_one HN7U32.out))
          have kb : Hid (Below w.heap.size w ((((((((((U32.setCell ⟨n7, 0, none⟩ (.slice pA0 pk0 pc0)).setCell ⟨n7, 1, none⟩ (.slice pA1 pk1 pc1)).setCell ⟨n7, 2, none⟩ (.slice pA2 pk2 pc2)).setCell ⟨n7, 3, none⟩ (.slice pA3 pk3 pc3)).setCell ⟨n7, 4, none⟩ (.slice pA4 pk4 pc4)).setCell ⟨n7, 5, none⟩ (.int .i64 L.speed)).setCell ⟨n7, 6, none⟩ (.int .i64 L.mute)).setCell ⟨n7, 7, none⟩ (.int .i64 L.wait)).setCell ⟨n7, 8, none⟩ (.int .i64 L.cancel)).setCell ⟨n7, 9, none⟩ (.int .i64 L.stay))) := HBU32.out.trans (hp.2.1.mono HG7.out)
          clear hp ne0 ne1
          clear HBU32 HR0U32 HR1U32 HV1U32 HV2U32 HN7U32 HN8U32
          generalize ((((((((((U32.setCell ⟨n7, 0, none⟩ (.slice pA0 pk0 pc0)).setCell ⟨n7, 1, none⟩ (.slice pA1 pk1 pc1)).setCell ⟨n7, 2, none⟩ (.slice pA2 pk2 pc2)).setCell ⟨n7, 3, none⟩ (.slice pA3 pk3 pc3)).setCell ⟨n7, 4, none⟩ (.slice pA4 pk4 pc4)).setCell ⟨n7, 5, none⟩ (.int .i64 L.speed)).setCell ⟨n7, 6, none⟩ (.int .i64 L.mute)).setCell ⟨n7, 7, none⟩ (.int .i64 L.wait)).setCell ⟨n7, 8, none⟩ (.int .i64 L.cancel)).setCell ⟨n7, 9, none⟩ (.int .i64 L.stay)) = U33 at *
          first | refine ⟨⟨k0.out, k1.out⟩, ?_⟩ | refine ⟨fun _ => ⟨k0.out, k1.out⟩, ?_⟩
          refine AnyBut.one 7 rfl (by kernel_rfl) (by rfl) ?_
          have hz := k8.out
          have q0 := hz.cell 0; have r0 := hz.frozen 0
          have q1 := hz.cell 1; have r1 := hz.frozen 1
          have q2 := hz.cell 2; have r2 := hz.frozen 2
          have q3 := hz.cell 3; have r3 := hz.frozen 3
          have q4 := hz.cell 4; have r4 := hz.frozen 4
          have q5 := hz.cell 5; have r5 := hz.frozen 5
          have q6 := hz.cell 6; have r6 := hz.frozen 6
          have q7 := hz.cell 7; have r7 := hz.frozen 7
          have q8 := hz.cell 8; have r8 := hz.frozen 8
          have q9 := hz.cell 9; have r9 := hz.frozen 9
          simp only [List.getElem?_toArray, List.getElem?_cons_zero, List.getElem?_cons_succ] at q0 q1 q2 q3 q4 q5 q6 q7 q8 q9
          go_simp
          have hp := put10 hz (.slice sA0 sk0 sc0) (.slice sA1 sk1 sc1) (.slice sA2 sk2 sc2) (.slice sA3 sk3 sc3) (.slice sA4 sk4 sc4) (.int .i64 M.speed) (.int .i64 M.mute) (.int .i64 M.wait) (.int .i64 M.cancel) (.int .i64 M.stay)
          clear hz q0 r0 q1 r1 q2 r2 q3 r3 q4 r4 q5 r5 q6 r6 q7 r7 q8 r8 q9 r9
          have ne0 : g0 ≠ n8 := Row.ne k0.out k8.out (by decide)
          have HX : Hid (Row ((((((((((U33.setCell ⟨n8, 0, none⟩ (.slice sA0 sk0 sc0)).setCell ⟨n8, 1, none⟩ (.slice sA1 sk1 sc1)).setCell ⟨n8, 2, none⟩ (.slice sA2 sk2 sc2)).setCell ⟨n8, 3, none⟩ (.slice sA3 sk3 sc3)).setCell ⟨n8, 4, none⟩ (.slice sA4 sk4 sc4)).setCell ⟨n8, 5, none⟩ (.int .i64 M.speed)).setCell ⟨n8, 6, none⟩ (.int .i64 M.mute)).setCell ⟨n8, 7, none⟩ (.int .i64 M.wait)).setCell ⟨n8, 8, none⟩ (.int .i64 M.cancel)).setCell ⟨n8, 9, none⟩ (.int .i64 M.stay)) n7 33 #[.slice pA0 pk0 pc0, .slice pA1 pk1 pc1, .slice pA2 pk2 pc2, .slice pA3 pk3 pc3, .slice pA4 pk4 pc4, .int .i64 L.speed, .int .i64 L.mute, .int .i64 L.wait, .int .i64 L.cancel, .int .i64 L.stay] ∧ Row ((((((((((U33.setCell ⟨n8, 0, none⟩ (.slice sA0 sk0 sc0)).setCell ⟨n8, 1, none⟩ (.slice sA1 sk1 sc1)).setCell ⟨n8, 2, none⟩ (.slice sA2 sk2 sc2)).setCell ⟨n8, 3, none⟩ (.slice sA3 sk3 sc3)).setCell ⟨n8, 4, none⟩ (.slice sA4 sk4 sc4)).setCell ⟨n8, 5, none⟩ (.int .i64 M.speed)).setCell ⟨n8, 6, none⟩ (.int .i64 M.mute)).setCell ⟨n8, 7, none⟩ (.int .i64 M.wait)).setCell ⟨n8, 8, none⟩ (.int .i64 M.cancel)).setCell ⟨n8, 9, none⟩ (.int .i64 M.stay)) n8 33 #[.slice sA0 sk0 sc0, .slice sA1 sk1 sc1, .slice sA2 sk2 sc2, .slice sA3 sk3 sc3, .slice sA4 sk4 sc4, .int .i64 M.speed, .int .i64 M.mute, .int .i64 M.wait, .int .i64 M.cancel, .int .i64 M.stay] ∧ Five ((((((((((U33.setCell ⟨n8, 0, none⟩ (.slice sA0 sk0 sc0)).setCell ⟨n8, 1, none⟩ (.slice sA1 sk1 sc1)).setCell ⟨n8, 2, none⟩ (.slice sA2 sk2 sc2)).setCell ⟨n8, 3, none⟩ (.slice sA3 sk3 sc3)).setCell ⟨n8, 4, none⟩ (.slice sA4 sk4 sc4)).setCell ⟨n8, 5, none⟩ (.int .i64 M.speed)).setCell ⟨n8, 6, none⟩ (.int .i64 M.mute)).setCell ⟨n8, 7, none⟩ (.int .i64 M.wait)).setCell ⟨n8, 8, none⟩ (.int .i64 M.cancel)).setCell ⟨n8, 9, none⟩ (.int .i64 M.stay)) (.slice pA0 pk0 pc0) (.slice pA1 pk1 pc1) (.slice pA2 pk2 pc2) (.slice pA3 pk3 pc3) (.slice pA4 pk4 pc4) L ∧ Five ((((((((((U33.setCell ⟨n8, 0, none⟩ (.slice sA0 sk0 sc0)).setCell ⟨n8, 1, none⟩ (.slice sA1 sk1 sc1)).setCell ⟨n8, 2, none⟩ (.slice sA2 sk2 sc2)).setCell ⟨n8, 3, none⟩ (.slice sA3 sk3 sc3)).setCell ⟨n8, 4, none⟩ (.slice sA4 sk4 sc4)).setCell ⟨n8, 5, none⟩ (.int .i64 M.speed)).setCell ⟨n8, 6, none⟩ (.int .i64 M.mute)).setCell ⟨n8, 7, none⟩ (.int .i64 M.wait)).setCell ⟨n8, 8, none⟩ (.int .i64 M.cancel)).setCell ⟨n8, 9, none⟩ (.int .i64 M.stay)) (.slice sA0 sk0 sc0) (.slice sA1 sk1 sc1) (.slice sA2 sk2 sc2) (.slice sA3 sk3 sc3) (.slice sA4 sk4 sc4) M ∧ Row ((((((((((U33.setCell ⟨n8, 0, none⟩ (.slice sA0 sk0 sc0)).setCell ⟨n8, 1, none⟩ (.slice sA1 sk1 sc1)).setCell ⟨n8, 2, none⟩ (.slice sA2 sk2 sc2)).setCell ⟨n8, 3, none⟩ (.slice sA3 sk3 sc3)).setCell ⟨n8, 4, none⟩ (.slice sA4 sk4 sc4)).setCell ⟨n8, 5, none⟩ (.int .i64 M.speed)).setCell ⟨n8, 6, none⟩ (.int .i64 M.mute)).setCell ⟨n8, 7, none⟩ (.int .i64 M.wait)).setCell ⟨n8, 8, none⟩ (.int .i64 M.cancel)).setCell ⟨n8, 9, none⟩ (.int .i64 M.stay)) g0 25 #[.int .u8 (d0.form : Int), .int .u8 (d0.len : Int), .int .u8 (d0.speed : Int), .int .u16 (d0.mute : Int), .int .u16 (d0.wait : Int), .int .u8 (d0.cancel : Int), .int .u8 (d0.stay : Int), .int .u8 (d0.join : Int), .slice rA0 rk0 rc0] ∧ Below w.heap.size w ((((((((((U33.setCell ⟨n8, 0, none⟩ (.slice sA0 sk0 sc0)).setCell ⟨n8, 1, none⟩ (.slice sA1 sk1 sc1)).setCell ⟨n8, 2, none⟩ (.slice sA2 sk2 sc2)).setCell ⟨n8, 3, none⟩ (.slice sA3 sk3 sc3)).setCell ⟨n8, 4, none⟩ (.slice sA4 sk4 sc4)).setCell ⟨n8, 5, none⟩ (.int .i64 M.speed)).setCell ⟨n8, 6, none⟩ (.int .i64 M.mute)).setCell ⟨n8, 7, none⟩ (.int .i64 M.wait)).setCell ⟨n8, 8, none⟩ (.int .i64 M.cancel)).setCell ⟨n8, 9, none⟩ (.int .i64 M.stay))) :=
            ⟨hp.2.2.row k7.out (by simpa using HNE.out), hp.1, kv1.out.kept hp.2.2 (other_one k8.out), kv2.out.kept hp.2.2 (other_one k8.out), hp.2.2.row k0.out (by simpa using ne0), kb.out.trans (hp.2.1.mono HG8.out)⟩
          clear hp ne0 k0 k1 k7 k8 kv1 kv2 kb
          generalize ((((((((((U33.setCell ⟨n8, 0, none⟩ (.slice sA0 sk0 sc0)).setCell ⟨n8, 1, none⟩ (.slice sA1 sk1 sc1)).setCell ⟨n8, 2, none⟩ (.slice sA2 sk2 sc2)).setCell ⟨n8, 3, none⟩ (.slice sA3 sk3 sc3)).setCell ⟨n8, 4, none⟩ (.slice sA4 sk4 sc4)).setCell ⟨n8, 5, none⟩ (.int .i64 M.speed)).setCell ⟨n8, 6, none⟩ (.int .i64 M.mute)).setCell ⟨n8, 7, none⟩ (.int .i64 M.wait)).setCell ⟨n8, 8, none⟩ (.int .i64 M.cancel)).setCell ⟨n8, 9, none⟩ (.int .i64 M.stay)) = U34 at *
          refine AnyBut.done (by kernel_rfl) ?_
          go_wp2_with fail
          go_meet
          case rel => exact ⟨n7, n8, pA0, pk0, pc0, pA1, pk1, pc1, pA2, pk2, pc2, pA3, pk3, pc3, pA4, pk4, pc4, sA0, sk0, sc0, sA1, sk1, sc1, sA2, sk2, sc2, sA3, sk3, sc3, sA4, sk4, sc4, rfl, rfl, HX⟩
        · go_simp
          have hb := (Below.refl U30.heap.size U30).alloc (Nat.le_refl _) (.cells #[.slice none 0 0, .slice none 0 0, .slice none 0 0, .slice none 0 0, .slice none 0 0, .int .i64 0, .int .i64 0, .int .i64 0, .int .i64 0, .int .i64 0] 33)
          have HBU35 := Lib.hid (HBU30.out.trans (hb.mono HBU30.out.size))
          have HR0U35 := Lib.hid (Below.row hb HR0U30.out HR0U30.out.lt)
          have HR1U35 := Lib.hid (Below.row hb HR1U30.out HR1U30.out.lt)
          have HV1U35 := Lib.hid (five_up HV1U30.out hb)
          have HN7U35 := Lib.hid (Below.row hb HN7U30.out HN7U30.out.lt)
          have HN8U35 := Lib.hid (Row.new U30 33 #[.slice none 0 0, .slice none 0 0, .slice none 0 0, .slice none 0 0, .slice none 0 0, .int .i64 0, .int .i64 0, .int .i64 0, .int .i64 0, .int .i64 0])
          have HG8 : Hid (w.heap.size ≤ U30.heap.size) := HBU30.out.size
          have HNE : Hid (n7 ≠ U30.heap.size) := by show _ ≠ _; have := HN7U30.out.lt; omega
          clear hb
          clear HBU30 HR0U30 HR1U30 HV1U30 HN7U30
          obtain ⟨n8, hn8⟩ : ∃ x, x = U30.heap.size := ⟨_, rfl⟩
          rw [← hn8] at HN8U35 HG8 HNE ⊢
          clear hn8
          generalize U30.alloc (.cells #[.slice none 0 0, .slice none 0 0, .slice none 0 0, .slice none 0 0, .slice none 0 0, .int .i64 0, .int .i64 0, .int .i64 0, .int .i64 0, .int .i64 0] 33) = U35 at *
          first | refine ⟨⟨HR0U35.out, HR1U35.out⟩, ?_⟩ | refine ⟨fun _ => ⟨HR0U35.out, HR1U35.out⟩, ?_⟩
          refine AnyBut.one 3 rfl (by kernel_rfl) (by rfl) ?_
          go_simp
          refine (roughO_any U35 d1 _ HDK1.out (HD1.out U35 HBU35.out) HS1.out).mono ?_
          rintro e U36 ⟨vN, vS, vP, vQ, vR, rfl, hF, -, hb⟩
          rw [HNN.out] at hF ⊢
          obtain ⟨⟨sA0, sk0, sc0, rfl⟩, ⟨sA1, sk1, sc1, rfl⟩, ⟨sA2, sk2, sc2, rfl⟩, ⟨sA3, sk3, sc3, rfl⟩, ⟨sA4, sk4, sc4, rfl⟩⟩ := five_slices hF
          have HBU36 := Lib.hid (HBU35.out.trans (hb.mono HBU35.out.size))
          have HR0U36 := Lib.hid (Below.row hb HR0U35.out HR0U35.out.lt)
          have HR1U36 := Lib.hid (Below.row hb HR1U35.out HR1U35.out.lt)
          have HV1U36 := Lib.hid (five_up HV1U35.out hb)
          have HN7U36 := Lib.hid (Below.row hb HN7U35.out HN7U35.out.lt)
          have HN8U36 := Lib.hid (Below.row hb HN8U35.out HN8U35.out.lt)
          have HV2U36 := Lib.hid hF
          clear hb hF
          clear HBU35 HR0U35 HR1U35 HV1U35 HN7U35 HN8U35
          first | refine ⟨⟨HR0U36.out, HR1U36.out⟩, ?_⟩ | refine ⟨fun _ => ⟨HR0U36.out, HR1U36.out⟩, ?_⟩
          refine AnyBut.one 6 rfl (by kernel_rfl) (by rfl) ?_
          have hz := HN7U36.out
          have q0 := hz.cell 0; have r0 := hz.frozen 0
          have q1 := hz.cell 1; have r1 := hz.frozen 1
          have q2 := hz.cell 2; have r2 := hz.frozen 2
          have q3 := hz.cell 3; have r3 := hz.frozen 3
          have q4 := hz.cell 4; have r4 := hz.frozen 4
          have q5 := hz.cell 5; have r5 := hz.frozen 5
          have q6 := hz.cell 6; have r6 := hz.frozen 6
          have q7 := hz.cell 7; have r7 := hz.frozen 7
          have q8 := hz.cell 8; have r8 := hz.frozen 8
          have q9 := hz.cell 9; have r9 := hz.frozen 9
          simp only [List.getElem?_toArray, List.getElem?_cons_zero, List.getElem?_cons_succ] at q0 q1 q2 q3 q4 q5 q6 q7 q8 q9
          go_simp
          have hp := put10 hz (.slice pA0 pk0 pc0) (.slice pA1 pk1 pc1) (.slice pA2 pk2 pc2) (.slice pA3 pk3 pc3) (.slice pA4 pk4 pc4) (.int .i64 L.speed) (.int .i64 L.mute) (.int .i64 L.wait) (.int .i64 L.cancel) (.int .i64 L.stay)
          clear hz q0 r0 q1 r1 q2 r2 q3 r3 q4 r4 q5 r5 q6 r6 q7 r7 q8 r8 q9 r9
          have ne0 : g0 ≠ n7 := Row.ne HR0U36.out HN7U36.out (by decide)
          have ne1 : g1 ≠ n7 := Row.ne HR1U36.out HN7U36.out (by decide)
          have k0 := Lib.hid (hp.2.2.row HR0U36.out (by simpa using ne0)); have k1 := Lib.hid (hp.2.2.row HR1U36.out (by simpa using ne1))
          have k7 := Lib.hid hp.1; have k8 := Lib.hid (hp.2.2.row HN8U36.out (by simpa using HNE.out.symm))
          have kv1 := Lib.hid (HV1U36.out.kept hp.2.2 (other_one HN7U36.out)); have kv2 := Lib.hid (HV2U36.out.kept hp.2.2 (other_one HN7U36.out))
          have kb : Hid (Below w.heap.size w ((((((((((U36.setCell ⟨n7, 0, none⟩ (.slice pA0 pk0 pc0)).setCell ⟨n7, 1, none⟩ (.slice pA1 pk1 pc1)).setCell ⟨n7, 2, none⟩ (.slice pA2 pk2 pc2)).setCell ⟨n7, 3, none⟩ (.slice pA3 pk3 pc3)).setCell ⟨n7, 4, none⟩ (.slice pA4 pk4 pc4)).setCell ⟨n7, 5, none⟩ (.int .i64 L.speed)).setCell ⟨n7, 6, none⟩ (.int .i64 L.mute)).setCell ⟨n7, 7, none⟩ (.int .i64 L.wait)).setCell ⟨n7, 8, none⟩ (.int .i64 L.cancel)).setCell ⟨n7, 9, none⟩ (.int .i64 L.stay))) := HBU36.out.trans (hp.2.1.mono HG7.out)
          clear hp ne0 ne1
          clear HBU36 HR0U36 HR1U36 HV1U36 HV2U36 HN7U36 HN8U36
          generalize ((((((((((U36.setCell ⟨n7, 0, none⟩ (.slice pA0 pk0 pc0)).setCell ⟨n7, 1, none⟩ (.slice pA1 pk1 pc1)).setCell ⟨n7, 2, none⟩ (.slice pA2 pk2 pc2)).setCell ⟨n7, 3, none⟩ (.slice pA3 pk3 pc3)).setCell ⟨n7, 4, none⟩ (.slice pA4 pk4 pc4)).setCell ⟨n7, 5, none⟩ (.int .i64 L.speed)).setCell ⟨n7, 6, none⟩ (.int .i64 L.mute)).setCell ⟨n7, 7, none⟩ (.int .i64 L.wait)).setCell ⟨n7, 8, none⟩ (.int .i64 L.cancel)).setCell ⟨n7, 9, none⟩ (.int .i64 L.stay)) = U37 at *
          first | refine ⟨⟨k0.out, k1.out⟩, ?_⟩ | refine ⟨fun _ => ⟨k0.out, k1.out⟩, ?_⟩
          refine AnyBut.one 7 rfl (by kernel_rfl) (by rfl) ?_
          have hz := k8.out
          have q0 := hz.cell 0; have r0 := hz.frozen 0
          have q1 := hz.cell 1; have r1 := hz.frozen 1
          have q2 := hz.cell 2; have r2 := hz.frozen 2
          have q3 := hz.cell 3; have r3 := hz.frozen 3
          have q4 := hz.cell 4; have r4 := hz.frozen 4
          have q5 := hz.cell 5; have r5 := hz.frozen 5
          have q6 := hz.cell 6; have r6 := hz.frozen 6
          have q7 := hz.cell 7; have r7 := hz.frozen 7
          have q8 := hz.cell 8; have r8 := hz.frozen 8
          have q9 := hz.cell 9; have r9 := hz.frozen 9
          simp only [List.getElem?_toArray, List.getElem?_cons_zero, List.getElem?_cons_succ] at q0 q1 q2 q3 q4 q5 q6 q7 q8 q9
          go_simp
          have hp := put10 hz (.slice sA0 sk0 sc0) (.slice sA1 sk1 sc1) (.slice sA2 sk2 sc2) (.slice sA3 sk3 sc3) (.slice sA4 sk4 sc4) (.int .i64 M.speed) (.int .i64 M.mute) (.int .i64 M.wait) (.int .i64 M.cancel) (.int .i64 M.stay)
          clear hz q0 r0 q1 r1 q2 r2 q3 r3 q4 r4 q5 r5 q6 r6 q7 r7 q8 r8 q9 r9
          have ne0 : g0 ≠ n8 := Row.ne k0.out k8.out (by decide)
          have HX : Hid (Row ((((((((((U37.setCell ⟨n8, 0, none⟩ (.slice sA0 sk0 sc0)).setCell ⟨n8, 1, none⟩ (.slice sA1 sk1 sc1)).setCell ⟨n8, 2, none⟩ (.slice sA2 sk2 sc2)).setCell ⟨n8, 3, none⟩ (.slice sA3 sk3 sc3)).setCell ⟨n8, 4, none⟩ (.slice sA4 sk4 sc4)).setCell ⟨n8, 5, none⟩ (.int .i64 M.speed)).setCell ⟨n8, 6, none⟩ (.int .i64 M.mute)).setCell ⟨n8, 7, none⟩ (.int .i64 M.wait)).setCell ⟨n8, 8, none⟩ (.int .i64 M.cancel)).setCell ⟨n8, 9, none⟩ (.int .i64 M.stay)) n7 33 #[.slice pA0 pk0 pc0, .slice pA1 pk1 pc1, .slice pA2 pk2 pc2, .slice pA3 pk3 pc3, .slice pA4 pk4 pc4, .int .i64 L.speed, .int .i64 L.mute, .int .i64 L.wait, .int .i64 L.cancel, .int .i64 L.stay] ∧ Row ((((((((((U37.setCell ⟨n8, 0, none⟩ (.slice sA0 sk0 sc0)).setCell ⟨n8, 1, none⟩ (.slice sA1 sk1 sc1)).setCell ⟨n8, 2, none⟩ (.slice sA2 sk2 sc2)).setCell ⟨n8, 3, none⟩ (.slice sA3 sk3 sc3)).setCell ⟨n8, 4, none⟩ (.slice sA4 sk4 sc4)).setCell ⟨n8, 5, none⟩ (.int .i64 M.speed)).setCell ⟨n8, 6, none⟩ (.int .i64 M.mute)).setCell ⟨n8, 7, none⟩ (.int .i64 M.wait)).setCell ⟨n8, 8, none⟩ (.int .i64 M.cancel)).setCell ⟨n8, 9, none⟩ (.int .i64 M.stay)) n8 33 #[.slice sA0 sk0 sc0, .slice sA1 sk1 sc1, .slice sA2 sk2 sc2, .slice sA3 sk3 sc3, .slice sA4 sk4 sc4, .int .i64 M.speed, .int .i64 M.mute, .int .i64 M.wait, .int .i64 M.cancel, .int .i64 M.stay] ∧ Five ((((((((((U37.setCell ⟨n8, 0, none⟩ (.slice sA0 sk0 sc0)).setCell ⟨n8, 1, none⟩ (.slice sA1 sk1 sc1)).setCell ⟨n8, 2, none⟩ (.slice sA2 sk2 sc2)).setCell ⟨n8, 3, none⟩ (.slice sA3 sk3 sc3)).setCell ⟨n8, 4, none⟩ (.slice sA4 sk4 sc4)).setCell ⟨n8, 5, none⟩ (.int .i64 M.speed)).setCell ⟨n8, 6, none⟩ (.int .i64 M.mute)).setCell ⟨n8, 7, none⟩ (.int .i64 M.wait)).setCell ⟨n8, 8, none⟩ (.int .i64 M.cancel)).setCell ⟨n8, 9, none⟩ (.int .i64 M.stay)) (.slice pA0 pk0 pc0) (.slice pA1 pk1 pc1) (.slice pA2 pk2 pc2) (.slice pA3 pk3 pc3) (.slice pA4 pk4 pc4) L ∧ Five ((((((((((U37.setCell ⟨n8, 0, none⟩ (.slice sA0 sk0 sc0)).setCell ⟨n8, 1, none⟩ (.slice sA1 sk1 sc1)).setCell ⟨n8, 2, none⟩ (.slice sA2 sk2 sc2)).setCell ⟨n8, 3, none⟩ (.slice sA3 sk3 sc3)).setCell ⟨n8, 4, none⟩ (.slice sA4 sk4 sc4)).setCell ⟨n8, 5, none⟩ (.int .i64 M.speed)).setCell ⟨n8, 6, none⟩ (.int .i64 M.mute)).setCell ⟨n8, 7, none⟩ (.int .i64 M.wait)).setCell ⟨n8, 8, none⟩ (.int .i64 M.cancel)).setCell ⟨n8, 9, none⟩ (.int .i64 M.stay)) (.slice sA0 sk0 sc0) (.slice sA1 sk1 sc1) (.slice sA2 sk2 sc2) (.slice sA3 sk3 sc3) (.slice sA4 sk4 sc4) M ∧ Row ((((((((((U37.setCell ⟨n8, 0, none⟩ (.slice sA0 sk0 sc0)).setCell ⟨n8, 1, none⟩ (.slice sA1 sk1 sc1)).setCell ⟨n8, 2, none⟩ (.slice sA2 sk2 sc2)).setCell ⟨n8, 3, none⟩ (.slice sA3 sk3 sc3)).setCell ⟨n8, 4, none⟩ (.slice sA4 sk4 sc4)).setCell ⟨n8, 5, none⟩ (.int .i64 M.speed)).setCell ⟨n8, 6, none⟩ (.int .i64 M.mute)).setCell ⟨n8, 7, none⟩ (.int .i64 M.wait)).setCell ⟨n8, 8, none⟩ (.int .i64 M.cancel)).setCell ⟨n8, 9, none⟩ (.int .i64 M.stay)) g0 25 #[.int .u8 (d0.form : Int), .int .u8 (d0.len : Int), .int .u8 (d0.speed : Int), .int .u16 (d0.mute : Int), .int .u16 (d0.wait : Int), .int .u8 (d0.cancel : Int), .int .u8 (d0.stay : Int), .int .u8 (d0.join : Int), .slice rA0 rk0 rc0] ∧ Below w.heap.size w ((((((((((U37.setCell ⟨n8, 0, none⟩ (.slice sA0 sk0 sc0)).setCell ⟨n8, 1, none⟩ (.slice sA1 sk1 sc1)).setCell ⟨n8, 2, none⟩ (.slice sA2 sk2 sc2)).setCell ⟨n8, 3, none⟩ (.slice sA3 sk3 sc3)).setCell ⟨n8, 4, none⟩ (.slice sA4 sk4 sc4)).setCell ⟨n8, 5, none⟩ (.int .i64 M.speed)).setCell ⟨n8, 6, none⟩ (.int .i64 M.mute)).setCell ⟨n8, 7, none⟩ (.int .i64 M.wait)).setCell ⟨n8, 8, none⟩ (.int .i64 M.cancel)).setCell ⟨n8, 9, none⟩ (.int .i64 M.stay))) :=
            ⟨hp.2.2.row k7.out (by simpa using HNE.out), hp.1, kv1.out.kept hp.2.2 (other_one k8.out), kv2.out.kept hp.2.2 (other_one k8.out), hp.2.2.row k0.out (by simpa using ne0), kb.out.trans (hp.2.1.mono HG8.out)⟩
          clear hp ne0 k0 k1 k7 k8 kv1 kv2 kb
          generalize ((((((((((U37.setCell ⟨n8, 0, none⟩ (.slice sA0 sk0 sc0)).setCell ⟨n8, 1, none⟩ (.slice sA1 sk1 sc1)).setCell ⟨n8, 2, none⟩ (.slice sA2 sk2 sc2)).setCell ⟨n8, 3, none⟩ (.slice sA3 sk3 sc3)).setCell ⟨n8, 4, none⟩ (.slice sA4 sk4 sc4)).setCell ⟨n8, 5, none⟩ (.int .i64 M.speed)).setCell ⟨n8, 6, none⟩ (.int .i64 M.mute)).setCell ⟨n8, 7, none⟩ (.int .i64 M.wait)).setCell ⟨n8, 8, none⟩ (.int .i64 M.cancel)).setCell ⟨n8, 9, none⟩ (.int .i64 M.stay)) = U38 at *
          refine AnyBut.done (by kernel_rfl) ?_
          go_wp2_with fail
          go_meet
          case rel => exact ⟨n7, n8, pA0, pk0, pc0, pA1, pk1, pc1, pA2, pk2, pc2, pA3, pk3, pc3, pA4, pk4, pc4, sA0, sk0, sc0, sA1, sk1, sc1, sA2, sk2, sc2, sA3, sk3, sc3, sA4, sk4, sc4, rfl, rfl, HX⟩
      · go_simp
        have hb := (Below.refl U29.heap.size U29).alloc (Nat.le_refl _) (.cells #[.slice none 0 0, .slice none 0 0, .slice none 0 0, .slice none 0 0, .slice none 0 0, .int .i64 0, .int .i64 0, .int .i64 0, .int .i64 0, .int .i64 0] 33)
        have HBU39 := Lib.hid (HBU29.out.trans (hb.mono HBU29.out.size))
        have HR0U39 := Lib.hid (Below.row hb HR0U29.out HR0U29.out.lt)
        have HR1U39 := Lib.hid (Below.row hb HR1U29.out HR1U29.out.lt)
        have HN7U39 := Lib.hid (Below.row hb HN7U29.out HN7U29.out.lt)
        have HN8U39 := Lib.hid (Row.new U29 33 #[.slice none 0 0, .slice none 0 0, .slice none 0 0, .slice none 0 0, .slice none 0 0, .int .i64 0, .int .i64 0, .int .i64 0, .int .i64 0, .int .i64 0])
        have HG8 : Hid (w.heap.size ≤ U29.heap.size) := HBU29.out.size
        have HNE : Hid (n7 ≠ U29.heap.size) := by show _ ≠ _; have := HN7U29.out.lt; omega
        clear hb
        clear HBU29 HR0U29 HR1U29 HN7U29
        obtain ⟨n8, hn8⟩ : ∃ x, x = U29.heap.size := ⟨_, rfl⟩
        rw [← hn8] at HN8U39 HG8 HNE ⊢
        clear hn8
        generalize U29.alloc (.cells #[.slice none 0 0, .slice none 0 0, .slice none 0 0, .slice none 0 0, .slice none 0 0, .int .i64 0, .int .i64 0, .int .i64 0, .int .i64 0, .int .i64 0] 33) = U39 at *
        first | refine ⟨⟨HR0U39.out, HR1U39.out⟩, ?_⟩ | refine ⟨fun _ => ⟨HR0U39.out, HR1U39.out⟩, ?_⟩
        refine AnyBut.one 1 rfl (by kernel_rfl) (by rfl) ?_
        go_simp
        refine (roughO_any U39 d0 _ HDK0.out (HD0.out U39 HBU39.out) HS0.out).mono ?_
        rintro e U40 ⟨vN, vS, vP, vQ, vR, rfl, hF, -, hb⟩
        rw [HMM.out] at hF ⊢
        obtain ⟨⟨pA0, pk0, pc0, rfl⟩, ⟨pA1, pk1, pc1, rfl⟩, ⟨pA2, pk2, pc2, rfl⟩, ⟨pA3, pk3, pc3, rfl⟩, ⟨pA4, pk4, pc4, rfl⟩⟩ := five_slices hF
        have HBU40 := Lib.hid (HBU39.out.trans (hb.mono HBU39.out.size))
        have HR0U40 := Lib.hid (Below.row hb HR0U39.out HR0U39.out.lt)
        have HR1U40 := Lib.hid (Below.row hb HR1U39.out HR1U39.out.lt)
        have HN7U40 := Lib.hid (Below.row hb HN7U39.out HN7U39.out.lt)
        have HN8U40 := Lib.hid (Below.row hb HN8U39.out HN8U39.out.lt)
        have HV1U40 := Lib.hid hF
        clear hb hF
        clear HBU39 HR0U39 HR1U39 HN7U39 HN8U39
        first | refine ⟨⟨HR0U40.out, HR1U40.out⟩, ?_⟩ | refine ⟨fun _ => ⟨HR0U40.out, HR1U40.out⟩, ?_⟩
        refine AnyBut.one 3 rfl (by kernel_rfl) (by rfl) ?_
        go_simp
        refine (roughO_any U40 d1 _ HDK1.out (HD1.out U40 HBU40.out) HS1.out).mono ?_
        rintro e U41 ⟨vN, vS, vP, vQ, vR, rfl, hF, -, hb⟩
        rw [HNN.out] at hF ⊢
        obtain ⟨⟨sA0, sk0, sc0, rfl⟩, ⟨sA1, sk1, sc1, rfl⟩, ⟨sA2, sk2, sc2, rfl⟩, ⟨sA3, sk3, sc3, rfl⟩, ⟨sA4, sk4, sc4, rfl⟩⟩ := five_slices hF
        have HBU41 := Lib.hid (HBU40.out.trans (hb.mono HBU40.out.size))
        have HR0U41 := Lib.hid (Below.row hb HR0U40.out HR0U40.out.lt)
        have HR1U41 := Lib.hid (Below.row hb HR1U40.out HR1U40.out.lt)
        have HV1U41 := Lib.hid (five_up HV1U40.out hb)
        have HN7U41 := Lib.hid (Below.row hb HN7U40.out HN7U40.out.lt)
        have HN8U41 := Lib.hid (Below.row hb HN8U40.out HN8U40.out.lt)
        have HV2U41 := Lib.hid hF
        clear hb hF
        clear HBU40 HR0U40 HR1U40 HV1U40 HN7U40 HN8U40
        first | refine ⟨⟨HR0U41.out, HR1U41.out⟩, ?_⟩ | refine ⟨fun _ => ⟨HR0U41.out, HR1U41.out⟩, ?_⟩
        refine AnyBut.one 6 rfl (by kernel_rfl) (by rfl) ?_
        have hz := HN7U41.out
        have q0 := hz.cell 0; have r0 := hz.frozen 0
        have q1 := hz.cell 1; have r1 := hz.frozen 1
        have q2 := hz.cell 2; have r2 := hz.frozen 2
        have q3 := hz.cell 3; have r3 := hz.frozen 3
        have q4 := hz.cell 4; have r4 := hz.frozen 4
        have q5 := hz.cell 5; have r5 := hz.frozen 5
        have q6 := hz.cell 6; have r6 := hz.frozen 6
        have q7 := hz.cell 7; have r7 := hz.frozen 7
        have q8 := hz.cell 8; have r8 := hz.frozen 8
        have q9 := hz.cell 9; have r9 := hz.frozen 9
        simp only [List.getElem?_toArray, List.getElem?_cons_zero, List.getElem?_cons_succ] at q0 q1 q2 q3 q4 q5 q6 q7 q8 q9
        go_simp
        have hp := put10 hz (.slice pA0 pk0 pc0) (.slice pA1 pk1 pc1) (.slice pA2 pk2 pc2) (.slice pA3 pk3 pc3) (.slice pA4 pk4 pc4) (.int .i64 L.speed) (.int .i64 L.mute) (.int .i64 L.wait) (.int .i64 L.cancel) (.int .i64 L.stay)
        clear hz q0 r0 q1 r1 q2 r2 q3 r3 q4 r4 q5 r5 q6 r6 q7 r7 q8 r8 q9 r9
        have ne0 : g0 ≠ n7 := Row.ne HR0U41.out HN7U41.out (by decide)
        have ne1 : g1 ≠ n7 := Row.ne HR1U41.out HN7U41.out (by decide)
        have k0 := Lib.hid (hp.2.2.row HR0U41.out (by simpa using ne0)); have k1 := Lib.hid (hp.2.2.row HR1U41.out (by simpa using ne1))
        have k7 := Lib.hid hp.1; have k8 := Lib.hid (hp.2.2.row HN8U41.out (by simpa using HNE.out.symm))
        have kv1 := Lib.hid (HV1U41.out.kept hp.2.2 (other_one HN7U41.out)); have kv2 := Lib.hid (HV2U41.out.kept hp.2.2 (other_one HN7U41.out))
        have kb : Hid (Below w.heap.size w ((((((((((U41.setCell ⟨n7, 0, none⟩ (.slice pA0 pk0 pc0)).setCell ⟨n7, 1, none⟩ (.slice pA1 pk1 pc1)).setCell ⟨n7, 2, none⟩ (.slice pA2 pk2 pc2)).setCell ⟨n7, 3, none⟩ (.slice pA3 pk3 pc3)).setCell ⟨n7, 4, none⟩ (.slice pA4 pk4 pc4)).setCell ⟨n7, 5, none⟩ (.int .i64 L.speed)).setCell ⟨n7, 6, none⟩ (.int .i64 L.mute)).setCell ⟨n7, 7, none⟩ (.int .i64 L.wait)).setCell ⟨n7, 8, none⟩ (.int .i64 L.cancel)).setCell ⟨n7, 9, none⟩ (.int .i64 L.stay))) := HBU41.out.trans (hp.2.1.mono HG7.out)
        clear hp ne0 ne1
        clear HBU41 HR0U41 HR1U41 HV1U41 HV2U41 HN7U41 HN8U41
        generalize ((((((((((U41.setCell ⟨n7, 0, none⟩ (.slice pA0 pk0 pc0)).setCell ⟨n7, 1, none⟩ (.slice pA1 pk1 pc1)).setCell ⟨n7, 2, none⟩ (.slice pA2 pk2 pc2)).setCell ⟨n7, 3, none⟩ (.slice pA3 pk3 pc3)).setCell ⟨n7, 4, none⟩ (.slice pA4 pk4 pc4)).setCell ⟨n7, 5, none⟩ (.int .i64 L.speed)).setCell ⟨n7, 6, none⟩ (.int .i64 L.mute)).setCell ⟨n7, 7, none⟩ (.int .i64 L.wait)).setCell ⟨n7, 8, none⟩ (.int .i64 L.cancel)).setCell ⟨n7, 9, none⟩ (.int .i64 L.stay)) = U42 at *
        first | refine ⟨⟨k0.out, k1.out⟩, ?_⟩ | refine ⟨fun _ => ⟨k0.out, k1.out⟩, ?_⟩
        refine AnyBut.one 7 rfl (by kernel_rfl) (by rfl) ?_
        have hz := k8.out
        have q0 := hz.cell 0; have r0 := hz.frozen 0
        have q1 := hz.cell 1; have r1 := hz.frozen 1
        have q2 := hz.cell 2; have r2 := hz.frozen 2
        have q3 := hz.cell 3; have r3 := hz.frozen 3
        have q4 := hz.cell 4; have r4 := hz.frozen 4
        have q5 := hz.cell 5; have r5 := hz.frozen 5
        have q6 := hz.cell 6; have r6 := hz.frozen 6
        have q7 := hz.cell 7; have r7 := hz.frozen 7
        have q8 := hz.cell 8; have r8 := hz.frozen 8
        have q9 := hz.cell 9; have r9 := hz.frozen 9
        simp only [List.getElem?_toArray, List.getElem?_cons_zero, List.getElem?_cons_succ] at q0 q1 q2 q3 q4 q5 q6 q7 q8 q9
        go_simp
        have hp := put10 hz (.slice sA0 sk0 sc0) (.slice sA1 sk1 sc1) (.slice sA2 sk2 sc2) (.slice sA3 sk3 sc3) (.slice sA4 sk4 sc4) (.int .i64 M.speed) (.int .i64 M.mute) (.int .i64 M.wait) (.int .i64 M.cancel) (.int .i64 M.stay)
        clear hz q0 r0 q1 r1 q2 r2 q3 r3 q4 r4 q5 r5 q6 r6 q7 r7 q8 r8 q9 r9
        have ne0 : g0 ≠ n8 := Row.ne k0.out k8.out (by decide)
        have HX : Hid (Row ((((((((((U42.setCell ⟨n8, 0, none⟩ (.slice sA0 sk0 sc0)).setCell ⟨n8, 1, none⟩ (.slice sA1 sk1 sc1)).setCell ⟨n8, 2, none⟩ (.slice sA2 sk2 sc2)).setCell ⟨n8, 3, none⟩ (.slice sA3 sk3 sc3)).setCell ⟨n8, 4, none⟩ (.slice sA4 sk4 sc4)).setCell ⟨n8, 5, none⟩ (.int .i64 M.speed)).setCell ⟨n8, 6, none⟩ (.int .i64 M.mute)).setCell ⟨n8, 7, none⟩ (.int .i64 M.wait)).setCell ⟨n8, 8, none⟩ (.int .i64 M.cancel)).setCell ⟨n8, 9, none⟩ (.int .i64 M.stay)) n7 33 #[.slice pA0 pk0 pc0, .slice pA1 pk1 pc1, .slice pA2 pk2 pc2, .slice pA3 pk3 pc3, .slice pA4 pk4 pc4, .int .i64 L.speed, .int .i64 L.mute, .int .i64 L.wait, .int .i64 L.cancel, .int .i64 L.stay] ∧ Row ((((((((((U42.setCell ⟨n8, 0, none⟩ (.slice sA0 sk0 sc0)).setCell ⟨n8, 1, none⟩ (.slice sA1 sk1 sc1)).setCell ⟨n8, 2, none⟩ (.slice sA2 sk2 sc2)).setCell ⟨n8, 3, none⟩ (.slice sA3 sk3 sc3)).setCell ⟨n8, 4, none⟩ (.slice sA4 sk4 sc4)).setCell ⟨n8, 5, none⟩ (.int .i64 M.speed)).setCell ⟨n8, 6, none⟩ (.int .i64 M.mute)).setCell ⟨n8, 7, none⟩ (.int .i64 M.wait)).setCell ⟨n8, 8, none⟩ (.int .i64 M.cancel)).setCell ⟨n8, 9, none⟩ (.int .i64 M.stay)) n8 33 #[.slice sA0 sk0 sc0, .slice sA1 sk1 sc1, .slice sA2 sk2 sc2, .slice sA3 sk3 sc3, .slice sA4 sk4 sc4, .int .i64 M.speed, .int .i64 M.mute, .int .i64 M.wait, .int .i64 M.cancel, .int .i64 M.stay] ∧ Five ((((((((((U42.setCell ⟨n8, 0, none⟩ (.slice sA0 sk0 sc0)).setCell ⟨n8, 1, none⟩ (.slice sA1 sk1 sc1)).setCell ⟨n8, 2, none⟩ (.slice sA2 sk2 sc2)).setCell ⟨n8, 3, none⟩ (.slice sA3 sk3 sc3)).setCell ⟨n8, 4, none⟩ (.slice sA4 sk4 sc4)).setCell ⟨n8, 5, none⟩ (.int .i64 M.speed)).setCell ⟨n8, 6, none⟩ (.int .i64 M.mute)).setCell ⟨n8, 7, none⟩ (.int .i64 M.wait)).setCell ⟨n8, 8, none⟩ (.int .i64 M.cancel)).setCell ⟨n8, 9, none⟩ (.int .i64 M.stay)) (.slice pA0 pk0 pc0) (.slice pA1 pk1 pc1) (.slice pA2 pk2 pc2) (.slice pA3 pk3 pc3) (.slice pA4 pk4 pc4) L ∧ Five ((((((((((U42.setCell ⟨n8, 0, none⟩ (.slice sA0 sk0 sc0)).setCell ⟨n8, 1, none⟩ (.slice sA1 sk1 sc1)).setCell ⟨n8, 2, none⟩ (.slice sA2 sk2 sc2)).setCell ⟨n8, 3, none⟩ (.slice sA3 sk3 sc3)).setCell ⟨n8, 4, none⟩ (.slice sA4 sk4 sc4)).setCell ⟨n8, 5, none⟩ (.int .i64 M.speed)).setCell ⟨n8, 6, none⟩ (.int .i64 M.mute)).setCell ⟨n8, 7, none⟩ (.int .i64 M.wait)).setCell ⟨n8, 8, none⟩ (.int .i64 M.cancel)).setCell ⟨n8, 9, none⟩ (.int .i64 M.stay)) (.slice sA0 sk0 sc0) (.slice sA1 sk1 sc1) (.slice sA2 sk2 sc2) (.slice sA3 sk3 sc3) (.slice sA4 sk4 sc4) M ∧ Row ((((((((((U42.setCell ⟨n8, 0, none⟩ (.slice sA0 sk0 sc0)).setCell ⟨n8, 1, none⟩ (.slice sA1 sk1 sc1)).setCell ⟨n8, 2, none⟩ (.slice sA2 sk2 sc2)).setCell ⟨n8, 3, none⟩ (.slice sA3 sk3 sc3)).setCell ⟨n8, 4, none⟩ (.slice sA4 sk4 sc4)).setCell ⟨n8, 5, none⟩ (.int .i64 M.speed)).setCell ⟨n8, 6, none⟩ (.int .i64 M.mute)).setCell ⟨n8, 7, none⟩ (.int .i64 M.wait)).setCell ⟨n8, 8, none⟩ (.int .i64 M.cancel)).setCell ⟨n8, 9, none⟩ (.int .i64 M.stay)) g0 25 #[.int .u8 (d0.form : Int), .int .u8 (d0.len : Int), .int .u8 (d0.speed : Int), .int .u16 (d0.mute : Int), .int .u16 (d0.wait : Int), .int .u8 (d0.cancel : Int), .int .u8 (d0.stay : Int), .int .u8 (d0.join : Int), .slice rA0 rk0 rc0] ∧ Below w.heap.size w ((((((((((U42.setCell ⟨n8, 0, none⟩ (.slice sA0 sk0 sc0)).setCell ⟨n8, 1, none⟩ (.slice sA1 sk1 sc1)).setCell ⟨n8, 2, none⟩ (.slice sA2 sk2 sc2)).setCell ⟨n8, 3, none⟩ (.slice sA3 sk3 sc3)).setCell ⟨n8, 4, none⟩ (.slice sA4 sk4 sc4)).setCell ⟨n8, 5, none⟩ (.int .i64 M.speed)).setCell ⟨n8, 6, none⟩ (.int .i64 M.mute)).setCell ⟨n8, 7, none⟩ (.int .i64 M.wait)).setCell ⟨n8, 8, none⟩ (.int .i64 M.cancel)).setCell ⟨n8, 9, none⟩ (.int .i64 M.stay))) :=
          ⟨hp.2.2.row k7.out (by simpa using HNE.out), hp.1, kv1.out.kept hp.2.2 (other_one k8.out), kv2.out.kept hp.2.2 (other_one k8.out), hp.2.2.row k0.out (by simpa using ne0), kb.out.trans (hp.2.1.mono HG8.out)⟩
        clear hp ne0 k0 k1 k7 k8 kv1 kv2 kb
        generalize ((((((((((U42.setCell ⟨n8, 0, none⟩ (.slice sA0 sk0 sc0)).setCell ⟨n8, 1, none⟩ (.slice sA1 sk1 sc1)).setCell ⟨n8, 2, none⟩ (.slice sA2 sk2 sc2)).setCell ⟨n8, 3, none⟩ (.slice sA3 sk3 sc3)).setCell ⟨n8, 4, none⟩ (.slice sA4 sk4 sc4)).setCell ⟨n8, 5, none⟩ (.int .i64 M.speed)).setCell ⟨n8, 6, none⟩ (.int .i64 M.mute)).setCell ⟨n8, 7, none⟩ (.int .i64 M.wait)).setCell ⟨n8, 8, none⟩ (.int .i64 M.cancel)).setCell ⟨n8, 9, none⟩ (.int .i64 M.stay)) = U43 at *
        refine AnyBut.done (by kernel_rfl) ?_
        go_wp2_with fail
        go_meet
        case rel => exact ⟨n7, n8, pA0, pk0, pc0, pA1, pk1, pc1, pA2, pk2, pc2, pA3, pk3, pc3, pA4, pk4, pc4, sA0, sk0, sc0, sA1, sk1, sc1, sA2, sk2, sc2, sA3, sk3, sc3, sA4, sk4, sc4, rfl, rfl, HX⟩
    · go_simp
      have hb := (Below.refl U0.heap.size U0).alloc (Nat.le_refl _) (.cells #[.slice none 0 0, .slice none 0 0, .slice none 0 0, .slice none 0 0, .slice none 0 0, .int .i64 0, .int .i64 0, .int .i64 0, .int .i64 0, .int .i64 0] 33)
      have HBU44 := Lib.hid (HBU0.out.trans (hb.mono HBU0.out.size))
      have HR0U44 := Lib.hid (Below.row hb HR0U0.out HR0U0.out.lt)
      have HR1U44 := Lib.hid (Below.row hb HR1U0.out HR1U0.out.lt)
      have HN8U44 := Lib.hid (Row.new U0 33 #[.slice none 0 0, .slice none 0 0, .slice none 0 0, .slice none 0 0, .slice none 0 0, .int .i64 0, .int .i64 0, .int .i64 0, .int .i64 0, .int .i64 0])
      have HG8 : Hid (w.heap.size ≤ U0.heap.size) := HBU0.out.size
      clear hb
      clear HBU0 HR0U0 HR1U0
      obtain ⟨n8, hn8⟩ : ∃ x, x = U0.heap.size := ⟨_, rfl⟩
      rw [← hn8] at HN8U44 HG8 ⊢
      clear hn8
      generalize U0.alloc (.cells #[.slice none 0 0, .slice none 0 0, .slice none 0 0, .slice none 0 0, .slice none 0 0, .int .i64 0, .int .i64 0, .int .i64 0, .int .i64 0, .int .i64 0] 33) = U44 at *
      first | refine ⟨⟨HR0U44.out, HR1U44.out⟩, ?_⟩ | refine ⟨fun _ => ⟨HR0U44.out, HR1U44.out⟩, ?_⟩
      refine any_two 1 4 rfl rfl (by kernel_rfl) (by rfl) (by rfl) ?_ ?_
      · go_simp
        refine (roughO_any U44 d0 _ HDK0.out (HD0.out U44 HBU44.out) HS0.out).mono ?_
        rintro e U45 ⟨vN, vS, vP, vQ, vR, rfl, hF, -, hb⟩
        rw [HMM.out] at hF ⊢
        obtain ⟨⟨pA0, pk0, pc0, rfl⟩, ⟨pA1, pk1, pc1, rfl⟩, ⟨pA2, pk2, pc2, rfl⟩, ⟨pA3, pk3, pc3, rfl⟩, ⟨pA4, pk4, pc4, rfl⟩⟩ := five_slices hF
        have HBU45 := Lib.hid (HBU44.out.trans (hb.mono HBU44.out.size))
        have HR0U45 := Lib.hid (Below.row hb HR0U44.out HR0U44.out.lt)
        have HR1U45 := Lib.hid (Below.row hb HR1U44.out HR1U44.out.lt)
        have HN8U45 := Lib.hid (Below.row hb HN8U44.out HN8U44.out.lt)
        have HV1U45 := Lib.hid hF
        clear hb hF
        clear HBU44 HR0U44 HR1U44 HN8U44
        first | refine ⟨⟨HR0U45.out, HR1U45.out⟩, ?_⟩ | refine ⟨fun _ => ⟨HR0U45.out, HR1U45.out⟩, ?_⟩
        refine any_two 3 4 rfl rfl (by kernel_rfl) (by rfl) (by rfl) ?_ ?_
        · go_simp
          refine (roughO_any U45 d1 _ HDK1.out (HD1.out U45 HBU45.out) HS1.out).mono ?_
          rintro e U46 ⟨vN, vS, vP, vQ, vR, rfl, hF, -, hb⟩
          rw [HNN.out] at hF ⊢
          obtain ⟨⟨sA0, sk0, sc0, rfl⟩, ⟨sA1, sk1, sc1, rfl⟩, ⟨sA2, sk2, sc2, rfl⟩, ⟨sA3, sk3, sc3, rfl⟩, ⟨sA4, sk4, sc4, rfl⟩⟩ := five_slices hF
          have HBU46 := Lib.hid (HBU45.out.trans (hb.mono HBU45.out.size))
          have HR0U46 := Lib.hid (Below.row hb HR0U45.out HR0U45.out.lt)
          have HR1U46 := Lib.hid (Below.row hb HR1U45.out HR1U45.out.lt)
          have HV1U46 := Lib.hid (five_up HV1U45.out hb)
          have HN8U46 := Lib.hid (Below.row hb HN8U45.out HN8U45.out.lt)
          have HV2U46 := Lib.hid hF
          clear hb hF
          clear HBU45 HR0U45 HR1U45 HV1U45 HN8U45
          first | refine ⟨⟨HR0U46.out, HR1U46.out⟩, ?_⟩ | refine ⟨fun _ => ⟨HR0U46.out, HR1U46.out⟩, ?_⟩
          refine AnyBut.one 4 rfl (by kernel_rfl) (by rfl) ?_
          go_simp
          have hb := (Below.refl U46.heap.size U46).alloc (Nat.le_refl _) (.cells #[.slice none 0 0, .slice none 0 0, .slice none 0 0, .slice none 0 0, .slice none 0 0, .int .i64 0, .int .i64 0, .int .i64 0, .int .i64 0, .int .i64 0] 33)
          have HBU47 := Lib.hid (HBU46.out.trans (hb.mono HBU46.out.size))
          have HR0U47 := Lib.hid (Below.row hb HR0U46.out HR0U46.out.lt)
          have HR1U47 := Lib.hid (Below.row hb HR1U46.out HR1U46.out.lt)
          have HV1U47 := Lib.hid (five_up HV1U46.out hb)
          have HV2U47 := Lib.hid (five_up HV2U46.out hb)
          have HN8U47 := Lib.hid (Below.row hb HN8U46.out HN8U46.out.lt)
          have HN7U47 := Lib.hid (Row.new U46 33 #[.slice none 0 0, .slice none 0 0, .slice none 0 0, .slice none 0 0, .slice none 0 0, .int .i64 0, .int .i64 0, .int .i64 0, .int .i64 0, .int .i64 0])
          have HG7 : Hid (w.heap.size ≤ U46.heap.size) := HBU46.out.size
          have HNE : Hid (U46.heap.size ≠ n8) := by show _ ≠ _; have := HN8U46.out.lt; omega
          clear hb
          clear HBU46 HR0U46 HR1U46 HV1U46 HV2U46 HN8U46
          obtain ⟨n7, hn7⟩ : ∃ x, x = U46.heap.size := ⟨_, rfl⟩
          rw [← hn7] at HN7U47 HG7 HNE ⊢
          clear hn7
          generalize U46.alloc (.cells #[.slice none 0 0, .slice none 0 0, .slice none 0 0, .slice none 0 0, .slice none 0 0, .int .i64 0, .int .i64 0, .int .i64 0, .int .i64 0, .int .i64 0] 33) = U47 at *
          first | refine ⟨⟨HR0U47.out, HR1U47.out⟩, ?_⟩ | refine ⟨fun _ => ⟨HR0U47.out, HR1U47.out⟩, ?_⟩
          refine AnyBut.one 6 rfl (by kernel_rfl) (by rfl) ?_
          have hz := HN7U47.out
          have q0 := hz.cell 0; have r0 := hz.frozen 0
          have q1 := hz.cell 1; have r1 := hz.frozen 1
          have q2 := hz.cell 2; have r2 := hz.frozen 2
          have q3 := hz.cell 3; have r3 := hz.frozen 3
          have q4 := hz.cell 4; have r4 := hz.frozen 4
          have q5 := hz.cell 5; have r5 := hz.frozen 5
          have q6 := hz.cell 6; have r6 := hz.frozen 6
          have q7 := hz.cell 7; have r7 := hz.frozen 7
          have q8 := hz.cell 8; have r8 := hz.frozen 8
          have q9 := hz.cell 9; have r9 := hz.frozen 9
          simp only [List.getElem?_toArray, List.getElem?_cons_zero, List.getElem?_cons_succ] at q0 q1 q2 q3 q4 q5 q6 q7 q8 q9
          go_simp
          have hp := put10 hz (.slice pA0 pk0 pc0) (.slice pA1 pk1 pc1) (.slice pA2 pk2 pc2) (.slice pA3 pk3 pc3) (.slice pA4 pk4 pc4) (.int .i64 L.speed) (.int .i64 L.mute) (.int .i64 L.wait) (.int .i64 L.cancel) (.int .i64 L.stay)
          clear hz q0 r0 q1 r1 q2 r2 q3 r3 q4 r4 q5 r5 q6 r6 q7 r7 q8 r8 q9 r9
          have ne0 : g0 ≠ n7 := Row.ne HR0U47.out HN7U47.out (by decide)
          have ne1 : g1 ≠ n7 := Row.ne HR1U47.out HN7U47.out (by decide)
          have k0 := Lib.hid (hp.2.2.row HR0U47.out (by simpa using ne0)); have k1 := Lib.hid (hp.2.2.row HR1U47.out (by simpa using ne1))
          have k7 := Lib.hid hp.1; have k8 := Lib.hid (hp.2.2.row HN8U47.out (by simpa using HNE.out.symm))
          have kv1 := Lib.hid (HV1U47.out.kept hp.2.2 (other_one HN7U47.out)); have kv2 := Lib.hid (HV2U47.out.kept hp.2.2 (other_one HN7U47.out))
          have kb : Hid (Below w.heap.size w ((((((((((U47.setCell ⟨n7, 0, none⟩ (.slice pA0 pk0 pc0)).setCell ⟨n7, 1, none⟩ (.slice pA1 pk1 pc1)).setCell ⟨n7, 2, none⟩ (.slice pA2 pk2 pc2)).setCell ⟨n7, 3, none⟩ (.slice pA3 pk3 pc3)).setCell ⟨n7, 4, none⟩ (.slice pA4 pk4 pc4)).setCell ⟨n7, 5, none⟩ (.int .i64 L.speed)).setCell ⟨n7, 6, none⟩ (.int .i64 L.mute)).setCell ⟨n7, 7, none⟩ (.int .i64 L.wait)).setCell ⟨n7, 8, none⟩ (.int .i64 L.cancel)).setCell ⟨n7, 9, none⟩ (.int .i64 L.stay))) := HBU47.out.trans (hp.2.1.mono HG7.out)
          clear hp ne0 ne1
          clear HBU47 HR0U47 HR1U47 HV1U47 HV2U47 HN7U47 HN8U47
          generalize ((((((((((U47.setCell ⟨n7, 0, none⟩ (.slice pA0 pk0 pc0)).setCell ⟨n7, 1, none⟩ (.slice pA1 pk1 pc1)).setCell ⟨n7, 2, none⟩ (.slice pA2 pk2 pc2)).setCell ⟨n7, 3, none⟩ (.slice pA3 pk3 pc3)).setCell ⟨n7, 4, none⟩ (.slice pA4 pk4 pc4)).setCell ⟨n7, 5, none⟩ (.int .i64 L.speed)).setCell ⟨n7, 6, none⟩ (.int .i64 L.mute)).setCell ⟨n7, 7, none⟩ (.int .i64 L.wait)).setCell ⟨n7, 8, none⟩ (.int .i64 L.cancel)).setCell ⟨n7, 9, none⟩ (.int .i64 L.stay)) = U48 at *
          first | refine ⟨⟨k0.out, k1.out⟩, ?_⟩ | refine ⟨fun _ => ⟨k0.out, k1.out⟩, ?_⟩
          refine AnyBut.one 7 rfl (by kernel_rfl) (by rfl) ?_
          have hz := k8.out
          have q0 := hz.cell 0; have r0 := hz.frozen 0
          have q1 := hz.cell 1; have r1 := hz.frozen 1
          have q2 := hz.cell 2; have r2 := hz.frozen 2
          have q3 := hz.cell 3; have r3 := hz.frozen 3
          have q4 := hz.cell 4; have r4 := hz.frozen 4
          have q5 := hz.cell 5; have r5 := hz.frozen 5
          have q6 := hz.cell 6; have r6 := hz.frozen 6
          have q7 := hz.cell 7; have r7 := hz.frozen 7
          have q8 := hz.cell 8; have r8 := hz.frozen 8
          have q9 := hz.cell 9; have r9 := hz.frozen 9
          simp only [List.getElem?_toArray, List.getElem?_cons_zero, List.getElem?_cons_succ] at q0 q1 q2 q3 q4 q5 q6 q7 q8 q9
          go_simp
          have hp := put10 hz (.slice sA0 sk0 sc0) (.slice sA1 sk1 sc1) (.slice sA2 sk2 sc2) (.slice sA3 sk3 sc3) (.slice sA4 sk4 sc4) (.int .i64 M.speed) (.int .i64 M.mute) (.int .i64 M.wait) (.int .i64 M.cancel) (.int .i64 M.stay)
          clear hz q0 r0 q1 r1 q2 r2 q3 r3 q4 r4 q5 r5 q6 r6 q7 r7 q8 r8 q9 r9
          have ne0 : g0 ≠ n8 := Row.ne k0.out k8.out (by decide)
          have HX : Hid (Row ((((((((((U48.setCell ⟨n8, 0, none⟩ (.slice sA0 sk0 sc0)).setCell ⟨n8, 1, none⟩ (.slice sA1 sk1 sc1)).setCell ⟨n8, 2, none⟩ (.slice sA2 sk2 sc2)).setCell ⟨n8, 3, none⟩ (.slice sA3 sk3 sc3)).setCell ⟨n8, 4, none⟩ (.slice sA4 sk4 sc4)).setCell ⟨n8, 5, none⟩ (.int .i64 M.speed)).setCell ⟨n8, 6, none⟩ (.int .i64 M.mute)).setCell ⟨n8, 7, none⟩ (.int .i64 M.wait)).setCell ⟨n8, 8, none⟩ (.int .i64 M.cancel)).setCell ⟨n8, 9, none⟩ (.int .i64 M.stay)) n7 33 #[.slice pA0 pk0 pc0, .slice pA1 pk1 pc1, .slice pA2 pk2 pc2, .slice pA3 pk3 pc3, .slice pA4 pk4 pc4, .int .i64 L.speed, .int .i64 L.mute, .int .i64 L.wait, .int .i64 L.cancel, .int .i64 L.stay] ∧ Row ((((((((((U48.setCell ⟨n8, 0, none⟩ (.slice sA0 sk0 sc0)).setCell ⟨n8, 1, none⟩ (.slice sA1 sk1 sc1)).setCell ⟨n8, 2, none⟩ (.slice sA2 sk2 sc2)).setCell ⟨n8, 3, none⟩ (.slice sA3 sk3 sc3)).setCell ⟨n8, 4, none⟩ (.slice sA4 sk4 sc4)).setCell ⟨n8, 5, none⟩ (.int .i64 M.speed)).setCell ⟨n8, 6, none⟩ (.int .i64 M.mute)).setCell ⟨n8, 7, none⟩ (.int .i64 M.wait)).setCell ⟨n8, 8, none⟩ (.int .i64 M.cancel)).setCell ⟨n8, 9, none⟩ (.int .i64 M.stay)) n8 33 #[.slice sA0 sk0 sc0, .slice sA1 sk1 sc1, .slice sA2 sk2 sc2, .slice sA3 sk3 sc3, .slice sA4 sk4 sc4, .int .i64 M.speed, .int .i64 M.mute, .int .i64 M.wait, .int .i64 M.cancel, .int .i64 M.stay] ∧ Five ((((((((((U48.setCell ⟨n8, 0, none⟩ (.slice sA0 sk0 sc0)).setCell ⟨n8, 1, none⟩ (.slice sA1 sk1 sc1)).setCell ⟨n8, 2, none⟩ (.slice sA2 sk2 sc2)).setCell ⟨n8, 3, none⟩ (.slice sA3 sk3 sc3)).setCell ⟨n8, 4, none⟩ (.slice sA4 sk4 sc4)).setCell ⟨n8, 5, none⟩ (.int .i64 M.speed)).setCell ⟨n8, 6, none⟩ (.int .i64 M.mute)).setCell ⟨n8, 7, none⟩ (.int .i64 M.wait)).setCell ⟨n8, 8, none⟩ (.int .i64 M.cancel)).setCell ⟨n8, 9, none⟩ (.int .i64 M.stay)) (.slice pA0 pk0 pc0) (.slice pA1 pk1 pc1) (.slice pA2 pk2 pc2) (.slice pA3 pk3 pc3) (.slice pA4 pk4 pc4) L ∧ Five ((((((((((U48.setCell ⟨n8, 0, none⟩ (.slice sA0 sk0 sc0)).setCell ⟨n8, 1, none⟩ (.slice sA1 sk1 sc1)).setCell ⟨n8, 2, none⟩ (.slice sA2 sk2 sc2)).setCell ⟨n8, 3, none⟩ (.slice sA3 sk3 sc3)).setCell ⟨n8, 4, none⟩ (.slice sA4 sk4 sc4)).setCell ⟨n8, 5, none⟩ (.int .i64 M.speed)).setCell ⟨n8, 6, none⟩ (.int .i64 M.mute)).setCell ⟨n8, 7, none⟩ (.int .i64 M.wait)).setCell ⟨n8, 8, none⟩ (.int .i64 M.cancel)).setCell ⟨n8, 9, none⟩ (.int .i64 M.stay)) (.slice sA0 sk0 sc0) (.slice sA1 sk1 sc1) (.slice sA2 sk2 sc2) (.slice sA3 sk3 sc3) (.slice sA4 sk4 sc4) M ∧ Row ((((((((((U48.setCell ⟨n8, 0, none⟩ (.slice sA0 sk0 sc0)).setCell ⟨n8, 1, none⟩ (.slice sA1 sk1 sc1)).setCell ⟨n8, 2, none⟩ (.slice sA2 sk2 sc2)).setCell ⟨n8, 3, none⟩ (.slice sA3 sk3 sc3)).setCell ⟨n8, 4, none⟩ (.slice sA4 sk4 sc4)).setCell ⟨n8, 5, none⟩ (.int .i64 M.speed)).setCell ⟨n8, 6, none⟩ (.int .i64 M.mute)).setCell ⟨n8, 7, none⟩ (.int .i64 M.wait)).setCell ⟨n8, 8, none⟩ (.int .i64 M.cancel)).setCell ⟨n8, 9, none⟩ (.int .i64 M.stay)) g0 25 #[.int .u8 (d0.form : Int), .int .u8 (d0.len : Int), .int .u8 (d0.speed : Int), .int .u16 (d0.mute : Int), .int .u16 (d0.wait : Int), .int .u8 (d0.cancel : Int), .int .u8 (d0.stay : Int), .int .u8 (d0.join : Int), .slice rA0 rk0 rc0] ∧ Below w.heap.size w ((((((((((U48.setCell ⟨n8, 0, none⟩ (.slice sA0 sk0 sc0)).setCell ⟨n8, 1, none⟩ (.slice sA1 sk1 sc1)).setCell ⟨n8, 2, none⟩ (.slice sA2 sk2 sc2)).setCell ⟨n8, 3, none⟩ (.slice sA3 sk3 sc3)).setCell ⟨n8, 4, none⟩ (.slice sA4 sk4 sc4)).setCell ⟨n8, 5, none⟩ (.int .i64 M.speed)).setCell ⟨n8, 6, none⟩ (.int .i64 M.mute)).setCell ⟨n8, 7, none⟩ (.int .i64 M.wait)).setCell ⟨n8, 8, none⟩ (.int .i64 M.cancel)).setCell ⟨n8, 9, none⟩ (.int .i64 M.stay))) :=
            ⟨hp.2.2.row k7.out (by simpa using HNE.out), hp.1, kv1.out.kept hp.2.2 (other_one k8.out), kv2.out.kept hp.2.2 (other_one k8.out), hp.2.2.row k0.out (by simpa using ne0), kb.out.trans (hp.2.1.mono HG8.out)⟩
          clear hp ne0 k0 k1 k7 k8 kv1 kv2 kb
          generalize ((((((((((U48.setCell ⟨n8, 0, none⟩ (.slice sA0 sk0 sc0)).setCell ⟨n8, 1, none⟩ (.slice sA1 sk1 sc1)).setCell ⟨n8, 2, none⟩ (.slice sA2 sk2 sc2)).setCell ⟨n8, 3, none⟩ (.slice sA3 sk3 sc3)).setCell ⟨n8, 4, none⟩ (.slice sA4 sk4 sc4)).setCell ⟨n8, 5, none⟩ (.int .i64 M.speed)).setCell ⟨n8, 6, none⟩ (.int .i64 M.mute)).setCell ⟨n8, 7, none⟩ (.int .i64 M.wait)).setCell ⟨n8, 8, none⟩ (.int .i64 M.cancel)).setCell ⟨n8, 9, none⟩ (.int .i64 M.stay)) = U49 at *
          refine AnyBut.done (by kernel_rfl) ?_
          go_wp2_with fail
          go_meet
          case rel => exact ⟨n7, n8, pA0, pk0, pc0, pA1, pk1, pc1, pA2, pk2, pc2, pA3, pk3, pc3, pA4, pk4, pc4, sA0, sk0, sc0, sA1, sk1, sc1, sA2, sk2, sc2, sA3, sk3, sc3, sA4, sk4, sc4, rfl, rfl, HX⟩
        · go_simp
          have hb := (Below.refl U45.heap.size U45).alloc (Nat.le_refl _) (.cells #[.slice none 0 0, .slice none 0 0, .slice none 0 0, .slice none 0 0, .slice none 0 0, .int .i64 0, .int .i64 0, .int .i64 0, .int .i64 0, .int .i64 0] 33)
          have HBU50 := Lib.hid (HBU45.out.trans (hb.mono HBU45.out.size))
          have HR0U50 := Lib.hid (Below.row hb HR0U45.out HR0U45.out.lt)
          have HR1U50 := Lib.hid (Below.row hb HR1U45.out HR1U45.out.lt)
          have HV1U50 := Lib.hid (five_up HV1U45.out hb)
          have HN8U50 := Lib.hid (Below.row hb HN8U45.out HN8U45.out.lt)
          have HN7U50 := Lib.hid (Row.new U45 33 #[.slice none 0 0, .slice none 0 0, .slice none 0 0, .slice none 0 0, .slice none 0 0, .int .i64 0, .int .i64 0, .int .i64 0, .int .i64 0, .int .i64 0])
          have HG7 : Hid (w.heap.size ≤ U45.heap.size) := HBU45.out.size
          have HNE : Hid (U45.heap.size ≠ n8) := by show _ ≠ _; have := HN8U45.out.lt; omega
          clear hb
          clear HBU45 HR0U45 HR1U45 HV1U45 HN8U45
          obtain ⟨n7, hn7⟩ : ∃ x, x = U45.heap.size := ⟨_, rfl⟩
          rw [← hn7] at HN7U50 HG7 HNE ⊢
          clear hn7
          generalize U45.alloc (.cells #[.slice none 0 0, .slice none 0 0, .slice none 0 0, .slice none 0 0, .slice none 0 0, .int .i64 0, .int .i64 0, .int .i64 0, .int .i64 0, .int .i64 0] 33) = U50 at *
          first | refine ⟨⟨HR0U50.out, HR1U50.out⟩, ?_⟩ | refine ⟨fun _ => ⟨HR0U50.out, HR1U50.out⟩, ?_⟩
          refine AnyBut.one 3 rfl (by kernel_rfl) (by rfl) ?_
          go_simp
          refine (roughO_any U50 d1 _ HDK1.out (HD1.out U50 HBU50.out) HS1.out).mono ?_
          rintro e U51 ⟨vN, vS, vP, vQ, vR, rfl, hF, -, hb⟩
          rw [HNN.out] at hF ⊢
          obtain ⟨⟨sA0, sk0, sc0, rfl⟩, ⟨sA1, sk1, sc1, rfl⟩, ⟨sA2, sk2, sc2, rfl⟩, ⟨sA3, sk3, sc3, rfl⟩, ⟨sA4, sk4, sc4, rfl⟩⟩ := five_slices hF
          have HBU51 := Lib.hid (HBU50.out.trans (hb.mono HBU50.out.size))
          have HR0U51 := Lib.hid (Below.row hb HR0U50.out HR0U50.out.lt)
          have HR1U51 := Lib.hid (Below.row hb HR1U50.out HR1U50.out.lt)
          have HV1U51 := Lib.hid (five_up HV1U50.out hb)
          have HN7U51 := Lib.hid (Below.row hb HN7U50.out HN7U50.out.lt)
          have HN8U51 := Lib.hid (Below.row hb HN8U50.out HN8U50.out.lt)
          have HV2U51 := Lib.hid hF
          clear hb hF
          clear HBU50 HR0U50 HR1U50 HV1U50 HN7U50 HN8U50
          first | refine ⟨⟨HR0U51.out, HR1U51.out⟩, ?_⟩ | refine ⟨fun _ => ⟨HR0U51.out, HR1U51.out⟩, ?_⟩
          refine AnyBut.one 6 rfl (by kernel_rfl) (by rfl) ?_
          have hz := HN7U51.out
          have q0 := hz.cell 0; have r0 := hz.frozen 0
          have q1 := hz.cell 1; have r1 := hz.frozen 1
          have q2 := hz.cell 2; have r2 := hz.frozen 2
          have q3 := hz.cell 3; have r3 := hz.frozen 3
          have q4 := hz.cell 4; have r4 := hz.frozen 4
          have q5 := hz.cell 5; have r5 := hz.frozen 5
          have q6 := hz.cell 6; have r6 := hz.frozen 6
          have q7 := hz.cell 7; have r7 := hz.frozen 7
          have q8 := hz.cell 8; have r8 := hz.frozen 8
          have q9 := hz.cell 9; have r9 := hz.frozen 9
          simp only [List.getElem?_toArray, List.getElem?_cons_zero, List.getElem?_cons_succ] at q0 q1 q2 q3 q4 q5 q6 q7 q8 q9
          go_simp
          have hp := put10 hz (.slice pA0 pk0 pc0) (.slice pA1 pk1 pc1) (.slice pA2 pk2 pc2) (.slice pA3 pk3 pc3) (.slice pA4 pk4 pc4) (.int .i64 L.speed) (.int .i64 L.mute) (.int .i64 L.wait) (.int .i64 L.cancel) (.int .i64 L.stay)
          clear hz q0 r0 q1 r1 q2 r2 q3 r3 q4 r4 q5 r5 q6 r6 q7 r7 q8 r8 q9 r9
          have ne0 : g0 ≠ n7 := Row.ne HR0U51.out HN7U51.out (by decide)
          have ne1 : g1 ≠ n7 := Row.ne HR1U51.out HN7U51.out (by decide)
          have k0 := Lib.hid (hp.2.2.row HR0U51.out (by simpa using ne0)); have k1 := Lib.hid (hp.2.2.row HR1U51.out (by simpa using ne1))
          have k7 := Lib.hid hp.1; have k8 := Lib.hid (hp.2.2.row HN8U51.out (by simpa using HNE.out.symm))
          have kv1 := Lib.hid (HV1U51.out.kept hp.2.2 (other_one HN7U51.out)); have kv2 := Lib.hid (HV2U51.out.kept hp.2.2 (other_one HN7U51.out))
          have kb : Hid (Below w.heap.size w ((((((((((U51.setCell ⟨n7, 0, none⟩ (.slice pA0 pk0 pc0)).setCell ⟨n7, 1, none⟩ (.slice pA1 pk1 pc1)).setCell ⟨n7, 2, none⟩ (.slice pA2 pk2 pc2)).setCell ⟨n7, 3, none⟩ (.slice pA3 pk3 pc3)).setCell ⟨n7, 4, none⟩ (.slice pA4 pk4 pc4)).setCell ⟨n7, 5, none⟩ (.int .i64 L.speed)).setCell ⟨n7, 6, none⟩ (.int .i64 L.mute)).setCell ⟨n7, 7, none⟩ (.int .i64 L.wait)).setCell ⟨n7, 8, none⟩ (.int .i64 L.cancel)).setCell ⟨n7, 9, none⟩ (.int .i64 L.stay))) := HBU51.out.trans (hp.2.1.mono HG7.out)
          clear hp ne0 ne1
          clear HBU51 HR0U51 HR1U51 HV1U51 HV2U51 HN7U51 HN8U51
          generalize ((((((((((U51.setCell ⟨n7, 0, none⟩ (.slice pA0 pk0 pc0)).setCell ⟨n7, 1, none⟩ (.slice pA1 pk1 pc1)).setCell ⟨n7, 2, none⟩ (.slice pA2 pk2 pc2)).setCell ⟨n7, 3, none⟩ (.slice pA3 pk3 pc3)).setCell ⟨n7, 4, none⟩ (.slice pA4 pk4 pc4)).setCell ⟨n7, 5, none⟩ (.int .i64 L.speed)).setCell ⟨n7, 6, none⟩ (.int .i64 L.mute)).setCell ⟨n7, 7, none⟩ (.int .i64 L.wait)).setCell ⟨n7, 8, none⟩ (.int .i64 L.cancel)).setCell ⟨n7, 9, none⟩ (.int .i64 L.stay)) = U52 at *
          first | refine ⟨⟨k0.out, k1.out⟩, ?_⟩ | refine ⟨fun _ => ⟨k0.out, k1.out⟩, ?_⟩
          refine AnyBut.one 7 rfl (by kernel_rfl) (by rfl) ?_
          have hz := k8.out
          have q0 := hz.cell 0; have r0 := hz.frozen 0
          have q1 := hz.cell 1; have r1 := hz.frozen 1
          have q2 := hz.cell 2; have r2 := hz.frozen 2
          have q3 := hz.cell 3; have r3 := hz.frozen 3
          have q4 := hz.cell 4; have r4 := hz.frozen 4
          have q5 := hz.cell 5; have r5 := hz.frozen 5
          have q6 := hz.cell 6; have r6 := hz.frozen 6
          have q7 := hz.cell 7; have r7 := hz.frozen 7
          have q8 := hz.cell 8; have r8 := hz.frozen 8
          have q9 := hz.cell 9; have r9 := hz.frozen 9
          simp only [List.getElem?_toArray, List.getElem?_cons_zero, List.getElem?_cons_succ] at q0 q1 q2 q3 q4 q5 q6 q7 q8 q9
          go_simp
          have hp := put10 hz (.slice sA0 sk0 sc0) (.slice sA1 sk1 sc1) (.slice sA2 sk2 sc2) (.slice sA3 sk3 sc3) (.slice sA4 sk4 sc4) (.int .i64 M.speed) (.int .i64 M.mute) (.int .i64 M.wait) (.int .i64 M.cancel) (.int .i64 M.stay)
          clear hz q0 r0 q1 r1 q2 r2 q3 r3 q4 r4 q5 r5 q6 r6 q7 r7 q8 r8 q9 r9
          have ne0 : g0 ≠ n8 := Row.ne k0.out k8.out (by decide)
          have HX : Hid (Row ((((((((((U52.setCell ⟨n8, 0, none⟩ (.slice sA0 sk0 sc0)).setCell ⟨n8, 1, none⟩ (.slice sA1 sk1 sc1)).setCell ⟨n8, 2, none⟩ (.slice sA2 sk2 sc2)).setCell ⟨n8, 3, none⟩ (.slice sA3 sk3 sc3)).setCell ⟨n8, 4, none⟩ (.slice sA4 sk4 sc4)).setCell ⟨n8, 5, none⟩ (.int .i64 M.speed)).setCell ⟨n8, 6, none⟩ (.int .i64 M.mute)).setCell ⟨n8, 7, none⟩ (.int .i64 M.wait)).setCell ⟨n8, 8, none⟩ (.int .i64 M.cancel)).setCell ⟨n8, 9, none⟩ (.int .i64 M.stay)) n7 33 #[.slice pA0 pk0 pc0, .slice pA1 pk1 pc1, .slice pA2 pk2 pc2, .slice pA3 pk3 pc3, .slice pA4 pk4 pc4, .int .i64 L.speed, .int .i64 L.mute, .int .i64 L.wait, .int .i64 L.cancel, .int .i64 L.stay] ∧ Row ((((((((((U52.setCell ⟨n8, 0, none⟩ (.slice sA0 sk0 sc0)).setCell ⟨n8, 1, none⟩ (.slice sA1 sk1 sc1)).setCell ⟨n8, 2, none⟩ (.slice sA2 sk2 sc2)).setCell ⟨n8, 3, none⟩ (.slice sA3 sk3 sc3)).setCell ⟨n8, 4, none⟩ (.slice sA4 sk4 sc4)).setCell ⟨n8, 5, none⟩ (.int .i64 M.speed)).setCell ⟨n8, 6, none⟩ (.int .i64 M.mute)).setCell ⟨n8, 7, none⟩ (.int .i64 M.wait)).setCell ⟨n8, 8, none⟩ (.int .i64 M.cancel)).setCell ⟨n8, 9, none⟩ (.int .i64 M.stay)) n8 33 #[.slice sA0 sk0 sc0, .slice sA1 sk1 sc1, .slice sA2 sk2 sc2, .slice sA3 sk3 sc3, .slice sA4 sk4 sc4, .int .i64 M.speed, .int .i64 M.mute, .int .i64 M.wait, .int .i64 M.cancel, .int .i64 M.stay] ∧ Five ((((((((((U52.setCell ⟨n8, 0, none⟩ (.slice sA0 sk0 sc0)).setCell ⟨n8, 1, none⟩ (.slice sA1 sk1 sc1)).setCell ⟨n8, 2, none⟩ (.slice sA2 sk2 sc2)).setCell ⟨n8, 3, none⟩ (.slice sA3 sk3 sc3)).setCell ⟨n8, 4, none⟩ (.slice sA4 sk4 sc4)).setCell ⟨n8, 5, none⟩ (.int .i64 M.speed)).setCell ⟨n8, 6, none⟩ (.int .i64 M.mute)).setCell ⟨n8, 7, none⟩ (.int .i64 M.wait)).setCell ⟨n8, 8, none⟩ (.int .i64 M.cancel)).setCell ⟨n8, 9, none⟩ (.int .i64 M.stay)) (.slice pA0 pk0 pc0) (.slice pA1 pk1 pc1) (.slice pA2 pk2 pc2) (.slice pA3 pk3 pc3) (.slice pA4 pk4 pc4) L ∧ Five ((((((((((U52.setCell ⟨n8, 0, none⟩ (.slice sA0 sk0 sc0)).setCell ⟨n8, 1, none⟩ (.slice sA1 sk1 sc1)).setCell ⟨n8, 2, none⟩ (.slice sA2 sk2 sc2)).setCell ⟨n8, 3, none⟩ (.slice sA3 sk3 sc3)).setCell ⟨n8, 4, none⟩ (.slice sA4 sk4 sc4)).setCell ⟨n8, 5, none⟩ (.int .i64 M.speed)).setCell ⟨n8, 6, none⟩ (.int .i64 M.mute)).setCell ⟨n8, 7, none⟩ (.int .i64 M.wait)).setCell ⟨n8, 8, none⟩ (.int .i64 M.cancel)).setCell ⟨n8, 9, none⟩ (.int .i64 M.stay)) (.slice sA0 sk0 sc0) (.slice sA1 sk1 sc1) (.slice sA2 sk2 sc2) (.slice sA3 sk3 sc3) (.slice sA4 sk4 sc4) M ∧ Row ((((((((((U52.setCell ⟨n8, 0, none⟩ (.slice sA0 sk0 sc0)).setCell ⟨n8, 1, none⟩ (.slice sA1 sk1 sc1)).setCell ⟨n8, 2, none⟩ (.slice sA2 sk2 sc2)).setCell ⟨n8, 3, none⟩ (.slice sA3 sk3 sc3)).setCell ⟨n8, 4, none⟩ (.slice sA4 sk4 sc4)).setCell ⟨n8, 5, none⟩ (.int .i64 M.speed)).setCell ⟨n8, 6, none⟩ (.int .i64 M.mute)).setCell ⟨n8, 7, none⟩ (.int .i64 M.wait)).setCell ⟨n8, 8, none⟩ (.int .i64 M.cancel)).setCell ⟨n8, 9, none⟩ (.int .i64 M.stay)) g0 25 #[.int .u8 (d0.form : Int), .int .u8 (d0.len : Int), .int .u8 (d0.speed : Int), .int .u16 (d0.mute : Int), .int .u16 (d0.wait : Int), .int .u8 (d0.cancel : Int), .int .u8 (d0.stay : Int), .int .u8 (d0.join : Int), .slice rA0 rk0 rc0] ∧ Below w.heap.size w ((((((((((U52.setCell ⟨n8, 0, none⟩ (.slice sA0 sk0 sc0)).setCell ⟨n8, 1, none⟩ (.slice sA1 sk1 sc1)).setCell ⟨n8, 2, none⟩ (.slice sA2 sk2 sc2)).setCell ⟨n8, 3, none⟩ (.slice sA3 sk3 sc3)).setCell ⟨n8, 4, none⟩ (.slice sA4 sk4 sc4)).setCell ⟨n8, 5, none⟩ (.int .i64 M.speed)).setCell ⟨n8, 6, none⟩ (.int .i64 M.mute)).setCell ⟨n8, 7, none⟩ (.int .i64 M.wait)).setCell ⟨n8, 8, none⟩ (.int .i64 M.cancel)).setCell ⟨n8, 9, none⟩ (.int .i64 M.stay))) :=
            ⟨hp.2.2.row k7.out (by simpa using HNE.out), hp.1, kv1.out.kept hp.2.2 (other_one k8.out), kv2.out.kept hp.2.2 (other_one k8.out), hp.2.2.row k0.out (by simpa using ne0), kb.out.trans (hp.2.1.mono HG8.out)⟩
          clear hp ne0 k0 k1 k7 k8 kv1 kv2 kb
          generalize ((((((((((U52.setCell ⟨n8, 0, none⟩ (.slice sA0 sk0 sc0)).setCell ⟨n8, 1, none⟩ (.slice sA1 sk1 sc1)).setCell ⟨n8, 2, none⟩ (.slice sA2 sk2 sc2)).setCell ⟨n8, 3, none⟩ (.slice sA3 sk3 sc3)).setCell ⟨n8, 4, none⟩ (.slice sA4 sk4 sc4)).setCell ⟨n8, 5, none⟩ (.int .i64 M.speed)).setCell ⟨n8, 6, none⟩ (.int .i64 M.mute)).setCell ⟨n8, 7, none⟩ (.int .i64 M.wait)).setCell ⟨n8, 8, none⟩ (.int .i64 M.cancel)).setCell ⟨n8, 9, none⟩ (.int .i64 M.stay)) = U53 at *
          refine AnyBut.done (by kernel_rfl) ?_
          go_wp2_with fail
          go_meet
          case rel => exact ⟨n7, n8, pA0, pk0, pc0, pA1, pk1, pc1, pA2, pk2, pc2, pA3, pk3, pc3, pA4, pk4, pc4, sA0, sk0, sc0, sA1, sk1, sc1, sA2, sk2, sc2, sA3, sk3, sc3, sA4, sk4, sc4, rfl, rfl, HX⟩
      · go_simp
        have hb := (Below.refl U44.heap.size U44).alloc (Nat.le_refl _) (.cells #[.slice none 0 0, .slice none 0 0, .slice none 0 0, .slice none 0 0, .slice none 0 0, .int .i64 0, .int .i64 0, .int .i64 0, .int .i64 0, .int .i64 0] 33)
        have HBU54 := Lib.hid (HBU44.out.trans (hb.mono HBU44.out.size))
        have HR0U54 := Lib.hid (Below.row hb HR0U44.out HR0U44.out.lt)
        have HR1U54 := Lib.hid (Below.row hb HR1U44.out HR1U44.out.lt)
        have HN8U54 := Lib.hid (Below.row hb HN8U44.out HN8U44.out.lt)
        have HN7U54 := Lib.hid (Row.new U44 33 #[.slice none 0 0, .slice none 0 0, .slice none 0 0, .slice none 0 0, .slice none 0 0, .int .i64 0, .int .i64 0, .int .i64 0, .int .i64 0, .int .i64 0])
        have HG7 : Hid (w.heap.size ≤ U44.heap.size) := HBU44.out.size
        have HNE : Hid (U44.heap.size ≠ n8) := by show _ ≠ _; have := HN8U44.out.lt; omega
        clear hb
        clear HBU44 HR0U44 HR1U44 HN8U44
        obtain ⟨n7, hn7⟩ : ∃ x, x = U44.heap.size := ⟨_, rfl⟩
        rw [← hn7] at HN7U54 HG7 HNE ⊢
        clear hn7
        generalize U44.alloc (.cells #[.slice none 0 0, .slice none 0 0, .slice none 0 0, .slice none 0 0, .slice none 0 0, .int .i64 0, .int .i64 0, .int .i64 0, .int .i64 0, .int .i64 0] 33) = U54 at *
        first | refine ⟨⟨HR0U54.out, HR1U54.out⟩, ?_⟩ | refine ⟨fun _ => ⟨HR0U54.out, HR1U54.out⟩, ?_⟩
        refine AnyBut.one 1 rfl (by kernel_rfl) (by rfl) ?_
        go_simp
        refine (roughO_any U54 d0 _ HDK0.out (HD0.out U54 HBU54.out) HS0.out).mono ?_
        rintro e U55 ⟨vN, vS, vP, vQ, vR, rfl, hF, -, hb⟩
        rw [HMM.out] at hF ⊢
        obtain ⟨⟨pA0, pk0, pc0, rfl⟩, ⟨pA1, pk1, pc1, rfl⟩, ⟨pA2, pk2, pc2, rfl⟩, ⟨pA3, pk3, pc3, rfl⟩, ⟨pA4, pk4, pc4, rfl⟩⟩ := five_slices hF
        have HBU55 := Lib.hid (HBU54.out.trans (hb.mono HBU54.out.size))
        have HR0U55 := Lib.hid (Below.row hb HR0U54.out HR0U54.out.lt)
        have HR1U55 := Lib.hid (Below.row hb HR1U54.out HR1U54.out.lt)
        have HN7U55 := Lib.hid (Below.row hb HN7U54.out HN7U54.out.lt)
        have HN8U55 := Lib.hid (Below.row hb HN8U54.out HN8U54.out.lt)
        have HV1U55 := Lib.hid hF
        clear hb hF
        clear HBU54 HR0U54 HR1U54 HN7U54 HN8U54
        first | refine ⟨⟨HR0U55.out, HR1U55.out⟩, ?_⟩ | refine ⟨fun _ => ⟨HR0U55.out, HR1U55.out⟩, ?_⟩
        refine AnyBut.one 3 rfl (by kernel_rfl) (by rfl) ?_
        go_simp
        refine (roughO_any U55 d1 _ HDK1.out (HD1.out U55 HBU55.out) HS1.out).mono ?_
        rintro e U56 ⟨vN, vS, vP, vQ, vR, rfl, hF, -, hb⟩
        rw [HNN.out] at hF ⊢
        obtain ⟨⟨sA0, sk0, sc0, rfl⟩, ⟨sA1, sk1, sc1, rfl⟩, ⟨sA2, sk2, sc2, rfl⟩, ⟨sA3, sk3, sc3, rfl⟩, ⟨sA4, sk4, sc4, rfl⟩⟩ := five_slices hF
        have HBU56 := Lib.hid (HBU55.out.trans (hb.mono HBU55.out.size))
        have HR0U56 := Lib.hid (Below.row hb HR0U55.out HR0U55.out.lt)
        have HR1U56 := Lib.hid (Below.row hb HR1U55.out HR1U55.out.lt)
        have HV1U56 := Lib.hid (five_up HV1U55.out hb)
        have HN7U56 := Lib.hid (Below.row hb HN7U55.out HN7U55.out.lt)
        have HN8U56 := Lib.hid (Below.row hb HN8U55.out HN8U55.out.lt)
        have HV2U56 := Lib.hid hF
        clear hb hF
        clear HBU55 HR0U55 HR1U55 HV1U55 HN7U55 HN8U55
        first | refine ⟨⟨HR0U56.out, HR1U56.out⟩, ?_⟩ | refine ⟨fun _ => ⟨HR0U56.out, HR1U56.out⟩, ?_⟩
        refine AnyBut.one 6 rfl (by kernel_rfl) (by rfl) ?_
        have hz := HN7U56.out
        have q0 := hz.cell 0; have r0 := hz.frozen 0
        have q1 := hz.cell 1; have r1 := hz.frozen 1
        have q2 := hz.cell 2; have r2 := hz.frozen 2
        have q3 := hz.cell 3; have r3 := hz.frozen 3
        have q4 := hz.cell 4; have r4 := hz.frozen 4
        have q5 := hz.cell 5; have r5 := hz.frozen 5
        have q6 := hz.cell 6; have r6 := hz.frozen 6
        have q7 := hz.cell 7; have r7 := hz.frozen 7
        have q8 := hz.cell 8; have r8 := hz.frozen 8
        have q9 := hz.cell 9; have r9 := hz.frozen 9
        simp only [List.getElem?_toArray, List.getElem?_cons_zero, List.getElem?_cons_succ] at q0 q1 q2 q3 q4 q5 q6 q7 q8 q9
        go_simp
        have hp := put10 hz (.slice pA0 pk0 pc0) (.slice pA1 pk1 pc1) (.slice pA2 pk2 pc2) (.slice pA3 pk3 pc3) (.slice pA4 pk4 pc4) (.int .i64 L.speed) (.int .i64 L.mute) (.int .i64 L.wait) (.int .i64 L.cancel) (.int .i64 L.stay)
        clear hz q0 r0 q1 r1 q2 r2 q3 r3 q4 r4 q5 r5 q6 r6 q7 r7 q8 r8 q9 r9
        have ne0 : g0 ≠ n7 := Row.ne HR0U56.out HN7U56.out (by decide)
        have ne1 : g1 ≠ n7 := Row.ne HR1U56.out HN7U56.out (by decide)
        have k0 := Lib.hid (hp.2.2.row HR0U56.out (by simpa using ne0)); have k1 := Lib.hid (hp.2.2.row HR1U56.out (by simpa using ne1))
        have k7 := Lib.hid hp.1; have k8 := Lib.hid (hp.2.2.row HN8U56.out (by simpa using HNE.out.symm))
        have kv1 := Lib.hid (HV1U56.out.kept hp.2.2 (other_one HN7U56.out)); have kv2 := Lib.hid (HV2U56.out.kept hp.2.2 (other_one HN7U56.out))
        have kb : Hid (Below w.heap.size w ((((((((((U56.setCell ⟨n7, 0, none⟩ (.slice pA0 pk0 pc0)).setCell ⟨n7, 1, none⟩ (.slice pA1 pk1 pc1)).setCell ⟨n7, 2, none⟩ (.slice pA2 pk2 pc2)).setCell ⟨n7, 3, none⟩ (.slice pA3 pk3 pc3)).setCell ⟨n7, 4, none⟩ (.slice pA4 pk4 pc4)).setCell ⟨n7, 5, none⟩ (.int .i64 L.speed)).setCell ⟨n7, 6, none⟩ (.int .i64 L.mute)).setCell ⟨n7, 7, none⟩ (.int .i64 L.wait)).setCell ⟨n7, 8, none⟩ (.int .i64 L.cancel)).setCell ⟨n7, 9, none⟩ (.int .i64 L.stay))) := HBU56.out.trans (hp.2.1.mono HG7.out)
        clear hp ne0 ne1
        clear HBU56 HR0U56 HR1U56 HV1U56 HV2U56 HN7U56 HN8U56
        generalize ((((((((((U56.setCell ⟨n7, 0, none⟩ (.slice pA0 pk0 pc0)).setCell ⟨n7, 1, none⟩ (.slice pA1 pk1 pc1)).setCell ⟨n7, 2, none⟩ (.slice pA2 pk2 pc2)).setCell ⟨n7, 3, none⟩ (.slice pA3 pk3 pc3)).setCell ⟨n7, 4, none⟩ (.slice pA4 pk4 pc4)).setCell ⟨n7, 5, none⟩ (.int .i64 L.speed)).setCell ⟨n7, 6, none⟩ (.int .i64 L.mute)).setCell ⟨n7, 7, none⟩ (.int .i64 L.wait)).setCell ⟨n7, 8, none⟩ (.int .i64 L.cancel)).setCell ⟨n7, 9, none⟩ (.int .i64 L.stay)) = U57 at *
        first | refine ⟨⟨k0.out, k1.out⟩, ?_⟩ | refine ⟨fun _ => ⟨k0.out, k1.out⟩, ?_⟩
        refine AnyBut.one 7 rfl (by kernel_rfl) (by rfl) ?_
        have hz := k8.out
        have q0 := hz.cell 0; have r0 := hz.frozen 0
        have q1 := hz.cell 1; have r1 := hz.frozen 1
        have q2 := hz.cell 2; have r2 := hz.frozen 2
        have q3 := hz.cell 3; have r3 := hz.frozen 3
        have q4 := hz.cell 4; have r4 := hz.frozen 4
        have q5 := hz.cell 5; have r5 := hz.frozen 5
        have q6 := hz.cell 6; have r6 := hz.frozen 6
        have q7 := hz.cell 7; have r7 := hz.frozen 7
        have q8 := hz.cell 8; have r8 := hz.frozen 8
        have q9 := hz.cell 9; have r9 := hz.frozen 9
        simp only [List.getElem?_toArray, List.getElem?_cons_zero, List.getElem?_cons_succ] at q0 q1 q2 q3 q4 q5 q6 q7 q8 q9
        go_simp
        have hp := put10 hz (.slice sA0 sk0 sc0) (.slice sA1 sk1 sc1) (.slice sA2 sk2 sc2) (.slice sA3 sk3 sc3) (.slice sA4 sk4 sc4) (.int .i64 M.speed) (.int .i64 M.mute) (.int .i64 M.wait) (.int .i64 M.cancel) (.int .i64 M.stay)
        clear hz q0 r0 q1 r1 q2 r2 q3 r3 q4 r4 q5 r5 q6 r6 q7 r7 q8 r8 q9 r9
        have ne0 : g0 ≠ n8 := Row.ne k0.out k8.out (by decide)
        have HX : Hid (Row ((((((((((U57.setCell ⟨n8, 0, none⟩ (.slice sA0 sk0 sc0)).setCell ⟨n8, 1, none⟩ (.slice sA1 sk1 sc1)).setCell ⟨n8, 2, none⟩ (.slice sA2 sk2 sc2)).setCell ⟨n8, 3, none⟩ (.slice sA3 sk3 sc3)).setCell ⟨n8, 4, none⟩ (.slice sA4 sk4 sc4)).setCell ⟨n8, 5, none⟩ (.int .i64 M.speed)).setCell ⟨n8, 6, none⟩ (.int .i64 M.mute)).setCell ⟨n8, 7, none⟩ (.int .i64 M.wait)).setCell ⟨n8, 8, none⟩ (.int .i64 M.cancel)).setCell ⟨n8, 9, none⟩ (.int .i64 M.stay)) n7 33 #[.slice pA0 pk0 pc0, .slice pA1 pk1 pc1, .slice pA2 pk2 pc2, .slice pA3 pk3 pc3, .slice pA4 pk4 pc4, .int .i64 L.speed, .int .i64 L.mute, .int .i64 L.wait, .int .i64 L.cancel, .int .i64 L.stay] ∧ Row ((((((((((U57.setCell ⟨n8, 0, none⟩ (.slice sA0 sk0 sc0)).setCell ⟨n8, 1, none⟩ (.slice sA1 sk1 sc1)).setCell ⟨n8, 2, none⟩ (.slice sA2 sk2 sc2)).setCell ⟨n8, 3, none⟩ (.slice sA3 sk3 sc3)).setCell ⟨n8, 4, none⟩ (.slice sA4 sk4 sc4)).setCell ⟨n8, 5, none⟩ (.int .i64 M.speed)).setCell ⟨n8, 6, none⟩ (.int .i64 M.mute)).setCell ⟨n8, 7, none⟩ (.int .i64 M.wait)).setCell ⟨n8, 8, none⟩ (.int .i64 M.cancel)).setCell ⟨n8, 9, none⟩ (.int .i64 M.stay)) n8 33 #[.slice sA0 sk0 sc0, .slice sA1 sk1 sc1, .slice sA2 sk2 sc2, .slice sA3 sk3 sc3, .slice sA4 sk4 sc4, .int .i64 M.speed, .int .i64 M.mute, .int .i64 M.wait, .int .i64 M.cancel, .int .i64 M.stay] ∧ Five ((((((((((U57.setCell ⟨n8, 0, none⟩ (.slice sA0 sk0 sc0)).setCell ⟨n8, 1, none⟩ (.slice sA1 sk1 sc1)).setCell ⟨n8, 2, none⟩ (.slice sA2 sk2 sc2)).setCell ⟨n8, 3, none⟩ (.slice sA3 sk3 sc3)).setCell ⟨n8, 4, none⟩ (.slice sA4 sk4 sc4)).setCell ⟨n8, 5, none⟩ (.int .i64 M.speed)).setCell ⟨n8, 6, none⟩ (.int .i64 M.mute)).setCell ⟨n8, 7, none⟩ (.int .i64 M.wait)).setCell ⟨n8, 8, none⟩ (.int .i64 M.cancel)).setCell ⟨n8, 9, none⟩ (.int .i64 M.stay)) (.slice pA0 pk0 pc0) (.slice pA1 pk1 pc1) (.slice pA2 pk2 pc2) (.slice pA3 pk3 pc3) (.slice pA4 pk4 pc4) L ∧ Five ((((((((((U57.setCell ⟨n8, 0, none⟩ (.slice sA0 sk0 sc0)).setCell ⟨n8, 1, none⟩ (.slice sA1 sk1 sc1)).setCell ⟨n8, 2, none⟩ (.slice sA2 sk2 sc2)).setCell ⟨n8, 3, none⟩ (.slice sA3 sk3 sc3)).setCell ⟨n8, 4, none⟩ (.slice sA4 sk4 sc4)).setCell ⟨n8, 5, none⟩ (.int .i64 M.speed)).setCell ⟨n8, 6, none⟩ (.int .i64 M.mute)).setCell ⟨n8, 7, none⟩ (.int .i64 M.wait)).setCell ⟨n8, 8, none⟩ (.int .i64 M.cancel)).setCell ⟨n8, 9, none⟩ (.int .i64 M.stay)) (.slice sA0 sk0 sc0) (.slice sA1 sk1 sc1) (.slice sA2 sk2 sc2) (.slice sA3 sk3 sc3) (.slice sA4 sk4 sc4) M ∧ Row ((((((((((U57.setCell ⟨n8, 0, none⟩ (.slice sA0 sk0 sc0)).setCell ⟨n8, 1, none⟩ (.slice sA1 sk1 sc1)).setCell ⟨n8, 2, none⟩ (.slice sA2 sk2 sc2)).setCell ⟨n8, 3, none⟩ (.slice sA3 sk3 sc3)).setCell ⟨n8, 4, none⟩ (.slice sA4 sk4 sc4)).setCell ⟨n8, 5, none⟩ (.int .i64 M.speed)).setCell ⟨n8, 6, none⟩ (.int .i64 M.mute)).setCell ⟨n8, 7, none⟩ (.int .i64 M.wait)).setCell ⟨n8, 8, none⟩ (.int .i64 M.cancel)).setCell ⟨n8, 9, none⟩ (.int .i64 M.stay)) g0 25 #[.int .u8 (d0.form : Int), .int .u8 (d0.len : Int), .int .u8 (d0.speed : Int), .int .u16 (d0.mute : Int), .int .u16 (d0.wait : Int), .int .u8 (d0.cancel : Int), .int .u8 (d0.stay : Int), .int .u8 (d0.join : Int), .slice rA0 rk0 rc0] ∧ Below w.heap.size w ((((((((((U57.setCell ⟨n8, 0, none⟩ (.slice sA0 sk0 sc0)).setCell ⟨n8, 1, none⟩ (.slice sA1 sk1 sc1)).setCell ⟨n8, 2, none⟩ (.slice sA2 sk2 sc2)).setCell ⟨n8, 3, none⟩ (.slice sA3 sk3 sc3)).setCell ⟨n8, 4, none⟩ (.slice sA4 sk4 sc4)).setCell ⟨n8, 5, none⟩ (.int .i64 M.speed)).setCell ⟨n8, 6, none⟩ (.int .i64 M.mute)).setCell ⟨n8, 7, none⟩ (.int .i64 M.wait)).setCell ⟨n8, 8, none⟩ (.int .i64 M.cancel)).setCell ⟨n8, 9, none⟩ (.int .i64 M.stay))) :=
          ⟨hp.2.2.row k7.out (by simpa using HNE.out), hp.1, kv1.out.kept hp.2.2 (other_one k8.out), kv2.out.kept hp.2.2 (other_one k8.out), hp.2.2.row k0.out (by simpa using ne0), kb.out.trans (hp.2.1.mono HG8.out)⟩
        clear hp ne0 k0 k1 k7 k8 kv1 kv2 kb
        generalize ((((((((((U57.setCell ⟨n8, 0, none⟩ (.slice sA0 sk0 sc0)).setCell ⟨n8, 1, none⟩ (.slice sA1 sk1 sc1)).setCell ⟨n8, 2, none⟩ (.slice sA2 sk2 sc2)).setCell ⟨n8, 3, none⟩ (.slice sA3 sk3 sc3)).setCell ⟨n8, 4, none⟩ (.slice sA4 sk4 sc4)).setCell ⟨n8, 5, none⟩ (.int .i64 M.speed)).setCell ⟨n8, 6, none⟩ (.int .i64 M.mute)).setCell ⟨n8, 7, none⟩ (.int .i64 M.wait)).setCell ⟨n8, 8, none⟩ (.int .i64 M.cancel)).setCell ⟨n8, 9, none⟩ (.int .i64 M.stay)) = U58 at *
        refine AnyBut.done (by kernel_rfl) ?_
        go_wp2_with fail
        go_meet
        case rel => exact ⟨n7, n8, pA0, pk0, pc0, pA1, pk1, pc1, pA2, pk2, pc2, pA3, pk3, pc3, pA4, pk4, pc4, sA0, sk0, sc0, sA1, sk1, sc1, sA2, sk2, sc2, sA3, sk3, sc3, sA4, sk4, sc4, rfl, rfl, HX⟩
  case rest =>
  obtain ⟨n7, n8, pA0, pk0, pc0, pA1, pk1, pc1, pA2, pk2, pc2, pA3, pk3, pc3, pA4, pk4, pc4, sA0, sk0, sc0, sA1, sk1, sc1, sA2, sk2, sc2, sA3, sk3, sc3, sA4, sk4, sc4, rfl, rfl, HC⟩ := hcut
  obtain ⟨W1, hW1⟩ : ∃ x, x = wc := ⟨_, rfl⟩
  subst hW1
  have f0 := HC.out.2.2.2.2.1.cell 0
  have f1 := HC.out.2.2.2.2.1.cell 1
  have f2 := HC.out.2.2.2.2.1.cell 2
  have f3 := HC.out.2.2.2.2.1.cell 3
  have f4 := HC.out.2.2.2.2.1.cell 4
  have f5 := HC.out.2.2.2.2.1.cell 5
  have f6 := HC.out.2.2.2.2.1.cell 6
  have f7 := HC.out.2.2.2.2.1.cell 7
  have f8 := HC.out.2.2.2.2.1.cell 8
  simp only [List.getElem?_toArray, List.getElem?_cons_zero, List.getElem?_cons_succ] at f0 f1 f2 f3 f4 f5 f6 f7 f8
  go_wp2_with fail
  refine (roughO_any W1 d0 _ HDK0.out (HD0.out W1 HC.out.2.2.2.2.2) HS0.out).mono ?_
  rintro e W2 ⟨vN, vS, vP, vQ, vR, rfl, hF, hO, hb⟩
  rw [HMM.out] at hF hO ⊢
  have HSN : Hid (0 < L.secs.length) := by
    rw [← HMM.out]
    show 0 < (makeSecs d0 (makeEnds d0) (makeEnds d0).length).length
    rw [makeSecs_len]
    have := makeEnds_len d0
    omega
  obtain ⟨⟨xA0, xk0, xc0, rfl⟩, ⟨xA1, xk1, xc1, rfl⟩, ⟨xA2, xk2, xc2, rfl⟩, ⟨xA3, xk3, xc3, rfl⟩, ⟨xA4, xk4, xc4, rfl⟩⟩ := five_slices hF
  have hb3 := (Below.refl W2.heap.size W2).alloc (Nat.le_refl _) (.cells #[.slice xA0 xk0 xc0, .slice xA1 xk1 xc1, .slice xA2 xk2 xc2, .slice xA3 xk3 xc3, .slice xA4 xk4 xc4, .int .i64 L.speed, .int .i64 L.mute, .int .i64 L.wait, .int .i64 L.cancel, .int .i64 L.stay] 33)
  have HBW := Lib.hid (hb.trans (hb3.mono hb.size))
  have HR9 := Lib.hid (Row.new W2 33 #[.slice xA0 xk0 xc0, .slice xA1 xk1 xc1, .slice xA2 xk2 xc2, .slice xA3 xk3 xc3, .slice xA4 xk4 xc4, .int .i64 L.speed, .int .i64 L.mute, .int .i64 L.wait, .int .i64 L.cancel, .int .i64 L.stay])
  have HF9 := Lib.hid (five_up hF hb3)
  have HO9 := Lib.hid (hO.kept (KeptL.of_below (S := []) hb3) (fun k hk => by simp at hk))
  have HG9 : Hid (W1.heap.size ≤ W2.heap.size) := hb.size
  clear f0 f1 f2 f3 f4 f5 f6 f7 f8
  clear hb hb3 hF hO HD0 HD1 HDK0 HDK1 HMM HNN HL0 HL1 HS0 HS1
  go_upto_region 5 with (fail)
  obtain ⟨n9, hn9⟩ : ∃ x, x = W2.heap.size := ⟨_, rfl⟩
  rw [← hn9] at HR9 HG9 ⊢
  clear hn9
  generalize W2.alloc (.cells #[.slice xA0 xk0 xc0, .slice xA1 xk1 xc1, .slice xA2 xk2 xc2, .slice xA3 xk3 xc3, .slice xA4 xk4 xc4, .int .i64 L.speed, .int .i64 L.mute, .int .i64 L.wait, .int .i64 L.cancel, .int .i64 L.stay] 33) = W3 at *
  obtain ⟨sp0, sp1⟩ : 0 ≤ L.speed ∧ L.speed < 65536 := by
    have h : low 16 L.speed = L.speed := congrArg Lay.speed HLOW.out
    unfold low at h; omega
  obtain ⟨st0, st1⟩ : 0 ≤ L.stay ∧ L.stay < 65536 := by
    have h : low 16 L.stay = L.stay := congrArg Lay.stay HLOW.out
    unfold low at h; omega
  obtain ⟨i4, hi4, hz40, hz41, hz42⟩ := info_parts Try.info47
  obtain ⟨r, hr⟩ : ∃ r : Nat, (a2n : Int) % 6 = (r : Int) := ⟨a2n % 6, by omega⟩
  have hr6 : r < 6 := by omega
  have hrt : (a2n : Int).tmod 6 = (r : Int) := by rw [Int.tmod_eq_emod_of_nonneg (by omega)]; exact hr
  go_upto_block 0 with fail
  go_cut [37] (fun _ wx => ∃ X yA0 yk0 yc0 yA1 yk1 yc1 yA2 yk2 yc2 yA3 yk3 yc3 yA4 yk4 yc4, Hid (Row wx n9 33 #[.slice yA0 yk0 yc0, .slice yA1 yk1 yc1, .slice yA2 yk2 yc2, .slice yA3 yk3 yc3, .slice yA4 yk4 yc4, .int .i64 X.speed, .int .i64 X.mute, .int .i64 X.wait, .int .i64 X.cancel, .int .i64 X.stay] ∧ Five wx (.slice yA0 yk0 yc0) (.slice yA1 yk1 yc1) (.slice yA2 yk2 yc2) (.slice yA3 yk3 yc3) (.slice yA4 yk4 yc4) X ∧ ¬ Alike L X ∧ Below W1.heap.size W1 wx))
  case first =>
    by_cases c0 : r = 0
    · subst c0
      have cc := HR9.out.cell 5; have zz := HR9.out.frozen 5
      simp only [List.getElem?_toArray, List.getElem?_cons_zero, List.getElem?_cons_succ] at cc
      have HX : Hid (Row (W3.setCell ⟨n9, 5, none⟩ (.int .i64 (L.speed + 1))) n9 33 #[.slice xA0 xk0 xc0, .slice xA1 xk1 xc1, .slice xA2 xk2 xc2, .slice xA3 xk3 xc3, .slice xA4 xk4 xc4, .int .i64 { L with speed := L.speed + 1 }.speed, .int .i64 { L with speed := L.speed + 1 }.mute, .int .i64 { L with speed := L.speed + 1 }.wait, .int .i64 { L with speed := L.speed + 1 }.cancel, .int .i64 { L with speed := L.speed + 1 }.stay] ∧ Five (W3.setCell ⟨n9, 5, none⟩ (.int .i64 (L.speed + 1))) (.slice xA0 xk0 xc0) (.slice xA1 xk1 xc1) (.slice xA2 xk2 xc2) (.slice xA3 xk3 xc3) (.slice xA4 xk4 xc4) { L with speed := L.speed + 1 } ∧ ¬ Alike L { L with speed := L.speed + 1 } ∧ Below W1.heap.size W1 (W3.setCell ⟨n9, 5, none⟩ (.int .i64 (L.speed + 1)))) := by
        have hk : KeptL [n9] W3 (W3.setCell ⟨n9, 5, none⟩ (.int .i64 (L.speed + 1))) := (KeptL.refl [n9] W3).set (by simp) _
        have hf := HF9.out.kept hk (other_one HR9.out)
        refine ⟨HR9.out.set 5 _, ⟨hf.n, hf.s, hf.p, hf.q, hf.r⟩, fun h => ?_, HBW.out.setCell (p := ⟨n9, 5, none⟩) HG9.out _⟩
        have h1 : L.speed = L.speed + 1 := h.2.2.2.2.2.1
        omega
      clear HO9 HF9
      go_wp2_with fail
      go_meet
      case rel => exact ⟨{ L with speed := L.speed + 1 }, xA0, xk0, xc0, xA1, xk1, xc1, xA2, xk2, xc2, xA3, xk3, xc3, xA4, xk4, xc4, HX⟩
    by_cases c1 : r = 1
    · subst c1
      have cc := HR9.out.cell 9; have zz := HR9.out.frozen 9
      simp only [List.getElem?_toArray, List.getElem?_cons_zero, List.getElem?_cons_succ] at cc
      have HX : Hid (Row (W3.setCell ⟨n9, 9, none⟩ (.int .i64 (L.stay + 1))) n9 33 #[.slice xA0 xk0 xc0, .slice xA1 xk1 xc1, .slice xA2 xk2 xc2, .slice xA3 xk3 xc3, .slice xA4 xk4 xc4, .int .i64 { L with stay := L.stay + 1 }.speed, .int .i64 { L with stay := L.stay + 1 }.mute, .int .i64 { L with stay := L.stay + 1 }.wait, .int .i64 { L with stay := L.stay + 1 }.cancel, .int .i64 { L with stay := L.stay + 1 }.stay] ∧ Five (W3.setCell ⟨n9, 9, none⟩ (.int .i64 (L.stay + 1))) (.slice xA0 xk0 xc0) (.slice xA1 xk1 xc1) (.slice xA2 xk2 xc2) (.slice xA3 xk3 xc3) (.slice xA4 xk4 xc4) { L with stay := L.stay + 1 } ∧ ¬ Alike L { L with stay := L.stay + 1 } ∧ Below W1.heap.size W1 (W3.setCell ⟨n9, 9, none⟩ (.int .i64 (L.stay + 1)))) := by
        have hk : KeptL [n9] W3 (W3.setCell ⟨n9, 9, none⟩ (.int .i64 (L.stay + 1))) := (KeptL.refl [n9] W3).set (by simp) _
        have hf := HF9.out.kept hk (other_one HR9.out)
        refine ⟨HR9.out.set 9 _, ⟨hf.n, hf.s, hf.p, hf.q, hf.r⟩, fun h => ?_, HBW.out.setCell (p := ⟨n9, 9, none⟩) HG9.out _⟩
        have h1 : L.stay = L.stay + 1 := h.2.2.2.2.2.2.2.2.2
        omega
      clear HO9 HF9
      go_wp2_with fail
      go_meet
      case rel => exact ⟨{ L with stay := L.stay + 1 }, xA0, xk0, xc0, xA1, xk1, xc1, xA2, xk2, xc2, xA3, xk3, xc3, xA4, xk4, xc4, HX⟩
    by_cases c2 : r = 2
    · subst c2
      have cc := HR9.out.cell 0; have zz := HR9.out.frozen 0
      simp only [List.getElem?_toArray, List.getElem?_cons_zero] at cc
      obtain ⟨ps, hown, hfl⟩ := HO9.out
      obtain ⟨A', c', e0⟩ := own_slice hown
      injection e0 with e1 e2 e3
      rw [← e2] at hown
      have hnl : xk0 ≤ 1000 := by rw [e2]; exact HMOD.out.1.nodes
      have HO := Lib.hid hown; have HFL := Lib.hid hfl
      have hsz := HBW.out.size
      clear hown hfl e1 e2 e3 HO9
      go_wp2_with (at_builtin; refine wpList_append_own _ rfl (.tmp 52) (.tmp 53) 28 rfl W1.heap.size 47 i4 (.complex .f64 0 0) 1 16 Try.underlying28 hi4 hz40 hz41 hz42 rfl (by decide) _ _ _ rfl (HO.out.alloc _) ⟨W3.heap.size, 0, none⟩ 1 1 [.complex .f64 4617315517961601024 0] rfl rfl (one_new W3 47 _) (one_cell rfl) (by unfold maxLen; omega) (by omega) (by simp; omega) ?_)
      intro v6 V6 hown6 hgrow6 _
      rw [nvals_snoc] at hown6
      obtain ⟨A6, c6, hv6⟩ := own_slice hown6
      subst hv6
      have hba := (Below.refl W3.heap.size W3).alloc (Nat.le_refl _) (.cells #[.complex .f64 4617315517961601024 0] 47)
      have fa := five_up HF9.out hba
      have hgr := KeptL.of_grown hgrow6
      have oth := own_other (HO.out.alloc (.cells #[.complex .f64 4617315517961601024 0] 47))
      have r9 := (HR9.out.alloc (.cells #[.complex .f64 4617315517961601024 0] 47)).grown hgrow6 (own_ne (HO.out.alloc (.cells #[.complex .f64 4617315517961601024 0] 47)) (HR9.out.alloc (.cells #[.complex .f64 4617315517961601024 0] 47)) (by decide))
      have bl6 : Below W1.heap.size W1 V6 := (HBW.out.alloc hsz _).grown hgrow6 (by simp; omega) (fun k hk => (HO.out.lt k hk).1)
      have h5 : Fl 0 4617315517961601024 5 := by have := fl_ofInt 5 (by decide); rwa [show floatOfInt .f64 5 = 4617315517961601024 from by decide +kernel] at this
      have h0 : Fl 0 0 0 := by have := fl_ofInt 0 (by decide); rwa [show floatOfInt .f64 0 = 0 from by decide +kernel] at this
      have HX : Hid (Row (V6.setCell ⟨n9, 0, none⟩ (.slice A6 (xk0 + 1) c6)) n9 33 #[.slice A6 (xk0 + 1) c6, .slice xA1 xk1 xc1, .slice xA2 xk2 xc2, .slice xA3 xk3 xc3, .slice xA4 xk4 xc4, .int .i64 L.speed, .int .i64 L.mute, .int .i64 L.wait, .int .i64 L.cancel, .int .i64 L.stay] ∧ Five (V6.setCell ⟨n9, 0, none⟩ (.slice A6 (xk0 + 1) c6)) (.slice A6 (xk0 + 1) c6) (.slice xA1 xk1 xc1) (.slice xA2 xk2 xc2) (.slice xA3 xk3 xc3) (.slice xA4 xk4 xc4) { L with nodes := L.nodes ++ [(5, 0)] } ∧ ¬ Alike L { L with nodes := L.nodes ++ [(5, 0)] } ∧ Below W1.heap.size W1 (V6.setCell ⟨n9, 0, none⟩ (.slice A6 (xk0 + 1) c6))) := by
        have hk : KeptL [n9] V6 (V6.setCell ⟨n9, 0, none⟩ (.slice A6 (xk0 + 1) c6)) := (KeptL.refl [n9] V6).set (by simp) _
        have o1 := other_one r9
        refine ⟨r9.set 0 _, ⟨⟨_, (Tl.of_own hown6).kept hk (o1 47 (by simp)), HFL.out.snoc (z := (5, 0)) h5 h0⟩, (fa.s.kept hgr (oth 50 (by decide))).kept hk (o1 50 (by simp)), (fa.p.kept hgr (oth 51 (by decide)) (oth 3 (by decide))).kept hk (o1 51 (by simp)) (o1 3 (by simp)), (fa.q.kept hgr (oth 53 (by decide))).kept hk (o1 53 (by simp)), (fa.r.kept hgr (oth 51 (by decide)) (oth 3 (by decide))).kept hk (o1 51 (by simp)) (o1 3 (by simp))⟩, fun h => ?_, bl6.setCell (p := ⟨n9, 0, none⟩) HG9.out _⟩
        have h1 := congrArg List.length h.1
        simp at h1
      have cc6 := r9.cell 0; have zz6 := r9.frozen 0
      simp only [List.getElem?_toArray, List.getElem?_cons_zero] at cc6
      clear hown6 hgrow6 hba fa hgr oth r9 bl6 h5 h0 cc zz HO HFL HF9
      go_wp2_with fail
      go_meet
      case rel => exact ⟨{ L with nodes := L.nodes ++ [(5, 0)] }, A6, (xk0 + 1), c6, xA1, xk1, xc1, xA2, xk2, xc2, xA3, xk3, xc3, xA4, xk4, xc4, HX⟩
    by_cases c3 : r = 3
    · subst c3
      have cc := HR9.out.cell 1; have zz := HR9.out.frozen 1
      simp only [List.getElem?_toArray, List.getElem?_cons_zero, List.getElem?_cons_succ] at cc
      obtain ⟨i5, hi5, hz50, hz51, hz52⟩ := info_parts Try.info50c
      have hsrc := secs_src HF9.out.s
      have hkl : xk1 ≤ 1000 := by rw [hsrc.1]; exact HMOD.out.1.secs
      have HSRC := Lib.hid hsrc.2
      have HLN : Hid ((scells L.secs).length = xk1 * 3 ∧ xk1 = L.secs.length) := ⟨by rw [scells_len, hsrc.1], hsrc.1⟩
      have hpos : 0 < xk1 := by rw [hsrc.1]; exact HSN.out
      obtain ⟨x, rest, hxr⟩ : ∃ x rest, L.secs = x :: rest := by
        cases e : L.secs with
        | nil => have h := HSN.out; rw [e] at h; exact absurd h (by simp)
        | cons x r => exact ⟨x, r, rfl⟩
      have HXR := Lib.hid hxr
      have HX1 : Hid (0 ≤ x.1 ∧ x.1 < 65536) := by
        have h : L.secs.map (fun s => (low 16 s.1, low 8 s.2.1, low 8 s.2.2)) = L.secs := congrArg Lay.secs HLOW.out
        rw [hxr, List.map_cons] at h
        injection h with h _
        have h1 : low 16 x.1 = x.1 := congrArg Prod.fst h
        unfold low at h1
        exact ⟨by omega, by omega⟩
      clear hsrc hxr
      go_wp2_with (at_builtin; refine app_src rfl (.const (.slice none 0 0)) (.tmp 59) 29 rfl W3.heap.size 50 i5 _ 3 24 Try.underlying29 hi5 hz50 hz51 hz52 rfl (by decide) _ 0 [] rfl (World.ownsRow_nil _ _ _ _) _ xk1 (scells L.secs) rfl HSRC.out HLN.out.1 (scells_one _) (by unfold maxLen; omega) (by omega) (Nat.le_refl _) ?_)
      intro v6 V6 hown6 hgrow6
      try rw [Nat.zero_add] at hown6
      try rw [List.nil_append] at hown6
      have hb6 : Below W3.heap.size W3 V6 := ⟨hgrow6.os, hgrow6.tape, hgrow6.output, hgrow6.size, fun k hk => hgrow6.block k hk (by simp [Value.ownBlock])⟩
      obtain ⟨g6, c6, cur, hv6, hg6, hh6, hfill⟩ : ∃ g cap cur, v6 = .slice (some ⟨g, 0, none⟩) xk1 cap ∧ W3.heap.size ≤ g ∧ Row V6 g 50 cur ∧ FillS cur L.secs := by
        rcases hown6.2 with ⟨_, h0⟩ | ⟨g, cap, cur, e, hg, hh, _, _, _, ht⟩
        · omega
        · obtain ⟨A', c', e', hx'⟩ := IsSecs.of_own hown6 HLN.out.2.symm
          obtain ⟨b, cur', fr, eA, hh', hfill⟩ := hx' HSN.out
          rw [e] at e'
          injection e' with e1 _ _
          rw [eA] at e1
          injection e1 with e1
          injection e1 with e1 _
          subst e1
          rw [hh] at hh'
          injection hh' with hh'
          injection hh' with hc _ _
          subst hc
          exact ⟨g, cap, cur, e, hg, hh, hfill⟩
      subst hv6
      have r9 := Below.row hb6 HR9.out HR9.out.lt
      have hn9 : n9 ≠ g6 := by have := HR9.out.lt; omega
      have cc6 := r9.cell 1; have zz6 := r9.frozen 1
      simp only [List.getElem?_toArray, List.getElem?_cons_zero, List.getElem?_cons_succ] at cc6
      have hk7 : KeptL [n9] V6 (V6.setCell ⟨n9, 1, none⟩ (.slice (some ⟨g6, 0, none⟩) xk1 c6)) := (KeptL.refl [n9] V6).set (by simp) _
      have HR7 : Hid (Row (V6.setCell ⟨n9, 1, none⟩ (.slice (some ⟨g6, 0, none⟩) xk1 c6)) n9 33 #[.slice xA0 xk0 xc0, .slice (some ⟨g6, 0, none⟩) xk1 c6, .slice xA2 xk2 xc2, .slice xA3 xk3 xc3, .slice xA4 xk4 xc4, .int .i64 L.speed, .int .i64 L.mute, .int .i64 L.wait, .int .i64 L.cancel, .int .i64 L.stay]) := r9.set 1 _
      have HR6 : Hid (Row (V6.setCell ⟨n9, 1, none⟩ (.slice (some ⟨g6, 0, none⟩) xk1 c6)) g6 50 cur) := hh6.far (p := ⟨n9, 1, none⟩) (fun e => hn9 e.symm) _
      have HF7 : Hid (Five (V6.setCell ⟨n9, 1, none⟩ (.slice (some ⟨g6, 0, none⟩) xk1 c6)) (.slice xA0 xk0 xc0) (.slice xA1 xk1 xc1) (.slice xA2 xk2 xc2) (.slice xA3 xk3 xc3) (.slice xA4 xk4 xc4) L) := (five_up HF9.out hb6).kept hk7 (other_one r9)
      have HB7 : Hid (Below W1.heap.size W1 (V6.setCell ⟨n9, 1, none⟩ (.slice (some ⟨g6, 0, none⟩) xk1 c6))) := (HBW.out.trans (hb6.mono HBW.out.size)).setCell (p := ⟨n9, 1, none⟩) HG9.out _
      have HGE : Hid (W1.heap.size ≤ g6) := Nat.le_trans HBW.out.size hg6
      have HFL : Hid (FillS cur (x :: rest)) := by rw [← HXR.out]; exact hfill
      clear hown6 hgrow6 hb6 hg6 hh6 hfill r9 hk7 HO9 HF9 HR9
      go_upto_region 15 with (fail)
      generalize (V6.setCell ⟨n9, 1, none⟩ (.slice (some ⟨g6, 0, none⟩) xk1 c6)) = V7 at *
      clear cc zz cc6 zz6
      have q1 := HR7.out.cell 1
      have q0 : V7.cell? ⟨g6, 0, none⟩ = some (.int .i64 x.1) := (HR6.out.cell 0).trans (by have h := (HFL.out 0 (by simp)).1; exact h)
      have z0 := HR6.out.frozen 0
      simp only [List.getElem?_toArray, List.getElem?_cons_zero, List.getElem?_cons_succ] at q1
      have hpI : (0 : Int) < (xk1 : Int) := by omega
      have hw : IntKind.i64.wrap (x.1 + 1) = x.1 + 1 := IntWalk.i64_in _ (by have := HX1.out; omega)
      have HX : Hid (Row (V7.setCell ⟨g6, 0, none⟩ (.int .i64 (x.1 + 1))) n9 33 #[.slice xA0 xk0 xc0, .slice (some ⟨g6, 0, none⟩) xk1 c6, .slice xA2 xk2 xc2, .slice xA3 xk3 xc3, .slice xA4 xk4 xc4, .int .i64 L.speed, .int .i64 L.mute, .int .i64 L.wait, .int .i64 L.cancel, .int .i64 L.stay] ∧ Five (V7.setCell ⟨g6, 0, none⟩ (.int .i64 (x.1 + 1))) (.slice xA0 xk0 xc0) (.slice (some ⟨g6, 0, none⟩) xk1 c6) (.slice xA2 xk2 xc2) (.slice xA3 xk3 xc3) (.slice xA4 xk4 xc4) { L with secs := (x.1 + 1, x.2) :: rest } ∧ ¬ Alike L { L with secs := (x.1 + 1, x.2) :: rest } ∧ Below W1.heap.size W1 (V7.setCell ⟨g6, 0, none⟩ (.int .i64 (x.1 + 1)))) := by
        have hk : KeptL [g6] V7 (V7.setCell ⟨g6, 0, none⟩ (.int .i64 (x.1 + 1))) := (KeptL.refl [g6] V7).set (by simp) _
        have o1 : ∀ t, t ≠ 50 → Other V7 t [g6] := fun t ht => Other.one HR6.out ht
        have h7 := HF7.out
        refine ⟨HR7.out.far (p := ⟨g6, 0, none⟩) hn9 _, ⟨h7.n.kept hk (o1 47 (by decide)), ⟨some ⟨g6, 0, none⟩, c6, ?_, fun _ => ⟨g6, _, (0, 0), rfl, HR6.out.set 0 _, HFL.out.head⟩⟩, h7.p.kept hk (o1 51 (by decide)) (o1 3 (by decide)), h7.q.kept hk (o1 53 (by decide)), h7.r.kept hk (o1 51 (by decide)) (o1 3 (by decide))⟩, fun h => ?_, HB7.out.setCell (p := ⟨g6, 0, none⟩) HGE.out _⟩
        · have e := HLN.out.2
          rw [HXR.out] at e
          rw [e]; rfl
        · have h1 : L.secs = (x.1 + 1, x.2) :: rest := h.2.1
          rw [HXR.out] at h1
          injection h1 with h1 _
          have h2 := congrArg Prod.fst h1
          simp only at h2
          omega
      go_wp2_with fail
      go_meet
      case rel => exact ⟨{ L with secs := (x.1 + 1, x.2) :: rest }, xA0, xk0, xc0, (some ⟨g6, 0, none⟩), xk1, c6, xA2, xk2, xc2, xA3, xk3, xc3, xA4, xk4, xc4, HX⟩
    by_cases c4 : r = 4
    · subst c4
      have cc := HR9.out.cell 2; have zz := HR9.out.frozen 2
      simp only [List.getElem?_toArray, List.getElem?_cons_zero, List.getElem?_cons_succ] at cc
      obtain ⟨vs, ht, hvl, hve⟩ := HF9.out.p
      obtain ⟨i5, hi5, hz50, hz51, hz52⟩ := info_parts Try.info51c
      have hba : Below W3.heap.size W3 ((W3.alloc (.cells #[] 3)).alloc (.cells #[.slice (some ⟨W3.heap.size, 0, none⟩) 0 0] 51)) := ((Below.refl W3.heap.size W3).alloc (Nat.le_refl _) (.cells #[] 3)).alloc (by simp) _
      have HOD : Hid (((W3.alloc (.cells #[] 3)).alloc (.cells #[.slice (some ⟨W3.heap.size, 0, none⟩) 0 0] 51)).ownsRow W3.heap.size 51 1 (.slice (some ⟨W3.heap.size + 1, 0, none⟩) 1 1) 1 [.slice (some ⟨W3.heap.size, 0, none⟩) 0 0]) := by
        have h := World.ownsRow_lit (base := W3.heap.size) (e := 51) (size := 1) (W3.alloc (.cells #[] 3)) #[.slice (some ⟨W3.heap.size, 0, none⟩) 0 0] 1 (by simp) (by decide) rfl
        rw [show (W3.alloc (.cells #[] 3)).heap.size = W3.heap.size + 1 by simp] at h
        exact h
      have ccA := ((HR9.out.alloc (.cells #[] 3)).alloc (.cells #[.slice (some ⟨W3.heap.size, 0, none⟩) 0 0] 51)).cell 2
      simp only [List.getElem?_toArray, List.getElem?_cons_zero, List.getElem?_cons_succ] at ccA
      have hsrc := tl_src (ht.kept (KeptL.of_below (S := []) hba) (fun k hk => by simp at hk))
      have hkl : xk2 ≤ 1000 := by rw [hsrc.1, hvl]; exact HMOD.out.1.parts
      have HSRC := Lib.hid hsrc.2
      have HLN : Hid (vs.length = xk2 * 1) := by rw [← hsrc.1, Nat.mul_one]; rfl
      have HV1 : Hid (∀ u ∈ vs, u.oneCell' = true) := by
        intro u hu
        obtain ⟨j, hj, rfl⟩ := List.getElem_of_mem hu
        obtain ⟨A, c, e, _⟩ := hve j hj (by omega)
        rw [e]; rfl
      have HT := Lib.hid hve
      have HVL := Lib.hid hvl
      have HBA := Lib.hid hba
      clear ht hvl hve hba hsrc
      go_wp2_with (at_builtin; refine app_src rfl (.tmp 73) (.tmp 75) 30 rfl W3.heap.size 51 i5 _ 1 24 Try.underlying30 hi5 hz50 hz51 hz52 rfl (by decide) _ 1 _ rfl HOD.out _ xk2 vs rfl HSRC.out HLN.out HV1.out (by unfold maxLen; omega) (by omega) HBA.out.size ?_)
      intro v6 V6 hown6 hgrow6
      have hb6 : Below W3.heap.size W3 V6 := HBA.out.grown hgrow6 HBA.out.size (fun k hk => (HOD.out.lt k hk).1)
      have HIS : Hid (IsRows V6 v6 ([] :: L.parts)) := by
        refine ⟨_, Tl.of_own hown6, by have := HVL.out; simp; omega, fun i h1 h2 => ?_⟩
        cases i with
        | zero => exact ⟨some ⟨W3.heap.size, 0, none⟩, 0, rfl, ⟨fun e => (by cases e), Nat.le_refl _⟩, fun hp => absurd hp (by simp [ivals])⟩
        | succ i =>
          have h := HT.out i (by simpa using h1) (by simpa using h2)
          exact h.kept (KeptL.of_below (S := []) hb6) (fun k hk => by simp at hk)
      obtain ⟨A6, c6, hv6⟩ := own_slice hown6
      subst hv6
      have fa := five_up HF9.out hb6
      have r9 := Below.row hb6 HR9.out HR9.out.lt
      have bl6 : Below W1.heap.size W1 V6 := HBW.out.trans (hb6.mono HBW.out.size)
      have HX : Hid (Row (V6.setCell ⟨n9, 2, none⟩ (.slice A6 (1 + xk2) c6)) n9 33 #[.slice xA0 xk0 xc0, .slice xA1 xk1 xc1, .slice A6 (1 + xk2) c6, .slice xA3 xk3 xc3, .slice xA4 xk4 xc4, .int .i64 L.speed, .int .i64 L.mute, .int .i64 L.wait, .int .i64 L.cancel, .int .i64 L.stay] ∧ Five (V6.setCell ⟨n9, 2, none⟩ (.slice A6 (1 + xk2) c6)) (.slice xA0 xk0 xc0) (.slice xA1 xk1 xc1) (.slice A6 (1 + xk2) c6) (.slice xA3 xk3 xc3) (.slice xA4 xk4 xc4) { L with parts := [] :: L.parts } ∧ ¬ Alike L { L with parts := [] :: L.parts } ∧ Below W1.heap.size W1 (V6.setCell ⟨n9, 2, none⟩ (.slice A6 (1 + xk2) c6))) := by
        have hk : KeptL [n9] V6 (V6.setCell ⟨n9, 2, none⟩ (.slice A6 (1 + xk2) c6)) := (KeptL.refl [n9] V6).set (by simp) _
        have o1 := other_one r9
        have fb := fa.kept hk o1
        refine ⟨r9.set 2 _, ⟨fb.n, fb.s, HIS.out.kept hk (o1 51 (by simp)) (o1 3 (by simp)), fb.q, fb.r⟩, fun h => ?_, bl6.setCell (p := ⟨n9, 2, none⟩) HG9.out _⟩
        have h1 := congrArg List.length h.2.2.1
        simp at h1
      have cc6 := r9.cell 2; have zz6 := r9.frozen 2
      simp only [List.getElem?_toArray, List.getElem?_cons_zero, List.getElem?_cons_succ] at cc6
      clear hown6 hgrow6 hb6 fa r9 bl6 cc zz ccA HO9 HF9 HOD HSRC HLN HV1 HT HVL HBA
      go_wp2_with fail
      go_meet
      case rel => exact ⟨{ L with parts := [] :: L.parts }, xA0, xk0, xc0, xA1, xk1, xc1, A6, (1 + xk2), c6, xA3, xk3, xc3, xA4, xk4, xc4, HX⟩
    · obtain rfl : r = 5 := by omega
      have cc := HR9.out.cell 3; have zz := HR9.out.frozen 3
      simp only [List.getElem?_toArray, List.getElem?_cons_zero, List.getElem?_cons_succ] at cc
      obtain ⟨i5, hi5, hz50, hz51, hz52⟩ := info_parts Try.info53c
      have hba : Below W3.heap.size W3 (W3.alloc (.cells #[.int .i64 0, .int .i64 0, .int .i64 0, .int .i64 0] 53)) := (Below.refl W3.heap.size W3).alloc (Nat.le_refl _) _
      have HOD : Hid ((W3.alloc (.cells #[.int .i64 0, .int .i64 0, .int .i64 0, .int .i64 0] 53)).ownsRow W3.heap.size 53 4 (.slice (some ⟨W3.heap.size, 0, none⟩) 1 1) 1 [.int .i64 0, .int .i64 0, .int .i64 0, .int .i64 0]) := World.ownsRow_lit W3 #[.int .i64 0, .int .i64 0, .int .i64 0, .int .i64 0] 1 (Nat.le_refl _) (by decide) rfl
      have ccA := (HR9.out.alloc (.cells #[.int .i64 0, .int .i64 0, .int .i64 0, .int .i64 0] 53)).cell 3
      simp only [List.getElem?_toArray, List.getElem?_cons_zero, List.getElem?_cons_succ] at ccA
      have hsrc := points_src (HF9.out.q.kept (KeptL.of_below (S := []) hba) (fun k hk => by simp at hk))
      have hkl : xk3 ≤ 1000 := by rw [hsrc.1]; exact HMOD.out.1.points
      have HSRC := Lib.hid hsrc.2
      have HLN : Hid ((pcells L.points).length = xk3 * 4 ∧ xk3 = L.points.length) := ⟨by rw [pcells_len, hsrc.1], hsrc.1⟩
      have HBA := Lib.hid hba
      clear hba hsrc
      go_wp2_with (at_builtin; refine app_src rfl (.tmp 32) (.tmp 34) 31 rfl W3.heap.size 53 i5 _ 4 32 Try.underlying31 hi5 hz50 hz51 hz52 rfl (by decide) _ 1 _ rfl HOD.out _ xk3 (pcells L.points) rfl HSRC.out HLN.out.1 (pcells_one _) (by unfold maxLen; omega) (by omega) HBA.out.size ?_)
      intro v6 V6 hown6 hgrow6
      have hb6 : Below W3.heap.size W3 V6 := HBA.out.grown hgrow6 HBA.out.size (fun k hk => (HOD.out.lt k hk).1)
      have HIS : Hid (IsPoints V6 v6 ((0, 0, 0, 0) :: L.points)) := IsPoints.of_own (xs := (0, 0, 0, 0) :: L.points) hown6 (by have := HLN.out.2; simp; omega)
      obtain ⟨A6, c6, hv6⟩ := own_slice hown6
      subst hv6
      have fa := five_up HF9.out hb6
      have r9 := Below.row hb6 HR9.out HR9.out.lt
      have bl6 : Below W1.heap.size W1 V6 := HBW.out.trans (hb6.mono HBW.out.size)
      have HX : Hid (Row (V6.setCell ⟨n9, 3, none⟩ (.slice A6 (1 + xk3) c6)) n9 33 #[.slice xA0 xk0 xc0, .slice xA1 xk1 xc1, .slice xA2 xk2 xc2, .slice A6 (1 + xk3) c6, .slice xA4 xk4 xc4, .int .i64 L.speed, .int .i64 L.mute, .int .i64 L.wait, .int .i64 L.cancel, .int .i64 L.stay] ∧ Five (V6.setCell ⟨n9, 3, none⟩ (.slice A6 (1 + xk3) c6)) (.slice xA0 xk0 xc0) (.slice xA1 xk1 xc1) (.slice xA2 xk2 xc2) (.slice A6 (1 + xk3) c6) (.slice xA4 xk4 xc4) { L with points := (0, 0, 0, 0) :: L.points } ∧ ¬ Alike L { L with points := (0, 0, 0, 0) :: L.points } ∧ Below W1.heap.size W1 (V6.setCell ⟨n9, 3, none⟩ (.slice A6 (1 + xk3) c6))) := by
        have hk : KeptL [n9] V6 (V6.setCell ⟨n9, 3, none⟩ (.slice A6 (1 + xk3) c6)) := (KeptL.refl [n9] V6).set (by simp) _
        have o1 := other_one r9
        have fb := fa.kept hk o1
        refine ⟨r9.set 3 _, ⟨fb.n, fb.s, fb.p, HIS.out.kept hk (o1 53 (by simp)), fb.r⟩, fun h => ?_, bl6.setCell (p := ⟨n9, 3, none⟩) HG9.out _⟩
        have h1 := congrArg List.length h.2.2.2.1
        simp at h1
      have cc6 := r9.cell 3; have zz6 := r9.frozen 3
      simp only [List.getElem?_toArray, List.getElem?_cons_zero, List.getElem?_cons_succ] at cc6
      clear hown6 hgrow6 hb6 fa r9 bl6 cc zz ccA HO9 HF9 HOD HSRC HLN HBA
      go_wp2_with fail
      go_meet
      case rel => exact ⟨{ L with points := (0, 0, 0, 0) :: L.points }, xA0, xk0, xc0, xA1, xk1, xc1, xA2, xk2, xc2, A6, (1 + xk3), c6, xA4, xk4, xc4, HX⟩
  case rest =>
  clear hr hrt hr6 sp0 sp1 st0 st1 HR9 HF9 HO9 HBW HG9
  obtain ⟨X, yA0, yk0, yc0, yA1, yk1, yc1, yA2, yk2, yc2, yA3, yk3, yc3, yA4, yk4, yc4, HX⟩ := hcut
  obtain ⟨W5, hW5⟩ : ∃ z, z = wc := ⟨_, rfl⟩
  subst hW5
  have H0 : Hid (Three w W5.drew n7 n8 n9 L M X pA0 pk0 pc0 pA1 pk1 pc1 pA2 pk2 pc2 pA3 pk3 pc3 pA4 pk4 pc4 sA0 sk0 sc0 sA1 sk1 sc1 sA2 sk2 sc2 sA3 sk3 sc3 sA4 sk4 sc4 yA0 yk0 yc0 yA1 yk1 yc1 yA2 yk2 yc2 yA3 yk3 yc3 yA4 yk4 yc4) := by
    have hb : Below W1.heap.size W1 W5.drew := ⟨HX.out.2.2.2.os, HX.out.2.2.2.tape, HX.out.2.2.2.output, HX.out.2.2.2.size, HX.out.2.2.2.block⟩
    have hb5 : Below W5.heap.size W5 W5.drew := ⟨rfl, rfl, rfl, Nat.le_refl _, fun _ _ => rfl⟩
    exact ⟨Below.row hb HC.out.1 HC.out.1.lt, Below.row hb HC.out.2.1 HC.out.2.1.lt, HX.out.1, five_up HC.out.2.2.1 hb, five_up HC.out.2.2.2.1 hb, five_up HX.out.2.1 hb5, HC.out.2.2.2.2.2.trans (hb.mono HC.out.2.2.2.2.2.size)⟩
  obtain ⟨dmn, hdmn⟩ : ∃ d, decide (Alike L M) = d := ⟨_, rfl⟩
  have HDMN := Lib.hid hdmn
  have HDMX : Hid (decide (Alike L X) = false) := decide_eq_false HX.out.2.2.1
  clear hdmn HX HC
  go_upto_region 18 with (fail)
  have s0 := H0.out.cells
  go_region_held3 (fun w' => w'.cell? ⟨n7, 0, none⟩ = some (.slice pA0 pk0 pc0) ∧ w'.cell? ⟨n7, 1, none⟩ = some (.slice pA1 pk1 pc1) ∧ w'.cell? ⟨n7, 2, none⟩ = some (.slice pA2 pk2 pc2) ∧ w'.cell? ⟨n7, 3, none⟩ = some (.slice pA3 pk3 pc3) ∧ w'.cell? ⟨n7, 4, none⟩ = some (.slice pA4 pk4 pc4) ∧ w'.cell? ⟨n7, 5, none⟩ = some (.int .i64 L.speed) ∧ w'.cell? ⟨n7, 6, none⟩ = some (.int .i64 L.mute) ∧ w'.cell? ⟨n7, 7, none⟩ = some (.int .i64 L.wait) ∧ w'.cell? ⟨n7, 8, none⟩ = some (.int .i64 L.cancel) ∧ w'.cell? ⟨n7, 9, none⟩ = some (.int .i64 L.stay) ∧ w'.cell? ⟨n8, 0, none⟩ = some (.slice sA0 sk0 sc0) ∧ w'.cell? ⟨n8, 1, none⟩ = some (.slice sA1 sk1 sc1) ∧ w'.cell? ⟨n8, 2, none⟩ = some (.slice sA2 sk2 sc2) ∧ w'.cell? ⟨n8, 3, none⟩ = some (.slice sA3 sk3 sc3) ∧ w'.cell? ⟨n8, 4, none⟩ = some (.slice sA4 sk4 sc4) ∧ w'.cell? ⟨n8, 5, none⟩ = some (.int .i64 M.speed) ∧ w'.cell? ⟨n8, 6, none⟩ = some (.int .i64 M.mute) ∧ w'.cell? ⟨n8, 7, none⟩ = some (.int .i64 M.wait) ∧ w'.cell? ⟨n8, 8, none⟩ = some (.int .i64 M.cancel) ∧ w'.cell? ⟨n8, 9, none⟩ = some (.int .i64 M.stay) ∧ w'.cell? ⟨n9, 0, none⟩ = some (.slice yA0 yk0 yc0) ∧ w'.cell? ⟨n9, 1, none⟩ = some (.slice yA1 yk1 yc1) ∧ w'.cell? ⟨n9, 2, none⟩ = some (.slice yA2 yk2 yc2) ∧ w'.cell? ⟨n9, 3, none⟩ = some (.slice yA3 yk3 yc3) ∧ w'.cell? ⟨n9, 4, none⟩ = some (.slice yA4 yk4 yc4) ∧ w'.cell? ⟨n9, 5, none⟩ = some (.int .i64 X.speed) ∧ w'.cell? ⟨n9, 6, none⟩ = some (.int .i64 X.mute) ∧ w'.cell? ⟨n9, 7, none⟩ = some (.int .i64 X.wait) ∧ w'.cell? ⟨n9, 8, none⟩ = some (.int .i64 X.cancel) ∧ w'.cell? ⟨n9, 9, none⟩ = some (.int .i64 X.stay)) (first | exact s4 | exact s3 | exact s2 | exact s1 | exact s0 | go_keep) (first | (go_at_call 16; (with_reducible refine (same_any W5.drew _ _ L M H0.out.m7 H0.out.m8 HMOD.out.1).mono ?_); rintro e v1 ⟨rfl, hb⟩; rw [HDMN.out]; have H1 : Hid (Three w v1 n7 n8 n9 L M X pA0 pk0 pc0 pA1 pk1 pc1 pA2 pk2 pc2 pA3 pk3 pc3 pA4 pk4 pc4 sA0 sk0 sc0 sA1 sk1 sc1 sA2 sk2 sc2 sA3 sk3 sc3 sA4 sk4 sc4 yA0 yk0 yc0 yA1 yk1 yc1 yA2 yk2 yc2 yA3 yk3 yc3 yA4 yk4 yc4) := H0.out.up hb; have s1 := H1.out.cells; clear hb) | (go_at_call 17; (with_reducible refine (refSame_any v1 _ _ L M H1.out.m7 H1.out.m8 HMOD.out.2).mono ?_); rintro e v2 ⟨rfl, hb⟩; rw [HDMN.out]; have H2 : Hid (Three w v2 n7 n8 n9 L M X pA0 pk0 pc0 pA1 pk1 pc1 pA2 pk2 pc2 pA3 pk3 pc3 pA4 pk4 pc4 sA0 sk0 sc0 sA1 sk1 sc1 sA2 sk2 sc2 sA3 sk3 sc3 sA4 sk4 sc4 yA0 yk0 yc0 yA1 yk1 yc1 yA2 yk2 yc2 yA3 yk3 yc3 yA4 yk4 yc4) := H1.out.up hb; have s2 := H2.out.cells; clear hb) | (go_at_call 16; (with_reducible refine (same_any v2 _ _ L L H2.out.m7 H2.out.m7 HMOD.out.1).mono ?_); rintro e v3 ⟨rfl, hb⟩; rw [decide_eq_true (alike_refl L)]; have H3 : Hid (Three w v3 n7 n8 n9 L M X pA0 pk0 pc0 pA1 pk1 pc1 pA2 pk2 pc2 pA3 pk3 pc3 pA4 pk4 pc4 sA0 sk0 sc0 sA1 sk1 sc1 sA2 sk2 sc2 sA3 sk3 sc3 sA4 sk4 sc4 yA0 yk0 yc0 yA1 yk1 yc1 yA2 yk2 yc2 yA3 yk3 yc3 yA4 yk4 yc4) := H2.out.up hb; have s3 := H3.out.cells; clear hb) | (go_at_call 16; (with_reducible refine (same_any v3 _ _ L X H3.out.m7 H3.out.m9 HMOD.out.1).mono ?_); rintro e v4 ⟨rfl, hb⟩; rw [HDMX.out]; have H4 : Hid (Three w v4 n7 n8 n9 L M X pA0 pk0 pc0 pA1 pk1 pc1 pA2 pk2 pc2 pA3 pk3 pc3 pA4 pk4 pc4 sA0 sk0 sc0 sA1 sk1 sc1 sA2 sk2 sc2 sA3 sk3 sc3 sA4 sk4 sc4 yA0 yk0 yc0 yA1 yk1 yc1 yA2 yk2 yc2 yA3 yk3 yc3 yA4 yk4 yc4) := H3.out.up hb; have s4 := H4.out.cells; clear hb))
  go_wp2_with fail
  go_ret
  exact ⟨rfl, H4.out.below⟩

theorem lifted (os : Os) (started : os.Started) (H : Type) (enc : TypeId × Value → H) :
    ReturnsInHanded {} Try.checked os 7 .any (Rows.layoutSameSpec.pre6 enc Try.prog Try.f7 Rows.layoutSameRow.domain false) (Rows.layoutSameSpec.post enc Try.prog Try.f7 false true false false) := by
  refine returnsInHanded_of_change (C := Try.checked) own started (by kernel_rfl) Try.func7
    (ChangeSpec.witness6 (enc := enc) (C := Try.checked) false ⟨#[], #[.agg #[.int .u8 0, .int .u8 0, .int .u8 0, .int .u16 0, .int .u16 0, .int .u8 0, .int .u8 0, .int .u8 0, .slice none 0 0], .agg #[.int .u8 0, .int .u8 0, .int .u8 0, .int .u16 0, .int .u16 0, .int .u8 0, .int .u8 0, .int .u8 0, .slice none 0 0], .int .u8 0], []⟩ 8 (by kernel_rfl) (by kernel_rfl) (by kernel_rfl) (by kernel_rfl)) ?_
  intro W base args ds gs before hval0 hW hcnd _
  have hval : ∀ (j : Nat) t v, Try.f7.params[j]? = some t → args[j]? = some v → Value.okWide Try.prog W .any base t v := hval0
  have hW' := hW
  obtain ⟨p, q, hA0, hV, rfl, hfz, hnd⟩ := hW
  have hA : DataW.TrodAll enc Try.prog W 0 (fun _ => true) true Try.f7.params.toList args.toList ds p := hA0
  rw [Try.params7] at hA hval
  obtain ⟨v0, vs0, d0, ds0, p0, q0, hargs, rfl, rfl, h0, r0⟩ := trodAll_cons hA
  obtain ⟨v1, vs1, d1, ds1, p1, q1, rfl, rfl, rfl, h1, r1⟩ := trodAll_cons r0
  obtain ⟨v2, vs2, d2, ds2, p2, q2, rfl, rfl, rfl, h2, r2⟩ := trodAll_cons r1
  obtain ⟨rfl, rfl, rfl⟩ := trodAll_nil r2
  obtain rfl : args = #[v0, v1, v2] := by cases args; simp_all
  obtain ⟨rfl, rfl⟩ := trodVars_none hV
  have k0 := h0
  have lt0 : ∀ x ∈ p0, x.block < W.heap.size := by obtain ⟨m, hm⟩ := k0; exact DataW.trod_lt m _ _ _ hm
  obtain ⟨e0, vr0, hv0, w0⟩ := draft_of_trod (hval 0 25 v0 rfl rfl) h0
  subst hv0
  have k1 := h1
  have lt1 : ∀ x ∈ p1, x.block < W.heap.size := by obtain ⟨m, hm⟩ := k1; exact DataW.trod_lt m _ _ _ hm
  obtain ⟨e1, vr1, hv1, w1⟩ := draft_of_trod (hval 1 25 v1 rfl rfl) h1
  subst hv1
  obtain ⟨a2, rfl, rfl, rfl, w2⟩ := open_int Try.underlying5 (hval 2 5 v2 rfl rfl) h2
  clear hA0 hval0
  refine (walk e0 vr0 e1 vr1 a2 W w0 w1 w2).mono fun e W' ⟨he, bel⟩ => ?_
  subst he
  exact ⟨_, rfl, _, _, _, [], _, [], hW', trodAll_mk1 (shut_bool Try.underlying4 _), (trodAll_cons_mk (Below.trod laidOut (by kernel_rfl) (of_decide_eq_true (by kernel_rfl)) k0 bel lt0) (trodAll_cons_mk (Below.trod laidOut (by kernel_rfl) (of_decide_eq_true (by kernel_rfl)) k1 bel lt1) (trodAll_cons_mk (shut_int Try.underlying5 w2) trodAll_mk0))), rfl, bel.frame _, fun h => by cases h⟩

theorem over : Rows.layoutSameRow.holds Try.pinned (OpenSpec.ofChange Rows.layoutSameSpec) :=
  OpenClaim.holds_of_wide 7 Try.f7 rfl rfl rfl rfl rfl rfl rfl ⟨rfl, rfl, rfl, rfl, rfl⟩ rfl rfl rfl rfl rfl (by kernel_rfl) Try.func7 (by kernel_rfl)
    (of_decide_eq_true (by kernel_rfl)) (by unfold Func.isWrapper; first | (rw [if_pos (by decide +kernel)]; kernel_rfl) | (rw [if_neg (by decide +kernel)]; exact ⟨rfl, rfl⟩))
    (fun os started H enc _ => lifted os started H enc)

theorem proved : Rows.LayoutSameSaid := over
#print axioms proved
end Go.Proofs.Ythpfhcelmddjlaa.layoutSame
