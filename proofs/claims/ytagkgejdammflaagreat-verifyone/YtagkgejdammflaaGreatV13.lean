/- Contract: First: the first rule that is broken. -/
import Derived.Test.YtagkgejdammflaaGreatV12
import Derived.Test.YtagkgejdammflaaGreatLHead
import Derived.Deep.RegionHeld3
import Derived.Laws.EntriesVeiled
namespace Go.Proofs.YtagkgejdammflaaGreat
open Go.RowKit Fl
set_option maxRecDepth 100000

/-- The first place at which a rule doesn't hold. -/
def badAt (L : Lay) (k : Nat) : Option Nat := (List.range (ruleN L k)).find? fun p => !ruleB L k p
/-- The first rule that a layout breaks, and where; (0, 0): none. -/
def firstL (L : Lay) : Nat × Nat := match (List.range 17).find? (fun k => (badAt L k).isSome) with | some k => (ruleNo k, (badAt L k).getD 0) | none => (0, 0)

theorem badAt_none {L : Lay} {k : Nat} (h : Holds17 L k) : badAt L k = none := by
  unfold badAt
  rw [List.find?_range_eq_none]
  intro p hp
  rw [h p hp]; rfl
theorem badAt_some {L : Lay} {k p : Nat} (hp : p < ruleN L k) (hb : ruleB L k p = false) (hall : ∀ p', p' < p → ruleB L k p' = true) : badAt L k = some p := by
  unfold badAt
  rw [List.find?_range_eq_some]
  exact ⟨by rw [hb]; rfl, List.mem_range.2 hp, fun j hj => by rw [hall j hj]; rfl⟩
theorem firstL_bad {L : Lay} {k p : Nat} (hk : k < 17) (hprev : ∀ k', k' < k → Holds17 L k') (hp : p < ruleN L k) (hall : ∀ p', p' < p → ruleB L k p' = true) (hb : ruleB L k p = false) : firstL L = (ruleNo k, p) := by
  have h1 := badAt_some hp hb hall
  have h2 : (List.range 17).find? (fun k => (badAt L k).isSome) = some k := by
    rw [List.find?_range_eq_some]
    exact ⟨by rw [h1]; rfl, List.mem_range.2 hk, fun j hj => by rw [badAt_none (hprev j hj)]; rfl⟩
  unfold firstL
  rw [h2]
  simp only [h1, Option.getD_some]
theorem firstL_good {L : Lay} (h : ∀ k, k < 17 → Holds17 L k) : firstL L = (0, 0) := by
  have h2 : (List.range 17).find? (fun k => (badAt L k).isSome) = none := by
    rw [List.find?_range_eq_none]
    intro k hk
    rw [badAt_none (h k hk)]; rfl
  unfold firstL
  rw [h2]

theorem ruleN_le {L : Lay} (hV : Vf L) (k : Nat) (hk : k < 17) : ruleN L k ≤ 1000 := by
  have h1 := hV.n; have h2 := hV.r; have h3 := hV.f.s; have h4 := hV.f.q; have h5 := hV.f.p
  match k with
  | 0 => show 1 ≤ 1000; omega
  | 1 => show L.nodes.length ≤ 1000; omega
  | 2 => show 1 ≤ 1000; omega
  | 3 => show L.secs.length ≤ 1000; omega
  | 4 => show 1 ≤ 1000; omega
  | 5 => show L.secs.length ≤ 1000; omega
  | 6 => show 1 ≤ 1000; omega
  | 7 => show L.nodes.length ≤ 1000; omega
  | 8 => show 1 ≤ 1000; omega
  | 9 => show L.points.length ≤ 1000; omega
  | 10 => show L.nodes.length ≤ 1000; omega
  | 11 => show L.nodes.length ≤ 1000; omega
  | 12 => show 1 ≤ 1000; omega
  | 13 => show L.parts.length ≤ 1000; omega
  | 14 => show L.secs.length ≤ 1000; omega
  | 15 => show 1 ≤ 1000; omega
  | 16 => show L.routes.length ≤ 1000; omega
  | k + 17 => omega
theorem rulesC_get (L : Lay) (v : Value) (k : Nat) (hk : k < 17) : (rulesC L v)[k * 3]? = some (.int .i64 (ruleNo k : Int)) ∧ (rulesC L v)[k * 3 + 1]? = some (.int .i64 (ruleN L k : Int)) ∧ (rulesC L v)[k * 3 + 2]? = some (.func (.func (ruleF k)) #[v] #[]) := by
  match k with
  | 0 => exact ⟨rfl, rfl, rfl⟩
  | 1 => exact ⟨rfl, rfl, rfl⟩
  | 2 => exact ⟨rfl, rfl, rfl⟩
  | 3 => exact ⟨rfl, rfl, rfl⟩
  | 4 => exact ⟨rfl, rfl, rfl⟩
  | 5 => exact ⟨rfl, rfl, rfl⟩
  | 6 => exact ⟨rfl, rfl, rfl⟩
  | 7 => exact ⟨rfl, rfl, rfl⟩
  | 8 => exact ⟨rfl, rfl, rfl⟩
  | 9 => exact ⟨rfl, rfl, rfl⟩
  | 10 => exact ⟨rfl, rfl, rfl⟩
  | 11 => exact ⟨rfl, rfl, rfl⟩
  | 12 => exact ⟨rfl, rfl, rfl⟩
  | 13 => exact ⟨rfl, rfl, rfl⟩
  | 14 => exact ⟨rfl, rfl, rfl⟩
  | 15 => exact ⟨rfl, rfl, rfl⟩
  | 16 => exact ⟨rfl, rfl, rfl⟩
  | k + 17 => omega

theorem enter_of {f : FuncId} {fn : Func} (hf : Tryz.prog.funcs[f]? = some fn) (hname : (fn.name == "runtime.NumGoroutine") = false) (hb : fn.body.isSome = true) (args : Array Value) (w : World) : (callFunc f args).run Tryz.prog w = .ok (.enter f args) w := by
  obtain ⟨c, hc⟩ := Option.isSome_iff_exists.1 hb
  have h1 : fn.name ≠ "runtime.NumGoroutine" := by simpa using hname
  simp [callFunc, hf, h1, hc]
theorem ruleF_enter (k : Nat) (hk : k < 17) (args : Array Value) (w : World) : (callFunc (ruleF k) args).run Tryz.prog w = .ok (.enter (ruleF k) args) w := by
  match k with
  | 0 => exact enter_of Tryz.func34 (by kernel_rfl) (by kernel_rfl) args w
  | 1 => exact enter_of Tryz.func35 (by kernel_rfl) (by kernel_rfl) args w
  | 2 => exact enter_of Tryz.func36 (by kernel_rfl) (by kernel_rfl) args w
  | 3 => exact enter_of Tryz.func37 (by kernel_rfl) (by kernel_rfl) args w
  | 4 => exact enter_of Tryz.func38 (by kernel_rfl) (by kernel_rfl) args w
  | 5 => exact enter_of Tryz.func39 (by kernel_rfl) (by kernel_rfl) args w
  | 6 => exact enter_of Tryz.func40 (by kernel_rfl) (by kernel_rfl) args w
  | 7 => exact enter_of Tryz.func41 (by kernel_rfl) (by kernel_rfl) args w
  | 8 => exact enter_of Tryz.func42 (by kernel_rfl) (by kernel_rfl) args w
  | 9 => exact enter_of Tryz.func43 (by kernel_rfl) (by kernel_rfl) args w
  | 10 => exact enter_of Tryz.func44 (by kernel_rfl) (by kernel_rfl) args w
  | 11 => exact enter_of Tryz.func45 (by kernel_rfl) (by kernel_rfl) args w
  | 12 => exact enter_of Tryz.func46 (by kernel_rfl) (by kernel_rfl) args w
  | 13 => exact enter_of Tryz.func47 (by kernel_rfl) (by kernel_rfl) args w
  | 14 => exact enter_of Tryz.func48 (by kernel_rfl) (by kernel_rfl) args w
  | 15 => exact enter_of Tryz.func49 (by kernel_rfl) (by kernel_rfl) args w
  | 16 => exact enter_of Tryz.func50 (by kernel_rfl) (by kernel_rfl) args w
  | k + 17 => omega

def RetTwo (x : Nat × Nat) (w : World) (e : Ending) (w' : World) : Prop := e = .returned (.tuple #[.int .i64 (x.1 : Int), .int .i64 (x.2 : Int)]) ∧ Below w.heap.size w w'

theorem trk_new {w1 : World} {D : Nat} {A0 A1 A2 A3 A4 : Option Addr} {c0 c1 c2 c3 c4 : Nat} {vg : Value} {ps : List (Nat × Nat)} {L : Lay} (hd : LayData w1 D (.slice A0 L.nodes.length c0) (.slice A1 L.secs.length c1) (.slice A2 L.parts.length c2) (.slice A3 L.points.length c3) (.slice A4 L.routes.length c4) ps L) (hD : D ≤ w1.heap.size) (hg : IsGr w1 w1.heap.size vg L) :
    IsTrk (w1.alloc (.cells (#[.slice A0 L.nodes.length c0, .slice A1 L.secs.length c1, .slice A2 L.parts.length c2, .slice A3 L.points.length c3, .slice A4 L.routes.length c4, .int .i64 L.speed, .int .i64 L.mute, .int .i64 L.wait, .int .i64 L.cancel, .int .i64 L.stay, vg]) 68)) (w1.alloc (.cells (#[.slice A0 L.nodes.length c0, .slice A1 L.secs.length c1, .slice A2 L.parts.length c2, .slice A3 L.points.length c3, .slice A4 L.routes.length c4, .int .i64 L.speed, .int .i64 L.mute, .int .i64 L.wait, .int .i64 L.cancel, .int .i64 L.stay, vg]) 68)).heap.size (.pointer (some ⟨w1.heap.size, 0, none⟩)) L := by
  have hb : Below w1.heap.size w1 (w1.alloc (.cells (#[.slice A0 L.nodes.length c0, .slice A1 L.secs.length c1, .slice A2 L.parts.length c2, .slice A3 L.points.length c3, .slice A4 L.routes.length c4, .int .i64 L.speed, .int .i64 L.mute, .int .i64 L.wait, .int .i64 L.cancel, .int .i64 L.stay, vg]) 68)) := (Below.refl _ _).alloc (Nat.le_refl _) _
  have hc : ∀ p : Addr, p.block < D → (w1.alloc (.cells (#[.slice A0 L.nodes.length c0, .slice A1 L.secs.length c1, .slice A2 L.parts.length c2, .slice A3 L.points.length c3, .slice A4 L.routes.length c4, .int .i64 L.speed, .int .i64 L.mute, .int .i64 L.wait, .int .i64 L.cancel, .int .i64 L.stay, vg]) 68)).cell? p = w1.cell? p := fun p hp => hb.cell (p := p) (Nat.lt_of_lt_of_le hp hD)
  have hs : D ≤ (w1.alloc (.cells (#[.slice A0 L.nodes.length c0, .slice A1 L.secs.length c1, .slice A2 L.parts.length c2, .slice A3 L.points.length c3, .slice A4 L.routes.length c4, .int .i64 L.speed, .int .i64 L.mute, .int .i64 L.wait, .int .i64 L.cancel, .int .i64 L.stay, vg]) 68)).heap.size := Nat.le_trans hD hb.size
  obtain ⟨g, vS, vQ, vP, rfl, hgr⟩ := hg.keep hb (Nat.le_refl _)
  exact ⟨w1.heap.size, _, _, _, _, _, _, ps, rfl, ⟨Row.new _ _ _, by simp, hd.mono hs hc, ⟨g, vS, vQ, vP, rfl, ⟨hgr.row, Nat.lt_of_lt_of_le hgr.lt hb.size, hgr.s.mono hb.size (fun _ _ => rfl), hgr.q.mono hb.size (fun _ _ => rfl), hgr.p.mono hb.size (fun _ _ => rfl)⟩⟩⟩⟩

theorem new_ptr (w : World) (v : Value) (L : Lay) (h : LayV w w.heap.size v L) (hL : Fits L) : Calls Tryz.prog 22 #[v] w fun e w' => ∃ gg, e = .returned (.pointer (some ⟨gg, 0, none⟩)) ∧ IsGr w' w'.heap.size (.pointer (some ⟨gg, 0, none⟩)) L ∧ Below w.heap.size w w' := by
  refine (new_any w v L h hL).mono ?_
  rintro e w' ⟨v', rfl, hg, hb⟩
  obtain ⟨gg, a, b, c, rfl, h2⟩ := hg
  exact ⟨gg, rfl, ⟨gg, a, b, c, rfl, h2⟩, hb⟩

set_option maxHeartbeats 8000000 in
theorem first_any (w : World) (v : Value) (L : Lay) (h : LayV w w.heap.size v L) (hV : Vf L) : Calls Tryz.prog 17 #[v] w (RetTwo (firstL L) w) := by
  have HV0 := Lib.hid h
  obtain ⟨vN, vS, vP, vQ, vR, ps, rfl, hd⟩ := h
  obtain ⟨⟨A0, c0, rfl⟩, ⟨A1, c1, rfl⟩, ⟨A2, c2, rfl⟩, ⟨A3, c3, rfl⟩, ⟨A4, c4, rfl⟩⟩ := hd.slices
  have hbn := (Below.refl w.heap.size w).alloc (Nat.le_refl _) (.cells #[.slice A0 L.nodes.length c0, .slice A1 L.secs.length c1, .slice A2 L.parts.length c2, .slice A3 L.points.length c3, .slice A4 L.routes.length c4, .int .i64 L.speed, .int .i64 L.mute, .int .i64 L.wait, .int .i64 L.cancel, .int .i64 L.stay] 33)
  have HBA := Lib.hid hbn
  have HRA := Lib.hid (Row.new w 33 #[.slice A0 L.nodes.length c0, .slice A1 L.secs.length c1, .slice A2 L.parts.length c2, .slice A3 L.points.length c3, .slice A4 L.routes.length c4, .int .i64 L.speed, .int .i64 L.mute, .int .i64 L.wait, .int .i64 L.cancel, .int .i64 L.stay])
  have HVA := Lib.hid (HV0.out.up hbn)
  have HDA := Lib.hid (hd.mono hbn.size (fun _ hp => hbn.cell hp))
  have HVV := Lib.hid hV
  obtain ⟨RP, hRP⟩ : ∃ R, R = RetTwo (firstL L) w := ⟨_, rfl⟩
  rw [← hRP]
  have HRP := Lib.hid hRP
  clear hRP hV hbn hd HV0
  go_enter Tryz.func17, Tryz.ntmps17
  go_upto_region 1 with (fail)
  obtain ⟨n0, hn0⟩ : ∃ n, n = w.heap.size := ⟨_, rfl⟩
  rw [← hn0] at HRA ⊢
  clear hn0
  generalize w.alloc (.cells #[.slice A0 L.nodes.length c0, .slice A1 L.secs.length c1, .slice A2 L.parts.length c2, .slice A3 L.points.length c3, .slice A4 L.routes.length c4, .int .i64 L.speed, .int .i64 L.mute, .int .i64 L.wait, .int .i64 L.cancel, .int .i64 L.stay] 33) = W0 at *
  have s0 : W0.drew.cell? ⟨n0, 0, none⟩ = some (.slice A0 L.nodes.length c0) ∧ W0.drew.cell? ⟨n0, 1, none⟩ = some (.slice A1 L.secs.length c1) ∧ W0.drew.cell? ⟨n0, 2, none⟩ = some (.slice A2 L.parts.length c2) ∧ W0.drew.cell? ⟨n0, 3, none⟩ = some (.slice A3 L.points.length c3) ∧ W0.drew.cell? ⟨n0, 4, none⟩ = some (.slice A4 L.routes.length c4) ∧ W0.drew.cell? ⟨n0, 5, none⟩ = some (.int .i64 L.speed) ∧ W0.drew.cell? ⟨n0, 6, none⟩ = some (.int .i64 L.mute) ∧ W0.drew.cell? ⟨n0, 7, none⟩ = some (.int .i64 L.wait) ∧ W0.drew.cell? ⟨n0, 8, none⟩ = some (.int .i64 L.cancel) ∧ W0.drew.cell? ⟨n0, 9, none⟩ = some (.int .i64 L.stay) := ⟨by have h := HRA.out.cell 0; simpa using h, by have h := HRA.out.cell 1; simpa using h, by have h := HRA.out.cell 2; simpa using h, by have h := HRA.out.cell 3; simpa using h, by have h := HRA.out.cell 4; simpa using h, by have h := HRA.out.cell 5; simpa using h, by have h := HRA.out.cell 6; simpa using h, by have h := HRA.out.cell 7; simpa using h, by have h := HRA.out.cell 8; simpa using h, by have h := HRA.out.cell 9; simpa using h⟩
  have HVB : Hid (LayV W0.drew W0.drew.heap.size (.agg #[.slice A0 L.nodes.length c0, .slice A1 L.secs.length c1, .slice A2 L.parts.length c2, .slice A3 L.points.length c3, .slice A4 L.routes.length c4, .int .i64 L.speed, .int .i64 L.mute, .int .i64 L.wait, .int .i64 L.cancel, .int .i64 L.stay]) L) := HVA.out.mono (Nat.le_refl _) (fun _ _ => rfl)
  have HDB : Hid (LayData W0.drew W0.drew.heap.size (.slice A0 L.nodes.length c0) (.slice A1 L.secs.length c1) (.slice A2 L.parts.length c2) (.slice A3 L.points.length c3) (.slice A4 L.routes.length c4) ps L) := HDA.out.mono (Nat.le_refl _) (fun _ _ => rfl)
  have HBB : Hid (Below w.heap.size w W0.drew) := below_drewN HBA.out 1
  have HN0 : Hid (n0 < W0.drew.heap.size) := HRA.out.lt
  clear HVA HDA HBA HRA
  go_region_held3 (fun w' => w'.cell? ⟨n0, 0, none⟩ = some (.slice A0 L.nodes.length c0) ∧ w'.cell? ⟨n0, 1, none⟩ = some (.slice A1 L.secs.length c1) ∧ w'.cell? ⟨n0, 2, none⟩ = some (.slice A2 L.parts.length c2) ∧ w'.cell? ⟨n0, 3, none⟩ = some (.slice A3 L.points.length c3) ∧ w'.cell? ⟨n0, 4, none⟩ = some (.slice A4 L.routes.length c4) ∧ w'.cell? ⟨n0, 5, none⟩ = some (.int .i64 L.speed) ∧ w'.cell? ⟨n0, 6, none⟩ = some (.int .i64 L.mute) ∧ w'.cell? ⟨n0, 7, none⟩ = some (.int .i64 L.wait) ∧ w'.cell? ⟨n0, 8, none⟩ = some (.int .i64 L.cancel) ∧ w'.cell? ⟨n0, 9, none⟩ = some (.int .i64 L.stay)) (first | exact s2 | exact s1 | exact s0) (first | (go_at_call 22; (with_reducible refine (new_ptr W0.drew _ L HVB.out HVV.out.f).mono ?_); rintro e w1 ⟨gg, rfl, hg, hb1⟩; have s1 : w1.cell? ⟨n0, 0, none⟩ = some (.slice A0 L.nodes.length c0) ∧ w1.cell? ⟨n0, 1, none⟩ = some (.slice A1 L.secs.length c1) ∧ w1.cell? ⟨n0, 2, none⟩ = some (.slice A2 L.parts.length c2) ∧ w1.cell? ⟨n0, 3, none⟩ = some (.slice A3 L.points.length c3) ∧ w1.cell? ⟨n0, 4, none⟩ = some (.slice A4 L.routes.length c4) ∧ w1.cell? ⟨n0, 5, none⟩ = some (.int .i64 L.speed) ∧ w1.cell? ⟨n0, 6, none⟩ = some (.int .i64 L.mute) ∧ w1.cell? ⟨n0, 7, none⟩ = some (.int .i64 L.wait) ∧ w1.cell? ⟨n0, 8, none⟩ = some (.int .i64 L.cancel) ∧ w1.cell? ⟨n0, 9, none⟩ = some (.int .i64 L.stay) := ⟨(hb1.cell (p := ⟨n0, 0, none⟩) HN0.out).trans s0.1, (hb1.cell (p := ⟨n0, 1, none⟩) HN0.out).trans s0.2.1, (hb1.cell (p := ⟨n0, 2, none⟩) HN0.out).trans s0.2.2.1, (hb1.cell (p := ⟨n0, 3, none⟩) HN0.out).trans s0.2.2.2.1, (hb1.cell (p := ⟨n0, 4, none⟩) HN0.out).trans s0.2.2.2.2.1, (hb1.cell (p := ⟨n0, 5, none⟩) HN0.out).trans s0.2.2.2.2.2.1, (hb1.cell (p := ⟨n0, 6, none⟩) HN0.out).trans s0.2.2.2.2.2.2.1, (hb1.cell (p := ⟨n0, 7, none⟩) HN0.out).trans s0.2.2.2.2.2.2.2.1, (hb1.cell (p := ⟨n0, 8, none⟩) HN0.out).trans s0.2.2.2.2.2.2.2.2.1, (hb1.cell (p := ⟨n0, 9, none⟩) HN0.out).trans s0.2.2.2.2.2.2.2.2.2⟩; have hbz : Below w1.heap.size w1 (w1.alloc (.cells (#[.slice A0 L.nodes.length c0, .slice A1 L.secs.length c1, .slice A2 L.parts.length c2, .slice A3 L.points.length c3, .slice A4 L.routes.length c4, .int .i64 L.speed, .int .i64 L.mute, .int .i64 L.wait, .int .i64 L.cancel, .int .i64 L.stay, .pointer (some ⟨gg, 0, none⟩)]) 68)) := (Below.refl _ _).alloc (Nat.le_refl _) _; have hn1 := Nat.lt_of_lt_of_le HN0.out hb1.size; have s2 : (w1.alloc (.cells (#[.slice A0 L.nodes.length c0, .slice A1 L.secs.length c1, .slice A2 L.parts.length c2, .slice A3 L.points.length c3, .slice A4 L.routes.length c4, .int .i64 L.speed, .int .i64 L.mute, .int .i64 L.wait, .int .i64 L.cancel, .int .i64 L.stay, .pointer (some ⟨gg, 0, none⟩)]) 68)).cell? ⟨n0, 0, none⟩ = some (.slice A0 L.nodes.length c0) ∧ (w1.alloc (.cells (#[.slice A0 L.nodes.length c0, .slice A1 L.secs.length c1, .slice A2 L.parts.length c2, .slice A3 L.points.length c3, .slice A4 L.routes.length c4, .int .i64 L.speed, .int .i64 L.mute, .int .i64 L.wait, .int .i64 L.cancel, .int .i64 L.stay, .pointer (some ⟨gg, 0, none⟩)]) 68)).cell? ⟨n0, 1, none⟩ = some (.slice A1 L.secs.length c1) ∧ (w1.alloc (.cells (#[.slice A0 L.nodes.length c0, .slice A1 L.secs.length c1, .slice A2 L.parts.length c2, .slice A3 L.points.length c3, .slice A4 L.routes.length c4, .int .i64 L.speed, .int .i64 L.mute, .int .i64 L.wait, .int .i64 L.cancel, .int .i64 L.stay, .pointer (some ⟨gg, 0, none⟩)]) 68)).cell? ⟨n0, 2, none⟩ = some (.slice A2 L.parts.length c2) ∧ (w1.alloc (.cells (#[.slice A0 L.nodes.length c0, .slice A1 L.secs.length c1, .slice A2 L.parts.length c2, .slice A3 L.points.length c3, .slice A4 L.routes.length c4, .int .i64 L.speed, .int .i64 L.mute, .int .i64 L.wait, .int .i64 L.cancel, .int .i64 L.stay, .pointer (some ⟨gg, 0, none⟩)]) 68)).cell? ⟨n0, 3, none⟩ = some (.slice A3 L.points.length c3) ∧ (w1.alloc (.cells (#[.slice A0 L.nodes.length c0, .slice A1 L.secs.length c1, .slice A2 L.parts.length c2, .slice A3 L.points.length c3, .slice A4 L.routes.length c4, .int .i64 L.speed, .int .i64 L.mute, .int .i64 L.wait, .int .i64 L.cancel, .int .i64 L.stay, .pointer (some ⟨gg, 0, none⟩)]) 68)).cell? ⟨n0, 4, none⟩ = some (.slice A4 L.routes.length c4) ∧ (w1.alloc (.cells (#[.slice A0 L.nodes.length c0, .slice A1 L.secs.length c1, .slice A2 L.parts.length c2, .slice A3 L.points.length c3, .slice A4 L.routes.length c4, .int .i64 L.speed, .int .i64 L.mute, .int .i64 L.wait, .int .i64 L.cancel, .int .i64 L.stay, .pointer (some ⟨gg, 0, none⟩)]) 68)).cell? ⟨n0, 5, none⟩ = some (.int .i64 L.speed) ∧ (w1.alloc (.cells (#[.slice A0 L.nodes.length c0, .slice A1 L.secs.length c1, .slice A2 L.parts.length c2, .slice A3 L.points.length c3, .slice A4 L.routes.length c4, .int .i64 L.speed, .int .i64 L.mute, .int .i64 L.wait, .int .i64 L.cancel, .int .i64 L.stay, .pointer (some ⟨gg, 0, none⟩)]) 68)).cell? ⟨n0, 6, none⟩ = some (.int .i64 L.mute) ∧ (w1.alloc (.cells (#[.slice A0 L.nodes.length c0, .slice A1 L.secs.length c1, .slice A2 L.parts.length c2, .slice A3 L.points.length c3, .slice A4 L.routes.length c4, .int .i64 L.speed, .int .i64 L.mute, .int .i64 L.wait, .int .i64 L.cancel, .int .i64 L.stay, .pointer (some ⟨gg, 0, none⟩)]) 68)).cell? ⟨n0, 7, none⟩ = some (.int .i64 L.wait) ∧ (w1.alloc (.cells (#[.slice A0 L.nodes.length c0, .slice A1 L.secs.length c1, .slice A2 L.parts.length c2, .slice A3 L.points.length c3, .slice A4 L.routes.length c4, .int .i64 L.speed, .int .i64 L.mute, .int .i64 L.wait, .int .i64 L.cancel, .int .i64 L.stay, .pointer (some ⟨gg, 0, none⟩)]) 68)).cell? ⟨n0, 8, none⟩ = some (.int .i64 L.cancel) ∧ (w1.alloc (.cells (#[.slice A0 L.nodes.length c0, .slice A1 L.secs.length c1, .slice A2 L.parts.length c2, .slice A3 L.points.length c3, .slice A4 L.routes.length c4, .int .i64 L.speed, .int .i64 L.mute, .int .i64 L.wait, .int .i64 L.cancel, .int .i64 L.stay, .pointer (some ⟨gg, 0, none⟩)]) 68)).cell? ⟨n0, 9, none⟩ = some (.int .i64 L.stay) := ⟨(hbz.cell (p := ⟨n0, 0, none⟩) hn1).trans s1.1, (hbz.cell (p := ⟨n0, 1, none⟩) hn1).trans s1.2.1, (hbz.cell (p := ⟨n0, 2, none⟩) hn1).trans s1.2.2.1, (hbz.cell (p := ⟨n0, 3, none⟩) hn1).trans s1.2.2.2.1, (hbz.cell (p := ⟨n0, 4, none⟩) hn1).trans s1.2.2.2.2.1, (hbz.cell (p := ⟨n0, 5, none⟩) hn1).trans s1.2.2.2.2.2.1, (hbz.cell (p := ⟨n0, 6, none⟩) hn1).trans s1.2.2.2.2.2.2.1, (hbz.cell (p := ⟨n0, 7, none⟩) hn1).trans s1.2.2.2.2.2.2.2.1, (hbz.cell (p := ⟨n0, 8, none⟩) hn1).trans s1.2.2.2.2.2.2.2.2.1, (hbz.cell (p := ⟨n0, 9, none⟩) hn1).trans s1.2.2.2.2.2.2.2.2.2⟩; have HG1 := Lib.hid hg; have HB1 := Lib.hid hb1; clear hb1 hg))
  have HTK := Lib.hid (trk_new (HDB.out.mono HB1.out.size (fun _ hp => HB1.out.cell hp)) (Nat.le_refl _) HG1.out)
  have HBX : Hid (Below w.heap.size w (w1.alloc (.cells (#[.slice A0 L.nodes.length c0, .slice A1 L.secs.length c1, .slice A2 L.parts.length c2, .slice A3 L.points.length c3, .slice A4 L.routes.length c4, .int .i64 L.speed, .int .i64 L.mute, .int .i64 L.wait, .int .i64 L.cancel, .int .i64 L.stay, .pointer (some ⟨gg, 0, none⟩)]) 68))) := (HBB.out.trans (HB1.out.mono HBB.out.size)).alloc (Nat.le_trans HBB.out.size HB1.out.size) _
  obtain ⟨tb, htb⟩ : ∃ b, b = w1.heap.size := ⟨_, rfl⟩
  rw [← htb] at HTK ⊢
  have HSS : Hid (w.heap.size ≤ (w1.alloc (.cells (#[.slice A0 L.nodes.length c0, .slice A1 L.secs.length c1, .slice A2 L.parts.length c2, .slice A3 L.points.length c3, .slice A4 L.routes.length c4, .int .i64 L.speed, .int .i64 L.mute, .int .i64 L.wait, .int .i64 L.cancel, .int .i64 L.stay, .pointer (some ⟨gg, 0, none⟩)]) 68)).heap.size) := HBX.out.size
  generalize (w1.alloc (.cells (#[.slice A0 L.nodes.length c0, .slice A1 L.secs.length c1, .slice A2 L.parts.length c2, .slice A3 L.points.length c3, .slice A4 L.routes.length c4, .int .i64 L.speed, .int .i64 L.mute, .int .i64 L.wait, .int .i64 L.cancel, .int .i64 L.stay, .pointer (some ⟨gg, 0, none⟩)]) 68)) = W2 at *
  clear s0 s1 s2 hbz hn1 htb HG1 HB1 HVB HDB HBB HN0
  go_wp2_with fail
  refine (rules_any W2 W2.heap.size _ L HTK.out).mono ?_; rintro e w3 ⟨g, rfl, hr, hb⟩
  have HR3 := Lib.hid hr
  have HB3 : Hid (Below w.heap.size w w3) := HBX.out.trans (hb.mono HSS.out)
  have HTK3 : Hid (∀ W, Below w3.heap.size w3 W → IsTrk W W2.heap.size (.pointer (some ⟨tb, 0, none⟩)) L ∧ W2.heap.size ≤ W.heap.size) := fun W hW => ⟨(HTK.out.keep hb (Nat.le_refl _)).keep hW hb.size, Nat.le_trans hb.size hW.size⟩
  clear hr hb HTK HBX
  go_wp2_with fail
  go_loopw [16] (fun i wr => ∃ k : Nat, k ≤ 17 ∧ i = .int .i64 k ∧ Hid ((∀ k', k' < k → Holds17 L k') ∧ Below w3.heap.size w3 wr)) (fun i _ => 17 - (intOf i).toNat)
  case atStart => exact ⟨0, Nat.zero_le _, rfl, fun k' h => by omega, Below.refl _ _⟩
  case round =>
    obtain ⟨k, hk, rfl, HJ⟩ := hrel
    by_cases hlt : k < 17
    · obtain ⟨r0, r1, r2⟩ := rulesC_get L (.pointer (some ⟨tb, 0, none⟩)) k hlt
      have hrow := Below.row HJ.out.2 HR3.out HR3.out.lt
      have c0 := hrow.cell (k * 3); have c1 := hrow.cell (k * 3 + 1); have c2 := hrow.cell (k * 3 + 2)
      rw [List.getElem?_toArray] at c0 c1 c2
      rw [r0] at c0; rw [r1] at c1; rw [r2] at c2
      have HLE : Hid (ruleN L k ≤ 1000) := ruleN_le HVV.out k hlt
      have HBAD : Hid (∀ p, p < ruleN L k → (∀ p', p' < p → ruleB L k p' = true) → ruleB L k p = false → firstL L = (ruleNo k, p)) := fun p hp hall hb => firstL_bad hlt HJ.out.1 hp hall hb
      have HRU : Hid (∀ W, Below w3.heap.size w3 W → ∀ p, p < ruleN L k → Calls Tryz.prog (ruleF k) #[.pointer (some ⟨tb, 0, none⟩), .int .i64 (p : Int)] W (RetL (ruleB L k p) W)) := fun W hW p hp => rule_any W W2.heap.size _ L HVV.out (HTK3.out W hW).1 (HTK3.out W hW).2 k p hlt hp HJ.out.1
      have HNX : Hid ((∀ p, p < ruleN L k → ruleB L k p = true) → ∀ k', k' < k + 1 → Holds17 L k') := fun hall k' hk' => by
        rcases Nat.lt_or_ge k' k with h | h
        · exact HJ.out.1 k' h
        · have e : k' = k := by omega
          rw [e]; exact hall
      have HBK := Lib.hid HJ.out.2
      have hen := ruleF_enter k hlt
      generalize ruleN L k = pl at *
      generalize ruleNo k = no at *
      generalize ruleF k = fn at *
      have hk3 : (k : Int) < 17 := by omega
      have HRB := Lib.hid (Row.new wr 73 #[.int .i64 (no : Int), .int .i64 (pl : Int), .func (.func fn) #[.pointer (some ⟨tb, 0, none⟩)] #[]])
      have HBL : Hid (Below w3.heap.size w3 (wr.alloc (.cells #[.int .i64 (no : Int), .int .i64 (pl : Int), .func (.func fn) #[.pointer (some ⟨tb, 0, none⟩)] #[]] 73))) := HBK.out.alloc HBK.out.size _
      clear hrow r0 r1 r2 HJ
      have hple := HLE.out
      go_upto_region 5 with (fail)
      obtain ⟨nb, hnb⟩ : ∃ b, b = wr.heap.size := ⟨_, rfl⟩
      rw [← hnb] at HRB ⊢
      generalize wr.alloc (.cells #[.int .i64 (no : Int), .int .i64 (pl : Int), .func (.func fn) #[.pointer (some ⟨tb, 0, none⟩)] #[]] 73) = w4 at *
      have d1 := HRB.out.cell 1
      simp only [List.getElem?_toArray, List.getElem?_cons_zero, List.getElem?_cons_succ] at d1
      clear hnb c0 c1 c2
      go_wp2_with fail
      clear d1
      go_loopw [22] (fun i wr => ∃ p : Nat, p ≤ pl ∧ i = .int .i64 p ∧ Hid ((∀ p', p' < p → ruleB L k p' = true) ∧ Below w3.heap.size w3 wr ∧ Row wr nb 73 #[.int .i64 (no : Int), .int .i64 (pl : Int), .func (.func fn) #[.pointer (some ⟨tb, 0, none⟩)] #[]])) (fun i _ => pl - (intOf i).toNat)
      case atStart => exact ⟨0, Nat.zero_le _, rfl, fun p' h => by omega, HBL.out, HRB.out⟩
      case round =>
        obtain ⟨p, hp, rfl, HI⟩ := hrel
        by_cases hltp : p < pl
        · have d0 := HI.out.2.2.cell 0; have d2 := HI.out.2.2.cell 2
          simp only [List.getElem?_toArray, List.getElem?_cons_zero, List.getElem?_cons_succ] at d0 d2
          have hen2 := hen #[.pointer (some ⟨tb, 0, none⟩), .int .i64 (p : Int)] wr
          have HCALL := Lib.hid (HRU.out wr HI.out.2.1 p hltp)
          have HBP := Lib.hid (HBAD.out p hltp HI.out.1)
          have HIS : Hid (ruleB L k p = true → ∀ p', p' < p + 1 → ruleB L k p' = true) := fun hb p' hp' => by
            rcases Nat.lt_or_ge p' p with h | h
            · exact HI.out.1 p' h
            · have e : p' = p := by omega
              rw [e]; exact hb
          generalize ruleB L k p = bb at *
          cases bb with
          | true =>
            have HIX := Lib.hid (HIS.out rfl)
            clear HBP HIS
            go_wp2_with fail
            refine HCALL.out.mono ?_; rintro e w5 ⟨rfl, hb⟩
            have HBY : Hid (Below w3.heap.size w3 w5) := HI.out.2.1.trans (hb.mono HI.out.2.1.size)
            have HRY := Lib.hid (Below.row hb HI.out.2.2 HI.out.2.2.lt)
            clear hb d0 d2 HCALL
            go_wp2_with fail
            go_roundw
            case rel => exact ⟨p + 1, by omega, by go_num, HIX.out, HBY.out, HRY.out⟩
            case measure => simp [intOf]; omega
          | false =>
            have HFF := Lib.hid (HBP.out rfl)
            clear HBP HIS
            go_wp2_with fail
            refine HCALL.out.mono ?_; rintro e w5 ⟨rfl, hb⟩
            have HBY : Hid (Below w3.heap.size w3 w5) := HI.out.2.1.trans (hb.mono HI.out.2.1.size)
            have hry := Below.row hb HI.out.2.2 HI.out.2.2.lt
            have d5 := hry.cell 0
            simp only [List.getElem?_toArray, List.getElem?_cons_zero] at d5
            clear hb d0 d2 HCALL hry
            go_wp2_with fail
            rw [HRP.out, HFF.out]
            exact ⟨rfl, HB3.out.trans (HBY.out.mono HB3.out.size)⟩
        · have HIX : Hid (∀ k', k' < k + 1 → Holds17 L k') := HNX.out (fun p' hp' => HI.out.1 p' (by omega))
          have HBY := Lib.hid HI.out.2.1
          go_wp2_with fail
          go_roundw
          case rel => exact ⟨k + 1, by omega, by go_num, HIX.out, HBY.out⟩
          case measure => simp [intOf]; omega
    · have HFF : Hid (firstL L = (0, 0)) := firstL_good fun k' hk' => HJ.out.1 k' (by omega)
      have HBY := Lib.hid HJ.out.2
      clear HJ
      go_wp2_with fail
      rw [HRP.out, HFF.out]
      exact ⟨rfl, HB3.out.trans (HBY.out.mono HB3.out.size)⟩

end Go.Proofs.YtagkgejdammflaaGreat
