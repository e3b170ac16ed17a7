/- Contracts: Path of no graph. -/
import Derived.Test.YtpipkbdkkbcooaaGNil
namespace Go.Proofs.Ytpipkbdkkbcooaa
open Go.RowKit Fl
set_option maxRecDepth 100000

set_option maxHeartbeats 4000000 in
theorem path_nil (w : World) (x y : Int) (b o c : Nat) (hx : w.cell? ⟨b, o, none⟩ = some (.int .i64 x)) (hy : w.cell? ⟨b, o + 1, none⟩ = some (.int .i64 y)) (hc : 2 ≤ c) :
    Calls Try.prog 18 #[.pointer none, .slice (some ⟨b, o, none⟩) 2 c] w fun e w' => e = .returned (.tuple #[.slice none 0 0, .bool false]) ∧ Below w.heap.size w w' := by
  have HR : Hid (Rd w w.heap.size (.slice (some ⟨b, o, none⟩) 2 c) (ivals [x, y])) := by
    refine ⟨_, _, rfl, ⟨(fun e => by cases e), hc⟩, fun _ => ⟨b, o, rfl, cell_lt hx, fun j u hu => ?_⟩⟩
    match j, hu with
    | 0, hu => simp [ivals] at hu; subst hu; exact hx
    | 1, hu => simp [ivals] at hu; subst hu; exact hy
  have HX : Hid (w.cell? ⟨b, o, none⟩ = some (.int .i64 x) ∧ w.cell? ⟨b, o + 1, none⟩ = some (.int .i64 y)) := ⟨hx, hy⟩
  clear hx hy
  obtain ⟨B0, hB0⟩ : ∃ n, n = w.heap.size := ⟨_, rfl⟩
  rw [← hB0]
  have HB0 := Lib.hid hB0
  clear hB0
  go_enter Try.func18, Try.ntmps18
  go_wp2_with fail
  refine (clone38 w _ _ [x, y] HR.out (by simp)).mono ?_; rintro e w1 ⟨v1, rfl, ho1, hb1⟩
  obtain ⟨A1, c1, hv1⟩ := own_slice ho1
  subst hv1
  have HO1 := Lib.hid ho1
  have HB1 : Hid (Below B0 w w1) := by have := HB0.out; rw [this]; exact hb1
  clear ho1 hb1
  go_wp2_with fail
  refine (eachOnce_any w1 w.heap.size _ [x, y] HO1.out (by have := HB1.out.size; omega) (by simp)).mono ?_; rintro e w2 ⟨v2, rfl, ho2, hb2⟩
  obtain ⟨A2, c2, hv2⟩ := own_slice ho2
  subst hv2
  have HB2 : Hid (Below B0 w w2) := by have := HB0.out; rw [this]; rw [this] at HB1; exact HB1.out.trans hb2
  have HC0 : Hid (w2.cell? ⟨b, o, none⟩ = some (.int .i64 x) ∧ w2.cell? ⟨b, o + 1, none⟩ = some (.int .i64 y)) := ⟨(HB2.out.cell (p := ⟨b, o, none⟩) (by have h1 : b < w.heap.size := cell_lt HX.out.1; have := HB0.out; show b < B0; omega)).trans HX.out.1, (HB2.out.cell (p := ⟨b, o + 1, none⟩) (by have h1 : b < w.heap.size := cell_lt HX.out.2; have := HB0.out; show b < B0; omega)).trans HX.out.2⟩
  have hrl := riseL_le [x, y]
  simp only [List.length_cons, List.length_nil, Nat.zero_add] at hrl
  clear ho2 hb2 HB1 HO1 HR
  generalize (riseL [x, y]).length = m at *
  by_cases hm : m < 2
  · go_wp2_with fail
    go_ret2
    exact ⟨rfl, HB2.out⟩
  · have hm2 : ¬ (m : Int) < 2 := by omega
    have hc1 : ¬ c = 1 := by omega
    go_wp2_with fail
    refine wp_loop_rounds 3 ?_
    rw [rounds_succ]
    go_upto_region 6 with (fail)
    have d1 : w2.cell? ⟨b, o, none⟩ = some (.int .i64 x) := HC0.out.1
    refine AnyBut.region (fun w' => w'.cell? ⟨b, o, none⟩ = some (.int .i64 x)) 13 (by kernel_rfl) ?_
    refine AnyBut.take 0 rfl (by kernel_rfl) (by kernel_rfl) (by kernel_rfl) (by kernel_rfl) (by decide) (fun _ _ _ h => h) (yields_of (by rfl) (fun w9 hS => (by have s1 := hS; go_simp; try rfl))) d1 ?_
    refine AnyBut.take 1 rfl (by kernel_rfl) (by kernel_rfl) (by kernel_rfl) (by kernel_rfl) (by decide) (fun _ _ _ h => h) (yields_of (by rfl) (fun w9 hS => (by have s1 := hS; go_simp; try rfl))) d1 ?_
    refine AnyBut.take 2 rfl (by kernel_rfl) (by kernel_rfl) (by kernel_rfl) (by kernel_rfl) (by decide) (fun _ _ _ h => h) (yields_of (by rfl) (fun w9 hS => (by have s1 := hS; go_simp; try rfl))) d1 ?_
    refine AnyBut.take 3 rfl (by kernel_rfl) (by kernel_rfl) (by kernel_rfl) (by kernel_rfl) (by decide) (fun _ _ _ h => h) (yields_of (by rfl) (fun w9 hS => (by have s1 := hS; go_simp; try rfl))) d1 ?_
    refine AnyBut.take 4 rfl (by kernel_rfl) (by kernel_rfl) (by kernel_rfl) (by kernel_rfl) (by decide) (fun _ _ _ h => h) (yields_of (by rfl) (fun w9 hS => (by have s1 := hS; go_simp; try rfl))) d1 ?_
    refine AnyBut.take 5 rfl (by kernel_rfl) (by kernel_rfl) (by kernel_rfl) (by kernel_rfl) (by decide) (fun _ _ _ h => h) (yields_of (by rfl) (fun w9 hS => (by have s1 := hS; go_simp; try rfl))) d1 ?_
    refine AnyBut.take 6 rfl (by kernel_rfl) (by kernel_rfl) (by kernel_rfl) (by kernel_rfl) (by decide) (fun _ _ _ h => h) (yields_of (by rfl) (fun w9 hS => (by have s1 := hS; go_simp; try rfl))) d1 ?_
    refine AnyBut.take 7 rfl (by kernel_rfl) (by kernel_rfl) (by kernel_rfl) (by kernel_rfl) (by decide) (fun _ _ _ h => h) (yields_of (by rfl) (fun w9 hS => (by have s1 := hS; go_simp; try rfl))) d1 ?_
    refine AnyBut.one 8 rfl (by kernel_rfl) (by rfl) ?_
    go_simp
    have hdy : w2.drew.cell? ⟨b, o + 1, none⟩ = some (.int .i64 y) := HC0.out.2
    with_reducible refine (way_nil w2.drew x 0 y b (o + 1) (c - 1) hdy).mono ?_
    rintro e w3 ⟨rfl, hb⟩
    have HC1 : Hid (w3.cell? ⟨b, o, none⟩ = some (.int .i64 x) ∧ w3.cell? ⟨b, o + 1, none⟩ = some (.int .i64 y)) := ⟨(hb.cell (p := ⟨b, o, none⟩) (cell_lt HC0.out.1)).trans HC0.out.1, (hb.cell (p := ⟨b, o + 1, none⟩) (cell_lt HC0.out.2)).trans HC0.out.2⟩
    have HB3 : Hid (Below B0 w w3) := (HB2.out.drew).trans (hb.mono (by have := HB2.out.size; have := HB0.out; show B0 ≤ w2.heap.size; omega))
    clear hb d1 hdy
    refine ⟨HC1.out.1, ?_⟩
    refine AnyBut.take 9 rfl (by kernel_rfl) (by kernel_rfl) (by kernel_rfl) (by kernel_rfl) (by decide) (fun _ _ _ h => h) (yields_of (by rfl) (fun w9 hS => (by have s1 := hS; go_simp; try rfl))) HC1.out.1 ?_
    refine AnyBut.take 10 rfl (by kernel_rfl) (by kernel_rfl) (by kernel_rfl) (by kernel_rfl) (by decide) (fun _ _ _ h => h) (yields_of (by rfl) (fun w9 hS => (by have s1 := hS; go_simp; try rfl))) HC1.out.1 ?_
    refine AnyBut.take 11 rfl (by kernel_rfl) (by kernel_rfl) (by kernel_rfl) (by kernel_rfl) (by decide) (fun _ _ _ h => h) (yields_of (by rfl) (fun w9 hS => (by have s1 := hS; go_simp; try rfl))) HC1.out.1 ?_
    refine AnyBut.one 12 rfl (by kernel_rfl) (by rfl) ?_
    go_simp
    refine ⟨HC1.out.1, ?_⟩
    refine AnyBut.one 13 rfl (by kernel_rfl) (by rfl) ?_
    go_simp
    refine AnyBut.done (by kernel_rfl) ?_
    go_wp2_with fail
    rw [rounds_succ]
    go_upto_region 6 with (fail)
    have d1 : w3.cell? ⟨b, o, none⟩ = some (.int .i64 x) := HC1.out.1
    refine AnyBut.region (fun w' => w'.cell? ⟨b, o, none⟩ = some (.int .i64 x)) 13 (by kernel_rfl) ?_
    refine AnyBut.take 0 rfl (by kernel_rfl) (by kernel_rfl) (by kernel_rfl) (by kernel_rfl) (by decide) (fun _ _ _ h => h) (yields_of (by rfl) (fun w9 hS => (by have s1 := hS; go_simp; try rfl))) d1 ?_
    refine AnyBut.take 1 rfl (by kernel_rfl) (by kernel_rfl) (by kernel_rfl) (by kernel_rfl) (by decide) (fun _ _ _ h => h) (yields_of (by rfl) (fun w9 hS => (by have s1 := hS; go_simp; try rfl))) d1 ?_
    refine AnyBut.take 2 rfl (by kernel_rfl) (by kernel_rfl) (by kernel_rfl) (by kernel_rfl) (by decide) (fun _ _ _ h => h) (yields_of (by rfl) (fun w9 hS => (by have s1 := hS; go_simp; try rfl))) d1 ?_
    refine AnyBut.take 3 rfl (by kernel_rfl) (by kernel_rfl) (by kernel_rfl) (by kernel_rfl) (by decide) (fun _ _ _ h => h) (yields_of (by rfl) (fun w9 hS => (by have s1 := hS; go_simp; try rfl))) d1 ?_
    refine AnyBut.take 4 rfl (by kernel_rfl) (by kernel_rfl) (by kernel_rfl) (by kernel_rfl) (by decide) (fun _ _ _ h => h) (yields_of (by rfl) (fun w9 hS => (by have s1 := hS; go_simp; try rfl))) d1 ?_
    refine AnyBut.take 5 rfl (by kernel_rfl) (by kernel_rfl) (by kernel_rfl) (by kernel_rfl) (by decide) (fun _ _ _ h => h) (yields_of (by rfl) (fun w9 hS => (by have s1 := hS; go_simp; try rfl))) d1 ?_
    refine AnyBut.take 6 rfl (by kernel_rfl) (by kernel_rfl) (by kernel_rfl) (by kernel_rfl) (by decide) (fun _ _ _ h => h) (yields_of (by rfl) (fun w9 hS => (by have s1 := hS; go_simp; try rfl))) d1 ?_
    refine AnyBut.take 7 rfl (by kernel_rfl) (by kernel_rfl) (by kernel_rfl) (by kernel_rfl) (by decide) (fun _ _ _ h => h) (yields_of (by rfl) (fun w9 hS => (by have s1 := hS; go_simp; try rfl))) d1 ?_
    refine AnyBut.one 8 rfl (by kernel_rfl) (by rfl) ?_
    go_simp
    have hdy : w3.drew.cell? ⟨b, o + 1, none⟩ = some (.int .i64 y) := HC1.out.2
    with_reducible refine (way_nil w3.drew x 1 y b (o + 1) (c - 1) hdy).mono ?_
    rintro e w4 ⟨rfl, hb⟩
    have HC2 : Hid (w4.cell? ⟨b, o, none⟩ = some (.int .i64 x) ∧ w4.cell? ⟨b, o + 1, none⟩ = some (.int .i64 y)) := ⟨(hb.cell (p := ⟨b, o, none⟩) (cell_lt HC1.out.1)).trans HC1.out.1, (hb.cell (p := ⟨b, o + 1, none⟩) (cell_lt HC1.out.2)).trans HC1.out.2⟩
    have HB4 : Hid (Below B0 w w4) := (HB3.out.drew).trans (hb.mono (by have := HB3.out.size; have := HB0.out; show B0 ≤ w3.heap.size; omega))
    clear hb d1 hdy
    refine ⟨HC2.out.1, ?_⟩
    refine AnyBut.take 9 rfl (by kernel_rfl) (by kernel_rfl) (by kernel_rfl) (by kernel_rfl) (by decide) (fun _ _ _ h => h) (yields_of (by rfl) (fun w9 hS => (by have s1 := hS; go_simp; try rfl))) HC2.out.1 ?_
    refine AnyBut.take 10 rfl (by kernel_rfl) (by kernel_rfl) (by kernel_rfl) (by kernel_rfl) (by decide) (fun _ _ _ h => h) (yields_of (by rfl) (fun w9 hS => (by have s1 := hS; go_simp; try rfl))) HC2.out.1 ?_
    refine AnyBut.take 11 rfl (by kernel_rfl) (by kernel_rfl) (by kernel_rfl) (by kernel_rfl) (by decide) (fun _ _ _ h => h) (yields_of (by rfl) (fun w9 hS => (by have s1 := hS; go_simp; try rfl))) HC2.out.1 ?_
    refine AnyBut.one 12 rfl (by kernel_rfl) (by rfl) ?_
    go_simp
    refine ⟨HC2.out.1, ?_⟩
    refine AnyBut.one 13 rfl (by kernel_rfl) (by rfl) ?_
    go_simp
    refine AnyBut.done (by kernel_rfl) ?_
    go_wp2_with fail
    rw [rounds_succ]
    go_wp2_with fail
    go_ret2
    exact ⟨rfl, HB4.out⟩

end Go.Proofs.Ytpipkbdkkbcooaa
