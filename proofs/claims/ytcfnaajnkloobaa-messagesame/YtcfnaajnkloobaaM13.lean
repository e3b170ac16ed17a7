/- Contract: the law's own messages, whose trails are known to lie in blocks of numbers. -/
import Derived.Test.YtcfnaajnkloobaaM12
namespace Go.Proofs.Ytcfnaajnkloobaa
open Go.RowKit
set_option maxRecDepth 100000

/-- A message that was made; its trail lies in a block of numbers. -/
def RetMsgT (m : Msg) (w : World) (e : Ending) (w' : World) : Prop := ∃ v, e = .returned (msgV m v) ∧ Tl w' 3 v (ivals m.trail) ∧ Below w.heap.size w w'

theorem Tl.msg {w : World} {m : Msg} {v : Value} (h : Tl w 3 v (ivals m.trail)) : MsgV w w.heap.size (msgV m v) m := ⟨v, rfl, h.rd⟩

theorem Tl.slice {w : World} {t : TypeId} {v : Value} {xs : List Value} (h : Tl w t v xs) : ∃ A l c, v = .slice A l c := by obtain ⟨A, c, e, _⟩ := h; exact ⟨A, _, c, e⟩

theorem Tl.below {w w' : World} {t : TypeId} {v : Value} {xs : List Value} (h : Tl w t v xs) (hb : Below w.heap.size w w') : Tl w' t v xs := h.kept (KeptL.of_below (S := []) hb) (by intro k hk; simp at hk)

set_option maxHeartbeats 2000000 in
theorem ofSay_t (w : World) (s : Sy) (v : Value) (hs : SyOk s) (hv : Rd w w.heap.size v (bvals s.trail)) : Calls Try.prog 9 #[sayV s v] w (RetMsgT (ofL s) w) := by
  obtain ⟨i3, hi3, hz30, hz31, hz32⟩ := info_parts Try.info3
  obtain ⟨k, t, d, n, a, b, l⟩ := s
  have h1 := hs.kind; have h2 := hs.train; have h3 := hs.dir; have h4 := hs.time; have h5 := hs.ahead
  have HL := Lib.hid hs.trail
  clear hs
  unfold sayV
  simp only at *
  obtain ⟨A, c, rfl, -, hx⟩ := id hv
  rw [bvals_length] at *
  obtain ⟨R, hR⟩ : ∃ R, ofL ⟨k, t, d, n, a, b, l⟩ = R := ⟨_, rfl⟩
  rw [hR]
  have HRR := Lib.hid hR
  clear hR hv
  obtain ⟨ln, hln⟩ : ∃ m, m = l.length := ⟨_, rfl⟩
  rw [← hln] at hx ⊢
  have HLN := Lib.hid hln; have HX := Lib.hid hx
  clear hln hx
  obtain ⟨K, hK⟩ : ∃ K : Nat, 1 + (k : Int) % 6 = (K : Int) := ⟨1 + k % 6, by omega⟩
  obtain ⟨T, hT⟩ : ∃ T : Nat, (t : Int) % 64 = (T : Int) := ⟨t % 64, by omega⟩
  obtain ⟨M, hM⟩ : ∃ M : Nat, (n : Int) % 33554432 = (M : Int) := ⟨n % 33554432, by omega⟩
  have HE := Lib.hid (os_of w #[.int .u8 (k : Int), .int .u8 (t : Int), .int .u8 (d : Int), .int .u32 (n : Int), .int .u16 (a : Int), .bool b, .slice A ln c] #[.int .u8 (K : Int), .int .i64 (T : Int), .int .i64 (M : Int), .int .i64 0, .int .i64 0, .bool false, .slice none 0 0])
  have q0 := (Row.new w 26 #[.int .u8 (k : Int), .int .u8 (t : Int), .int .u8 (d : Int), .int .u32 (n : Int), .int .u16 (a : Int), .bool b, .slice A ln c]).alloc (.cells #[.int .u8 0, .int .i64 0, .int .i64 0, .int .i64 0, .int .i64 0, .bool false, .slice none 0 0] 29)
  have g0 := q0.cell 0; have g1 := q0.cell 1; have g3 := q0.cell 3
  simp only [List.getElem?_toArray, List.getElem?_cons_zero, List.getElem?_cons_succ] at g0 g1 g3
  clear q0
  have HK : Hid (K = 1 + k % 6 ∧ T = t % 64 ∧ M = n % 33554432) := ⟨by omega, by omega, by omega⟩
  have HK2 := Lib.hid hK; have HT2 := Lib.hid hT; have HM2 := Lib.hid hM
  clear hK hT hM
  go_enter Try.func9, Try.ntmps9
  go_upto_region 1 with (fail)
  generalize hW0 : (w.alloc (.cells #[.int .u8 (k : Int), .int .u8 (t : Int), .int .u8 (d : Int), .int .u32 (n : Int), .int .u16 (a : Int), .bool b, .slice A ln c] 26)).alloc (.cells #[.int .u8 0, .int .i64 0, .int .i64 0, .int .i64 0, .int .i64 0, .bool false, .slice none 0 0] 29) = W0 at *
  have HZ0 : Hid (W0.heap.size = w.heap.size + 2) := by show _ = _; rw [← hW0, World.size_alloc, World.size_alloc]
  clear hW0
  go_upto_region 2 with (fail)
  rw [HK2.out, HT2.out, HM2.out, HZ0.out]
  generalize W0.alloc (.cells #[.int .u8 (K : Int), .int .i64 (T : Int), .int .i64 (M : Int), .int .i64 0, .int .i64 0, .bool false, .slice none 0 0] 29) = W1 at *
  obtain ⟨n0, hn0⟩ : ∃ m, m = w.heap.size := ⟨_, rfl⟩
  rw [← hn0] at HE HX ⊢
  have HN0 := Lib.hid hn0
  clear hn0 g0 g1 g3 HZ0 HK2 HT2 HM2 h1 h2 h4
  have hK7 : K < 256 := by have := HK.out; omega
  have f0 := HE.out.msg.cell 0
  simp only [List.getElem?_toArray, List.getElem?_cons_zero] at f0
  by_cases c3 : K = 3
  · have e3 : ((K : Int) == 3) = true := by simp; omega
    have HK3 : Hid (K = 3) := c3
    clear c3
    obtain ⟨D, hD⟩ : ∃ D : Nat, (d : Int) % 2 = (D : Int) := ⟨d % 2, by omega⟩
    obtain ⟨H, hH⟩ : ∃ H : Nat, (a : Int) % 16384 = (H : Int) := ⟨a % 16384, by omega⟩
    have HDH : Hid (((d % 2 : Nat) : Int) = (D : Int) ∧ ((a % 16384 : Nat) : Int) = (H : Int)) := ⟨by omega, by omega⟩
    have hDt : (d : Int).tmod 2 = (D : Int) := by rw [Int.tmod_eq_emod_of_nonneg (by omega)]; exact hD
    have hHt : (a : Int).tmod 16384 = (H : Int) := by rw [Int.tmod_eq_emod_of_nonneg (by omega)]; exact hH
    have hDw : IntKind.i64.wrap (D : Int) = (D : Int) := i64_small D (by omega)
    have hHw : IntKind.i64.wrap (H : Int) = (H : Int) := i64_small H (by omega)
    clear hD hH h3 h5
    go_upto_region 3 with (fail)
    clear f0
    have d2 := HE.out.say.cell 2; have d4 := HE.out.say.cell 4; have d5 := HE.out.say.cell 5
    simp only [List.getElem?_toArray, List.getElem?_cons_zero, List.getElem?_cons_succ] at d2 d4 d5
    refine AnyBut.region (fun w' => w'.cell? ⟨n0, 2, none⟩ = some (.int .u8 (d : Int)) ∧ w'.cell? ⟨n0, 4, none⟩ = some (.int .u16 (a : Int)) ∧ w'.cell? ⟨n0, 5, none⟩ = some (.bool b)) 15 (by kernel_rfl) ?_
    refine AnyBut.take 0 rfl (by kernel_rfl) (by kernel_rfl) (by kernel_rfl) (by kernel_rfl) (by decide) (fun _ _ _ h => h) (yields_of (by rfl) (fun w9 hS => (by obtain ⟨s1, s2, s3⟩ := hS; go_simp; try rfl))) ⟨d2, d4, d5⟩ ?_
    refine AnyBut.take 1 rfl (by kernel_rfl) (by kernel_rfl) (by kernel_rfl) (by kernel_rfl) (by decide) (fun _ _ _ h => h) (yields_of (by rfl) (fun w9 hS => (by obtain ⟨s1, s2, s3⟩ := hS; go_simp; try rfl))) ⟨d2, d4, d5⟩ ?_
    refine AnyBut.take 2 (v := .int .u8 (D : Int)) rfl (by kernel_rfl) (by kernel_rfl) (by kernel_rfl) (by kernel_rfl) (by decide) (fun _ _ _ h => h) (yields_of (by rfl) (fun w9 hS => (by obtain ⟨s1, s2, s3⟩ := hS; go_simp; try rfl))) ⟨d2, d4, d5⟩ ?_
    refine AnyBut.take 3 (v := .int .i64 (D : Int)) rfl (by kernel_rfl) (by kernel_rfl) (by kernel_rfl) (by kernel_rfl) (by decide) (fun _ _ _ h => h) (yields_of (by rfl) (fun w9 hS => (by obtain ⟨s1, s2, s3⟩ := hS; go_simp; try rfl))) ⟨d2, d4, d5⟩ ?_
    refine AnyBut.take 4 rfl (by kernel_rfl) (by kernel_rfl) (by kernel_rfl) (by kernel_rfl) (by decide) (fun _ _ _ h => h) (yields_of (by rfl) (fun w9 hS => (by obtain ⟨s1, s2, s3⟩ := hS; go_simp; try rfl))) ⟨d2, d4, d5⟩ ?_
    refine AnyBut.take 5 rfl (by kernel_rfl) (by kernel_rfl) (by kernel_rfl) (by kernel_rfl) (by decide) (fun _ _ _ h => h) (yields_of (by rfl) (fun w9 hS => (by obtain ⟨s1, s2, s3⟩ := hS; go_simp; try rfl))) ⟨d2, d4, d5⟩ ?_
    refine AnyBut.take 6 (v := .int .u16 (H : Int)) rfl (by kernel_rfl) (by kernel_rfl) (by kernel_rfl) (by kernel_rfl) (by decide) (fun _ _ _ h => h) (yields_of (by rfl) (fun w9 hS => (by obtain ⟨s1, s2, s3⟩ := hS; go_simp; try rfl))) ⟨d2, d4, d5⟩ ?_
    refine AnyBut.take 7 (v := .int .i64 (H : Int)) rfl (by kernel_rfl) (by kernel_rfl) (by kernel_rfl) (by kernel_rfl) (by decide) (fun _ _ _ h => h) (yields_of (by rfl) (fun w9 hS => (by obtain ⟨s1, s2, s3⟩ := hS; go_simp; try rfl))) ⟨d2, d4, d5⟩ ?_
    refine AnyBut.take 8 rfl (by kernel_rfl) (by kernel_rfl) (by kernel_rfl) (by kernel_rfl) (by decide) (fun _ _ _ h => h) (yields_of (by rfl) (fun w9 hS => (by obtain ⟨s1, s2, s3⟩ := hS; go_simp; try rfl))) ⟨d2, d4, d5⟩ ?_
    refine AnyBut.take 9 rfl (by kernel_rfl) (by kernel_rfl) (by kernel_rfl) (by kernel_rfl) (by decide) (fun _ _ _ h => h) (yields_of (by rfl) (fun w9 hS => (by obtain ⟨s1, s2, s3⟩ := hS; go_simp; try rfl))) ⟨d2, d4, d5⟩ ?_
    have HED : Hid (OS w W1.drew n0 #[.int .u8 (k : Int), .int .u8 (t : Int), .int .u8 (d : Int), .int .u32 (n : Int), .int .u16 (a : Int), .bool b, .slice A ln c] #[.int .u8 (K : Int), .int .i64 (T : Int), .int .i64 (M : Int), .int .i64 0, .int .i64 0, .bool false, .slice none 0 0]) := HE.out.drewN 1
    clear HE hDt hHt hDw hHw
    have hcs := HED.out.msg
    have c3 := hcs.cell 3; have z3 := hcs.frozen 3
    simp only [List.getElem?_toArray, List.getElem?_cons_zero, List.getElem?_cons_succ] at c3
    clear hcs
    refine AnyBut.one 10 rfl (by kernel_rfl) (by rfl) ?_
    go_simp
    refine AnyBut.one 11 rfl (by kernel_rfl) (by rfl) ?_
    go_simp
    have HE1 : Hid (OS w (W1.setCell ⟨n0 + 2, 3, none⟩ (.int .i64 (D : Int))).drew n0 #[.int .u8 (k : Int), .int .u8 (t : Int), .int .u8 (d : Int), .int .u32 (n : Int), .int .u16 (a : Int), .bool b, .slice A ln c] #[.int .u8 (K : Int), .int .i64 (T : Int), .int .i64 (M : Int), .int .i64 (D : Int), .int .i64 0, .bool false, .slice none 0 0]) := HED.out.set 3 _
    clear c3 z3 d2 d4 d5 HED
    generalize (W1.setCell ⟨n0 + 2, 3, none⟩ (.int .i64 (D : Int))).drew = V1 at *
    have d2 := HE1.out.say.cell 2; have d4 := HE1.out.say.cell 4; have d5 := HE1.out.say.cell 5
    have c4 := HE1.out.msg.cell 4; have z4 := HE1.out.msg.frozen 4
    simp only [List.getElem?_toArray, List.getElem?_cons_zero, List.getElem?_cons_succ] at d2 d4 d5 c4
    refine AnyBut.one 12 rfl (by kernel_rfl) (by rfl) ?_
    go_simp
    refine AnyBut.one 13 rfl (by kernel_rfl) (by rfl) ?_
    go_simp
    have HE2 : Hid (OS w (V1.setCell ⟨n0 + 2, 4, none⟩ (.int .i64 (H : Int))) n0 #[.int .u8 (k : Int), .int .u8 (t : Int), .int .u8 (d : Int), .int .u32 (n : Int), .int .u16 (a : Int), .bool b, .slice A ln c] #[.int .u8 (K : Int), .int .i64 (T : Int), .int .i64 (M : Int), .int .i64 (D : Int), .int .i64 (H : Int), .bool false, .slice none 0 0]) := HE1.out.set 4 _
    clear c4 z4 d2 d4 d5 HE1
    generalize V1.setCell ⟨n0 + 2, 4, none⟩ (.int .i64 (H : Int)) = V2 at *
    have d2 := HE2.out.say.cell 2; have d4 := HE2.out.say.cell 4; have d5 := HE2.out.say.cell 5
    have c5 := HE2.out.msg.cell 5; have z5 := HE2.out.msg.frozen 5
    simp only [List.getElem?_toArray, List.getElem?_cons_zero, List.getElem?_cons_succ] at d2 d4 d5 c5
    refine AnyBut.one 14 rfl (by kernel_rfl) (by rfl) ?_
    go_simp
    refine AnyBut.one 15 rfl (by kernel_rfl) (by rfl) ?_
    go_simp
    refine AnyBut.done (by kernel_rfl) ?_
    have HE : Hid (OS w (V2.setCell ⟨n0 + 2, 5, none⟩ (.bool b)) n0 #[.int .u8 (k : Int), .int .u8 (t : Int), .int .u8 (d : Int), .int .u32 (n : Int), .int .u16 (a : Int), .bool b, .slice A ln c] #[.int .u8 (K : Int), .int .i64 (T : Int), .int .i64 (M : Int), .int .i64 (D : Int), .int .i64 (H : Int), .bool b, .slice none 0 0]) := HE2.out.set 5 _
    clear c5 z5 d2 d4 d5 HE2
    generalize V2.setCell ⟨n0 + 2, 5, none⟩ (.bool b) = V3 at *
    have HSZ : Hid (n0 + 2 < V3.heap.size) := HE.out.msg.lt
    go_wp2_with fail
    go_loopw [4] (fun z wr => ∃ i : Nat, i ≤ ln ∧ i ≤ 15 ∧ (hasT K = false → i = 0) ∧ z = .int .i64 (i : Int) ∧ Hid (∃ vt, OS w wr n0 #[.int .u8 (k : Int), .int .u8 (t : Int), .int .u8 (d : Int), .int .u32 (n : Int), .int .u16 (a : Int), .bool b, .slice A ln c] #[.int .u8 (K : Int), .int .i64 (T : Int), .int .i64 (M : Int), .int .i64 (D : Int), .int .i64 (H : Int), .bool b, vt] ∧ wr.ownsRow V3.heap.size 3 1 vt i (ivals ((l.take i).map fun x => ((x % 64 : Nat) : Int))) ∧ V3.heap.size ≤ wr.heap.size)) (fun z _ => 15 - (intOf z).toNat)
    case atStart => exact ⟨0, Nat.zero_le _, Nat.zero_le _, fun _ => rfl, rfl, .slice none 0 0, HE.out, World.ownsRow_nil _ _ _ _, Nat.le_refl _⟩
    case round =>
      obtain ⟨i, hi, hi15, hiT, rfl, HI⟩ := hrel
      obtain ⟨vt, hds, hown, hsz⟩ := HI.out
      obtain ⟨At, ct, hvt⟩ := own_slice hown
      subst hvt
      have HE2 := Lib.hid hds; have HO := Lib.hid hown; have HWZ := Lib.hid hsz
      have HIT := Lib.hid hiT
      clear hds hown hsz HI HE hiT
      have HE := HE2; clear HE2
      have f6 := HE.out.say.cell 6; have f0 := HE.out.msg.cell 0
      simp only [List.getElem?_toArray, List.getElem?_cons_zero, List.getElem?_cons_succ] at f6 f0
      by_cases hgo : i < ln ∧ i < 15 ∧ hasT K = true
      · obtain ⟨hlt, hlt15, hT⟩ := hgo
        have hl15 : (i : Int) < 15 := by omega
        have hii : i < l.length := by have := HLN.out; omega
        obtain ⟨bb, oo, hA, hbD, hc⟩ := HX.out (by omega)
        subst hA
        have HT3 : Hid (K = 3 ∨ K = 6) := by
          have := hT
          unfold hasT at this
          show K = 3 ∨ K = 6
          simpa using this
        clear hT
        have hcell : wr.cell? ⟨bb, oo + i, none⟩ = some (.int .u8 ((l[i] : Nat) : Int)) := (HE.out.below.cell (p := ⟨bb, oo + i, none⟩) hbD).trans (hc i _ (bvals_get l i hii))
        have hbx := HL.out l[i] (List.getElem_mem hii)
        have HSN := Lib.hid (take_snoc l i hii)
        clear hc
        generalize l[i] = x at *
        obtain ⟨X, hX⟩ : ∃ X : Nat, (x : Int) % 64 = (X : Int) := ⟨x % 64, by omega⟩
        have hXx : x % 64 = X := by omega
        rw [hXx] at HSN
        have hX64 : X < 64 := by omega
        have hXt : (x : Int).tmod 64 = (X : Int) := by rw [Int.tmod_eq_emod_of_nonneg (by omega)]; exact hX
        have hXw : IntKind.i64.wrap (X : Int) = (X : Int) := i64_small X (by omega)
        clear hXx hX
        go_upto_region 7 with (fail)
        have d1 := HE.out.msg.cell 6
        simp only [List.getElem?_toArray, List.getElem?_cons_zero, List.getElem?_cons_succ] at d1
        refine AnyBut.region (fun w' => w'.cell? ⟨n0 + 2, 6, none⟩ = some (.slice At i ct) ∧ w'.cell? ⟨n0, 6, none⟩ = some (.slice (some ⟨bb, oo, none⟩) ln c) ∧ w'.cell? ⟨bb, oo + i, none⟩ = some (.int .u8 (x : Int))) 12 (by kernel_rfl) ?_
        refine AnyBut.take 0 rfl (by kernel_rfl) (by kernel_rfl) (by kernel_rfl) (by kernel_rfl) (by decide) (fun _ _ _ h => h) (yields_of (by rfl) (fun w9 hS => (by obtain ⟨s1, s2, s3⟩ := hS; go_simp; try rfl))) ⟨d1, f6, hcell⟩ ?_
        refine AnyBut.take 1 rfl (by kernel_rfl) (by kernel_rfl) (by kernel_rfl) (by kernel_rfl) (by decide) (fun _ _ _ h => h) (yields_of (by rfl) (fun w9 hS => (by obtain ⟨s1, s2, s3⟩ := hS; go_simp; try rfl))) ⟨d1, f6, hcell⟩ ?_
        refine AnyBut.take 2 rfl (by kernel_rfl) (by kernel_rfl) (by kernel_rfl) (by kernel_rfl) (by decide) (fun _ _ _ h => h) (yields_of (by rfl) (fun w9 hS => (by obtain ⟨s1, s2, s3⟩ := hS; go_simp; try rfl))) ⟨d1, f6, hcell⟩ ?_
        refine AnyBut.take 3 rfl (by kernel_rfl) (by kernel_rfl) (by kernel_rfl) (by kernel_rfl) (by decide) (fun _ _ _ h => h) (yields_of (by rfl) (fun w9 hS => (by obtain ⟨s1, s2, s3⟩ := hS; go_simp; try rfl))) ⟨d1, f6, hcell⟩ ?_
        refine AnyBut.take 4 rfl (by kernel_rfl) (by kernel_rfl) (by kernel_rfl) (by kernel_rfl) (by decide) (fun _ _ _ h => h) (yields_of (by rfl) (fun w9 hS => (by obtain ⟨s1, s2, s3⟩ := hS; go_simp; try rfl))) ⟨d1, f6, hcell⟩ ?_
        refine AnyBut.take 5 rfl (by kernel_rfl) (by kernel_rfl) (by kernel_rfl) (by kernel_rfl) (by decide) (fun _ _ _ h => h) (yields_of (by rfl) (fun w9 hS => (by obtain ⟨s1, s2, s3⟩ := hS; go_simp; try rfl))) ⟨d1, f6, hcell⟩ ?_
        refine AnyBut.take 6 rfl (by kernel_rfl) (by kernel_rfl) (by kernel_rfl) (by kernel_rfl) (by decide) (fun _ _ _ h => h) (yields_of (by rfl) (fun w9 hS => (by obtain ⟨s1, s2, s3⟩ := hS; go_simp; try rfl))) ⟨d1, f6, hcell⟩ ?_
        refine AnyBut.take 7 (v := .int .u8 (X : Int)) rfl (by kernel_rfl) (by kernel_rfl) (by kernel_rfl) (by kernel_rfl) (by decide) (fun _ _ _ h => h) (yields_of (by rfl) (fun w9 hS => (by obtain ⟨s1, s2, s3⟩ := hS; go_simp; try rfl))) ⟨d1, f6, hcell⟩ ?_
        refine AnyBut.take 8 (v := .int .i64 (X : Int)) rfl (by kernel_rfl) (by kernel_rfl) (by kernel_rfl) (by kernel_rfl) (by decide) (fun _ _ _ h => h) (yields_of (by rfl) (fun w9 hS => (by obtain ⟨s1, s2, s3⟩ := hS; go_simp; try rfl))) ⟨d1, f6, hcell⟩ ?_
        refine AnyBut.one 9 rfl (by kernel_rfl) (by rfl) ?_
        go_simp
        refine ⟨⟨cell_alloc d1, cell_alloc f6, cell_alloc hcell⟩, ?_⟩
        have HE8 : Hid (OS w ((wr.alloc (.cells #[.int .i64 (X : Int)] 3)).drew) n0 #[.int .u8 (k : Int), .int .u8 (t : Int), .int .u8 (d : Int), .int .u32 (n : Int), .int .u16 (a : Int), .bool b, .slice (some ⟨bb, oo, none⟩) ln c] #[.int .u8 (K : Int), .int .i64 (T : Int), .int .i64 (M : Int), .int .i64 (D : Int), .int .i64 (H : Int), .bool b, .slice At i ct]) := (HE.out.alloc (.cells #[.int .i64 (X : Int)] 3)).drewN 1
        have HO8 : Hid (((wr.alloc (.cells #[.int .i64 (X : Int)] 3)).drew).ownsRow V3.heap.size 3 1 (.slice At i ct) i (ivals ((l.take i).map fun x => ((x % 64 : Nat) : Int)))) := HO.out.alloc (.cells #[.int .i64 (X : Int)] 3)
        have HW8 : Hid (V3.heap.size ≤ ((wr.alloc (.cells #[.int .i64 (X : Int)] 3)).drew).heap.size) := by
          have h1 := ((Below.refl wr.heap.size wr).alloc (Nat.le_refl _) (.cells #[.int .i64 (X : Int)] 3)).size
          exact Nat.le_trans HWZ.out h1
        have HN8 : Hid (∀ (j : Nat) (u : Value), [.int .i64 (X : Int)][j]? = some u → ((wr.alloc (.cells #[.int .i64 (X : Int)] 3)).drew).cell? ((⟨wr.heap.size, 0, none⟩ : Addr).add j) = some u) := row_new wr 3 [.int .i64 (X : Int)]
        have HCB : Hid (((wr.alloc (.cells #[.int .i64 (X : Int)] 3)).drew).cell? ⟨bb, oo + i, none⟩ = some (.int .u8 (x : Int))) := cell_alloc hcell
        generalize (wr.alloc (.cells #[.int .i64 (X : Int)] 3)).drew = wB at *
        generalize wr.heap.size = gA at *
        clear d1 f6 hcell HE HO HWZ hXt hXw
        refine AnyBut.one 10 rfl (by kernel_rfl) (by rfl) ?_
        refine wp_append_lies wB (.tmp 56) (.tmp 64) 27 rfl V3.heap.size 3 i3 (.int .i64 0) 1 8 Try.underlying27 hi3 hz30 hz31 hz32 rfl (by decide) (.slice At i ct) i _ (by rfl) HO8.out ⟨gA, 0, none⟩ 1 1 [.int .i64 (X : Int)] (by rfl) rfl HN8.out (by intro u hu; simp at hu; subst hu; rfl) (by decide) (by unfold maxLen; omega) (by omega) HW8.out wB.heap.size rfl ?_
        intro g5 c5 w5 hown5 hgrow5 _ _
        rw [show ivals ((l.take i).map fun x => ((x % 64 : Nat) : Int)) ++ [.int .i64 (X : Int)] = ivals ((l.take (i + 1)).map fun x => ((x % 64 : Nat) : Int)) from by rw [HSN.out, ivals_snoc]] at hown5
        have hrb : ∀ k, (Value.slice At i ct).ownBlock = some k → V3.heap.size ≤ k := fun k hk => (HO8.out.lt k hk).1
        have hgr := KeptL.of_grown hgrow5
        have hnd : ∀ k, k < V3.heap.size → k ∉ (Value.slice At i ct).ownBlock.toList := fun k hk hm => by
          have := hrb k (by simpa using hm)
          omega
        have hSZ := HSZ.out
        have e9 : OS w w5 n0 #[.int .u8 (k : Int), .int .u8 (t : Int), .int .u8 (d : Int), .int .u32 (n : Int), .int .u16 (a : Int), .bool b, .slice (some ⟨bb, oo, none⟩) ln c] #[.int .u8 (K : Int), .int .i64 (T : Int), .int .i64 (M : Int), .int .i64 (D : Int), .int .i64 (H : Int), .bool b, .slice At i ct] :=
          ⟨hgr.row HE8.out.say (hnd _ (by omega)), hgr.row HE8.out.res (hnd _ (by omega)), hgr.row HE8.out.msg (hnd _ hSZ), HE8.out.below.grown hgrow5 (Nat.le_of_lt HE8.out.say.lt) (fun k hk => Nat.le_trans (by omega) (hrb k hk))⟩
        have hsz9 : V3.heap.size ≤ w5.heap.size := Nat.le_trans HW8.out hgr.size
        have u1 := e9.msg.cell 6; have z9 := e9.msg.frozen 6; have u6 := e9.say.cell 6
        simp only [List.getElem?_toArray, List.getElem?_cons_zero, List.getElem?_cons_succ] at u1 u6
        have hcell5 : w5.cell? ⟨bb, oo + i, none⟩ = some (.int .u8 (x : Int)) := by
          rw [← HCB.out]
          exact World.cell?_of_block (hgr.block bb (cell_block HCB.out) (hnd bb (by omega)))
        refine ⟨fun _ => ⟨u1, u6, hcell5⟩, ?_⟩
        have HNX : Hid (∃ vt, OS w (w5.setCell ⟨n0 + 2, 6, none⟩ (.slice (some ⟨g5, 0, none⟩) (i + 1) c5)) n0 #[.int .u8 (k : Int), .int .u8 (t : Int), .int .u8 (d : Int), .int .u32 (n : Int), .int .u16 (a : Int), .bool b, .slice (some ⟨bb, oo, none⟩) ln c] #[.int .u8 (K : Int), .int .i64 (T : Int), .int .i64 (M : Int), .int .i64 (D : Int), .int .i64 (H : Int), .bool b, vt] ∧ (w5.setCell ⟨n0 + 2, 6, none⟩ (.slice (some ⟨g5, 0, none⟩) (i + 1) c5)).ownsRow V3.heap.size 3 1 vt (i + 1) (ivals ((l.take (i + 1)).map fun x => ((x % 64 : Nat) : Int))) ∧ V3.heap.size ≤ (w5.setCell ⟨n0 + 2, 6, none⟩ (.slice (some ⟨g5, 0, none⟩) (i + 1) c5)).heap.size) :=
          ⟨_, e9.set 6 _, own_far (a := ⟨n0 + 2, 6, none⟩) hown5 (fun e => by have h1 := (hown5.lt (n0 + 2) e).1; omega) _, by simpa [World.setCell] using hsz9⟩
        clear hown5 hgrow5 hrb e9 hgr hnd hsz9 hSZ
        refine AnyBut.one 11 rfl (by kernel_rfl) (by rfl) ?_
        go_simp
        refine AnyBut.one 12 rfl (by kernel_rfl) (by rfl) ?_
        go_simp
        refine AnyBut.done (by kernel_rfl) ?_
        clear u1 z9 u6 hcell5
        go_wp2_with fail
        go_roundw
        case rel => exact ⟨i + 1, by omega, by omega, fun h => by rcases HT3.out with e | e <;> rw [e] at h <;> simp [hasT] at h, by go_num, HNX⟩
        case measure => simp [intOf]; omega
      · have HR2 : Hid (R = ⟨K, (T : Int), (M : Int), (D : Int), (H : Int), b, (l.take i).map fun x => ((x % 64 : Nat) : Int)⟩) := by
          have hk := HK.out
          show _ = _
          rw [← HRR.out]
          unfold ofL
          simp only
          rw [← hk.1, ← hk.2.1, ← hk.2.2]
          have htr : (if hasT K = true then (l.take 15).map fun x => ((x % 64 : Nat) : Int) else []) = (l.take i).map fun x => ((x % 64 : Nat) : Int) := by
            cases hc : hasT K with
            | true =>
              rw [if_pos rfl]
              have hh : ¬ (i < ln ∧ i < 15) := fun h => hgo ⟨h.1, h.2, hc⟩
              have hlen := HLN.out
              by_cases c15 : i = 15
              · rw [c15]
              · rw [List.take_of_length_le (by omega), List.take_of_length_le (by omega)]
            | false =>
              rw [HIT.out hc]; simp
          rw [htr]
          rw [if_pos HK3.out, if_pos HK3.out, if_pos HK3.out]; rw [HDH.out.1, HDH.out.2]
        have HLE : Hid (((l.take i).map fun x => ((x % 64 : Nat) : Int)).length = i) := by show _ = _; rw [List.length_map, List.length_take]; have := HLN.out; omega
        have hz := HE.out.res; have hy := HE.out.msg
        have q0 := hz.cell 0; have r0 := hz.frozen 0
        have q1 := hz.cell 1; have r1 := hz.frozen 1
        have q2 := hz.cell 2; have r2 := hz.frozen 2
        have q3 := hz.cell 3; have r3 := hz.frozen 3
        have q4 := hz.cell 4; have r4 := hz.frozen 4
        have q5 := hz.cell 5; have r5 := hz.frozen 5
        have q6 := hz.cell 6; have r6 := hz.frozen 6
        have y0 := hy.cell 0
        have y1 := hy.cell 1
        have y2 := hy.cell 2
        have y3 := hy.cell 3
        have y4 := hy.cell 4
        have y5 := hy.cell 5
        have y6 := hy.cell 6
        simp only [List.getElem?_toArray, List.getElem?_cons_zero, List.getElem?_cons_succ] at q0 q1 q2 q3 q4 q5 q6 y0 y1 y2 y3 y4 y5 y6
        have hx : ¬ i < ln ∨ ¬ i < 15 ∨ hasT K = false := by
          by_cases a1 : i < ln
          · by_cases a2 : i < 15
            · right; right
              cases hc : hasT K with
              | true => exact absurd ⟨a1, a2, hc⟩ hgo
              | false => rfl
            · right; left; exact a2
          · left; exact a1
        go_upto_region 5 with (fail)
        go_cut [52] (fun z wx => z = .bool false ∧ wx = wr)
        case first =>
          rcases hx with a1 | a2 | a3
          · go_wp2_with fail
            go_meet
            case rel => exact ⟨rfl, rfl⟩
          · have a2i : ¬ (i : Int) < 15 := by omega
            by_cases a1 : i < ln
            · go_wp2_with fail
              go_meet
              case rel => exact ⟨rfl, rfl⟩
            · go_wp2_with fail
              go_meet
              case rel => exact ⟨rfl, rfl⟩
          · exact absurd a3 (by rw [HK3.out]; decide)
        case rest =>
        obtain ⟨rfl, rfl⟩ := hcut
        clear hx hgo
        go_wp2_with fail
        have hp := put7 hz (.int .u8 (K : Int)) (.int .i64 (T : Int)) (.int .i64 (M : Int)) (.int .i64 (D : Int)) (.int .i64 (H : Int)) (.bool b) (.slice At i ct)
        refine bodyPost_ret (results_cell_row rfl _ _ (n0 + 1) 29 #[.int .u8 (K : Int), .int .i64 (T : Int), .int .i64 (M : Int), .int .i64 (D : Int), .int .i64 (H : Int), .bool b, .slice At i ct] (0, 0) _ rfl hp.1 Try.underlying29 rfl Try.size29) rfl ?_
        rw [HR2.out]
        exact ⟨_, rfl, Tl.of_own (own_keptL HO.out hp.2.2 (Other.one hz (by decide))), by rw [← HN0.out]; exact HE.out.below.trans (hp.2.1.mono (by omega))⟩
  · have e3 : ((K : Int) == 3) = false := by simp; omega
    have HC3 : Hid (K ≠ 3) := c3
    clear c3
    have HSZ : Hid (n0 + 2 < W1.heap.size) := HE.out.msg.lt
    go_wp2_with fail
    go_loopw [4] (fun z wr => ∃ i : Nat, i ≤ ln ∧ i ≤ 15 ∧ (hasT K = false → i = 0) ∧ z = .int .i64 (i : Int) ∧ Hid (∃ vt, OS w wr n0 #[.int .u8 (k : Int), .int .u8 (t : Int), .int .u8 (d : Int), .int .u32 (n : Int), .int .u16 (a : Int), .bool b, .slice A ln c] #[.int .u8 (K : Int), .int .i64 (T : Int), .int .i64 (M : Int), .int .i64 0, .int .i64 0, .bool false, vt] ∧ wr.ownsRow W1.heap.size 3 1 vt i (ivals ((l.take i).map fun x => ((x % 64 : Nat) : Int))) ∧ W1.heap.size ≤ wr.heap.size)) (fun z _ => 15 - (intOf z).toNat)
    case atStart => exact ⟨0, Nat.zero_le _, Nat.zero_le _, fun _ => rfl, rfl, .slice none 0 0, HE.out, World.ownsRow_nil _ _ _ _, Nat.le_refl _⟩
    case round =>
      obtain ⟨i, hi, hi15, hiT, rfl, HI⟩ := hrel
      obtain ⟨vt, hds, hown, hsz⟩ := HI.out
      obtain ⟨At, ct, hvt⟩ := own_slice hown
      subst hvt
      have HE2 := Lib.hid hds; have HO := Lib.hid hown; have HWZ := Lib.hid hsz
      have HIT := Lib.hid hiT
      clear hds hown hsz HI HE hiT
      have HE := HE2; clear HE2
      have f6 := HE.out.say.cell 6; have f0 := HE.out.msg.cell 0
      simp only [List.getElem?_toArray, List.getElem?_cons_zero, List.getElem?_cons_succ] at f6 f0
      by_cases hgo : i < ln ∧ i < 15 ∧ hasT K = true
      · obtain ⟨hlt, hlt15, hT⟩ := hgo
        have hl15 : (i : Int) < 15 := by omega
        have hii : i < l.length := by have := HLN.out; omega
        obtain ⟨bb, oo, hA, hbD, hc⟩ := HX.out (by omega)
        subst hA
        have HT3 : Hid (K = 3 ∨ K = 6) := by
          have := hT
          unfold hasT at this
          show K = 3 ∨ K = 6
          simpa using this
        clear hT
        have hcell : wr.cell? ⟨bb, oo + i, none⟩ = some (.int .u8 ((l[i] : Nat) : Int)) := (HE.out.below.cell (p := ⟨bb, oo + i, none⟩) hbD).trans (hc i _ (bvals_get l i hii))
        have hbx := HL.out l[i] (List.getElem_mem hii)
        have HSN := Lib.hid (take_snoc l i hii)
        clear hc
        generalize l[i] = x at *
        obtain ⟨X, hX⟩ : ∃ X : Nat, (x : Int) % 64 = (X : Int) := ⟨x % 64, by omega⟩
        have hXx : x % 64 = X := by omega
        rw [hXx] at HSN
        have hX64 : X < 64 := by omega
        have hXt : (x : Int).tmod 64 = (X : Int) := by rw [Int.tmod_eq_emod_of_nonneg (by omega)]; exact hX
        have hXw : IntKind.i64.wrap (X : Int) = (X : Int) := i64_small X (by omega)
        clear hXx hX
        have e6 : ((K : Int) == 6) = true := by
          rcases HT3.out with e | e
          · exact absurd e HC3.out
          · simp; omega
        go_upto_region 7 with (fail)
        have d1 := HE.out.msg.cell 6
        simp only [List.getElem?_toArray, List.getElem?_cons_zero, List.getElem?_cons_succ] at d1
        refine AnyBut.region (fun w' => w'.cell? ⟨n0 + 2, 6, none⟩ = some (.slice At i ct) ∧ w'.cell? ⟨n0, 6, none⟩ = some (.slice (some ⟨bb, oo, none⟩) ln c) ∧ w'.cell? ⟨bb, oo + i, none⟩ = some (.int .u8 (x : Int))) 12 (by kernel_rfl) ?_
        refine AnyBut.take 0 rfl (by kernel_rfl) (by kernel_rfl) (by kernel_rfl) (by kernel_rfl) (by decide) (fun _ _ _ h => h) (yields_of (by rfl) (fun w9 hS => (by obtain ⟨s1, s2, s3⟩ := hS; go_simp; try rfl))) ⟨d1, f6, hcell⟩ ?_
        refine AnyBut.take 1 rfl (by kernel_rfl) (by kernel_rfl) (by kernel_rfl) (by kernel_rfl) (by decide) (fun _ _ _ h => h) (yields_of (by rfl) (fun w9 hS => (by obtain ⟨s1, s2, s3⟩ := hS; go_simp; try rfl))) ⟨d1, f6, hcell⟩ ?_
        refine AnyBut.take 2 rfl (by kernel_rfl) (by kernel_rfl) (by kernel_rfl) (by kernel_rfl) (by decide) (fun _ _ _ h => h) (yields_of (by rfl) (fun w9 hS => (by obtain ⟨s1, s2, s3⟩ := hS; go_simp; try rfl))) ⟨d1, f6, hcell⟩ ?_
        refine AnyBut.take 3 rfl (by kernel_rfl) (by kernel_rfl) (by kernel_rfl) (by kernel_rfl) (by decide) (fun _ _ _ h => h) (yields_of (by rfl) (fun w9 hS => (by obtain ⟨s1, s2, s3⟩ := hS; go_simp; try rfl))) ⟨d1, f6, hcell⟩ ?_
        refine AnyBut.take 4 rfl (by kernel_rfl) (by kernel_rfl) (by kernel_rfl) (by kernel_rfl) (by decide) (fun _ _ _ h => h) (yields_of (by rfl) (fun w9 hS => (by obtain ⟨s1, s2, s3⟩ := hS; go_simp; try rfl))) ⟨d1, f6, hcell⟩ ?_
        refine AnyBut.take 5 rfl (by kernel_rfl) (by kernel_rfl) (by kernel_rfl) (by kernel_rfl) (by decide) (fun _ _ _ h => h) (yields_of (by rfl) (fun w9 hS => (by obtain ⟨s1, s2, s3⟩ := hS; go_simp; try rfl))) ⟨d1, f6, hcell⟩ ?_
        refine AnyBut.take 6 rfl (by kernel_rfl) (by kernel_rfl) (by kernel_rfl) (by kernel_rfl) (by decide) (fun _ _ _ h => h) (yields_of (by rfl) (fun w9 hS => (by obtain ⟨s1, s2, s3⟩ := hS; go_simp; try rfl))) ⟨d1, f6, hcell⟩ ?_
        refine AnyBut.take 7 (v := .int .u8 (X : Int)) rfl (by kernel_rfl) (by kernel_rfl) (by kernel_rfl) (by kernel_rfl) (by decide) (fun _ _ _ h => h) (yields_of (by rfl) (fun w9 hS => (by obtain ⟨s1, s2, s3⟩ := hS; go_simp; try rfl))) ⟨d1, f6, hcell⟩ ?_
        refine AnyBut.take 8 (v := .int .i64 (X : Int)) rfl (by kernel_rfl) (by kernel_rfl) (by kernel_rfl) (by kernel_rfl) (by decide) (fun _ _ _ h => h) (yields_of (by rfl) (fun w9 hS => (by obtain ⟨s1, s2, s3⟩ := hS; go_simp; try rfl))) ⟨d1, f6, hcell⟩ ?_
        refine AnyBut.one 9 rfl (by kernel_rfl) (by rfl) ?_
        go_simp
        refine ⟨⟨cell_alloc d1, cell_alloc f6, cell_alloc hcell⟩, ?_⟩
        have HE8 : Hid (OS w ((wr.alloc (.cells #[.int .i64 (X : Int)] 3)).drew) n0 #[.int .u8 (k : Int), .int .u8 (t : Int), .int .u8 (d : Int), .int .u32 (n : Int), .int .u16 (a : Int), .bool b, .slice (some ⟨bb, oo, none⟩) ln c] #[.int .u8 (K : Int), .int .i64 (T : Int), .int .i64 (M : Int), .int .i64 0, .int .i64 0, .bool false, .slice At i ct]) := (HE.out.alloc (.cells #[.int .i64 (X : Int)] 3)).drewN 1
        have HO8 : Hid (((wr.alloc (.cells #[.int .i64 (X : Int)] 3)).drew).ownsRow W1.heap.size 3 1 (.slice At i ct) i (ivals ((l.take i).map fun x => ((x % 64 : Nat) : Int)))) := HO.out.alloc (.cells #[.int .i64 (X : Int)] 3)
        have HW8 : Hid (W1.heap.size ≤ ((wr.alloc (.cells #[.int .i64 (X : Int)] 3)).drew).heap.size) := by
          have h1 := ((Below.refl wr.heap.size wr).alloc (Nat.le_refl _) (.cells #[.int .i64 (X : Int)] 3)).size
          exact Nat.le_trans HWZ.out h1
        have HN8 : Hid (∀ (j : Nat) (u : Value), [.int .i64 (X : Int)][j]? = some u → ((wr.alloc (.cells #[.int .i64 (X : Int)] 3)).drew).cell? ((⟨wr.heap.size, 0, none⟩ : Addr).add j) = some u) := row_new wr 3 [.int .i64 (X : Int)]
        have HCB : Hid (((wr.alloc (.cells #[.int .i64 (X : Int)] 3)).drew).cell? ⟨bb, oo + i, none⟩ = some (.int .u8 (x : Int))) := cell_alloc hcell
        generalize (wr.alloc (.cells #[.int .i64 (X : Int)] 3)).drew = wB at *
        generalize wr.heap.size = gA at *
        clear d1 f6 hcell HE HO HWZ hXt hXw
        refine AnyBut.one 10 rfl (by kernel_rfl) (by rfl) ?_
        refine wp_append_lies wB (.tmp 56) (.tmp 64) 27 rfl W1.heap.size 3 i3 (.int .i64 0) 1 8 Try.underlying27 hi3 hz30 hz31 hz32 rfl (by decide) (.slice At i ct) i _ (by rfl) HO8.out ⟨gA, 0, none⟩ 1 1 [.int .i64 (X : Int)] (by rfl) rfl HN8.out (by intro u hu; simp at hu; subst hu; rfl) (by decide) (by unfold maxLen; omega) (by omega) HW8.out wB.heap.size rfl ?_
        intro g5 c5 w5 hown5 hgrow5 _ _
        rw [show ivals ((l.take i).map fun x => ((x % 64 : Nat) : Int)) ++ [.int .i64 (X : Int)] = ivals ((l.take (i + 1)).map fun x => ((x % 64 : Nat) : Int)) from by rw [HSN.out, ivals_snoc]] at hown5
        have hrb : ∀ k, (Value.slice At i ct).ownBlock = some k → W1.heap.size ≤ k := fun k hk => (HO8.out.lt k hk).1
        have hgr := KeptL.of_grown hgrow5
        have hnd : ∀ k, k < W1.heap.size → k ∉ (Value.slice At i ct).ownBlock.toList := fun k hk hm => by
          have := hrb k (by simpa using hm)
          omega
        have hSZ := HSZ.out
        have e9 : OS w w5 n0 #[.int .u8 (k : Int), .int .u8 (t : Int), .int .u8 (d : Int), .int .u32 (n : Int), .int .u16 (a : Int), .bool b, .slice (some ⟨bb, oo, none⟩) ln c] #[.int .u8 (K : Int), .int .i64 (T : Int), .int .i64 (M : Int), .int .i64 0, .int .i64 0, .bool false, .slice At i ct] :=
          ⟨hgr.row HE8.out.say (hnd _ (by omega)), hgr.row HE8.out.res (hnd _ (by omega)), hgr.row HE8.out.msg (hnd _ hSZ), HE8.out.below.grown hgrow5 (Nat.le_of_lt HE8.out.say.lt) (fun k hk => Nat.le_trans (by omega) (hrb k hk))⟩
        have hsz9 : W1.heap.size ≤ w5.heap.size := Nat.le_trans HW8.out hgr.size
        have u1 := e9.msg.cell 6; have z9 := e9.msg.frozen 6; have u6 := e9.say.cell 6
        simp only [List.getElem?_toArray, List.getElem?_cons_zero, List.getElem?_cons_succ] at u1 u6
        have hcell5 : w5.cell? ⟨bb, oo + i, none⟩ = some (.int .u8 (x : Int)) := by
          rw [← HCB.out]
          exact World.cell?_of_block (hgr.block bb (cell_block HCB.out) (hnd bb (by omega)))
        refine ⟨fun _ => ⟨u1, u6, hcell5⟩, ?_⟩
        have HNX : Hid (∃ vt, OS w (w5.setCell ⟨n0 + 2, 6, none⟩ (.slice (some ⟨g5, 0, none⟩) (i + 1) c5)) n0 #[.int .u8 (k : Int), .int .u8 (t : Int), .int .u8 (d : Int), .int .u32 (n : Int), .int .u16 (a : Int), .bool b, .slice (some ⟨bb, oo, none⟩) ln c] #[.int .u8 (K : Int), .int .i64 (T : Int), .int .i64 (M : Int), .int .i64 0, .int .i64 0, .bool false, vt] ∧ (w5.setCell ⟨n0 + 2, 6, none⟩ (.slice (some ⟨g5, 0, none⟩) (i + 1) c5)).ownsRow W1.heap.size 3 1 vt (i + 1) (ivals ((l.take (i + 1)).map fun x => ((x % 64 : Nat) : Int))) ∧ W1.heap.size ≤ (w5.setCell ⟨n0 + 2, 6, none⟩ (.slice (some ⟨g5, 0, none⟩) (i + 1) c5)).heap.size) :=
          ⟨_, e9.set 6 _, own_far (a := ⟨n0 + 2, 6, none⟩) hown5 (fun e => by have h1 := (hown5.lt (n0 + 2) e).1; omega) _, by simpa [World.setCell] using hsz9⟩
        clear hown5 hgrow5 hrb e9 hgr hnd hsz9 hSZ
        refine AnyBut.one 11 rfl (by kernel_rfl) (by rfl) ?_
        go_simp
        refine AnyBut.one 12 rfl (by kernel_rfl) (by rfl) ?_
        go_simp
        refine AnyBut.done (by kernel_rfl) ?_
        clear u1 z9 u6 hcell5
        go_wp2_with fail
        go_roundw
        case rel => exact ⟨i + 1, by omega, by omega, fun h => by rcases HT3.out with e | e <;> rw [e] at h <;> simp [hasT] at h, by go_num, HNX⟩
        case measure => simp [intOf]; omega
      · have HR2 : Hid (R = ⟨K, (T : Int), (M : Int), 0, 0, false, (l.take i).map fun x => ((x % 64 : Nat) : Int)⟩) := by
          have hk := HK.out
          show _ = _
          rw [← HRR.out]
          unfold ofL
          simp only
          rw [← hk.1, ← hk.2.1, ← hk.2.2]
          have htr : (if hasT K = true then (l.take 15).map fun x => ((x % 64 : Nat) : Int) else []) = (l.take i).map fun x => ((x % 64 : Nat) : Int) := by
            cases hc : hasT K with
            | true =>
              rw [if_pos rfl]
              have hh : ¬ (i < ln ∧ i < 15) := fun h => hgo ⟨h.1, h.2, hc⟩
              have hlen := HLN.out
              by_cases c15 : i = 15
              · rw [c15]
              · rw [List.take_of_length_le (by omega), List.take_of_length_le (by omega)]
            | false =>
              rw [HIT.out hc]; simp
          rw [htr]
          rw [if_neg HC3.out, if_neg HC3.out, if_neg HC3.out]
        have HLE : Hid (((l.take i).map fun x => ((x % 64 : Nat) : Int)).length = i) := by show _ = _; rw [List.length_map, List.length_take]; have := HLN.out; omega
        have hz := HE.out.res; have hy := HE.out.msg
        have q0 := hz.cell 0; have r0 := hz.frozen 0
        have q1 := hz.cell 1; have r1 := hz.frozen 1
        have q2 := hz.cell 2; have r2 := hz.frozen 2
        have q3 := hz.cell 3; have r3 := hz.frozen 3
        have q4 := hz.cell 4; have r4 := hz.frozen 4
        have q5 := hz.cell 5; have r5 := hz.frozen 5
        have q6 := hz.cell 6; have r6 := hz.frozen 6
        have y0 := hy.cell 0
        have y1 := hy.cell 1
        have y2 := hy.cell 2
        have y3 := hy.cell 3
        have y4 := hy.cell 4
        have y5 := hy.cell 5
        have y6 := hy.cell 6
        simp only [List.getElem?_toArray, List.getElem?_cons_zero, List.getElem?_cons_succ] at q0 q1 q2 q3 q4 q5 q6 y0 y1 y2 y3 y4 y5 y6
        have hx : ¬ i < ln ∨ ¬ i < 15 ∨ hasT K = false := by
          by_cases a1 : i < ln
          · by_cases a2 : i < 15
            · right; right
              cases hc : hasT K with
              | true => exact absurd ⟨a1, a2, hc⟩ hgo
              | false => rfl
            · right; left; exact a2
          · left; exact a1
        go_upto_region 5 with (fail)
        go_cut [52] (fun z wx => z = .bool false ∧ wx = wr)
        case first =>
          rcases hx with a1 | a2 | a3
          · go_wp2_with fail
            go_meet
            case rel => exact ⟨rfl, rfl⟩
          · have a2i : ¬ (i : Int) < 15 := by omega
            by_cases a1 : i < ln
            · go_wp2_with fail
              go_meet
              case rel => exact ⟨rfl, rfl⟩
            · go_wp2_with fail
              go_meet
              case rel => exact ⟨rfl, rfl⟩
          · have e6 : ((K : Int) == 6) = false := by
              have h1 : K ≠ 6 := fun e => by rw [e] at a3; simp [hasT] at a3
              simp; omega
            by_cases a1 : i < ln
            · by_cases a2 : i < 15
              · have a2i : (i : Int) < 15 := by omega
                go_wp2_with fail
                go_meet
                case rel => exact ⟨rfl, rfl⟩
              · have a2i : ¬ (i : Int) < 15 := by omega
                go_wp2_with fail
                go_meet
                case rel => exact ⟨rfl, rfl⟩
            · go_wp2_with fail
              go_meet
              case rel => exact ⟨rfl, rfl⟩
        case rest =>
        obtain ⟨rfl, rfl⟩ := hcut
        clear hx hgo
        go_wp2_with fail
        have hp := put7 hz (.int .u8 (K : Int)) (.int .i64 (T : Int)) (.int .i64 (M : Int)) (.int .i64 0) (.int .i64 0) (.bool false) (.slice At i ct)
        refine bodyPost_ret (results_cell_row rfl _ _ (n0 + 1) 29 #[.int .u8 (K : Int), .int .i64 (T : Int), .int .i64 (M : Int), .int .i64 0, .int .i64 0, .bool false, .slice At i ct] (0, 0) _ rfl hp.1 Try.underlying29 rfl Try.size29) rfl ?_
        rw [HR2.out]
        exact ⟨_, rfl, Tl.of_own (own_keptL HO.out hp.2.2 (Other.one hz (by decide))), by rw [← HN0.out]; exact HE.out.below.trans (hp.2.1.mono (by omega))⟩

end Go.Proofs.Ytcfnaajnkloobaa
