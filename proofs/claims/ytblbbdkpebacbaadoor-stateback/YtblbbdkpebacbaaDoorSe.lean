/- The law's example: second. -/
import Derived.Test.YtblbbdkpebacbaaDoorA8
import Derived.Test.YtblbbdkpebacbaaDoorA5
namespace Go.Proofs.YtblbbdkpebacbaaDoor
open Go.RowKit Fl
set_option maxRecDepth 100000

theorem d00_secs : (fullL d00).secs.length = 3 := by decide +kernel
theorem ofO_start (L : Lay) (xs : List Vw) : ofO L (List.replicate L.parts.length (-1)) xs = (List.range L.secs.length).map fun (i : Nat) => if anyV xs (i : Int) = true then 2 else 3 := by
  unfold ofO
  apply List.map_congr_left
  intro i _
  exact stO_start L L.parts.length xs (i : Int) rfl
theorem ex_second : ofO (fullL d00) (List.replicate 3 (-1)) [] = [3, 3, 3] := by
  have hp : (fullL d00).parts.length = 3 := by rw [d00_parts]; rfl
  have := ofO_start (fullL d00) []
  rw [hp, d00_secs] at this
  rw [this]; simp [anyV, List.range_succ]

structure SeSt (w : World) (b1 : Nat) (cl : Array Value) (L : Lay) (W : World) : Prop where
  bel : Below w.heap.size w W
  row : Row W b1 39 cl
  lay : LayV W W.heap.size (.agg cl) L
theorem SeSt.call {w : World} {b1 : Nat} {cl : Array Value} {L : Lay} {W W' : World} (h : SeSt w b1 cl L W) (hb : Below W.heap.size W W') : SeSt w b1 cl L W' :=
  ⟨h.bel.trans (hb.mono h.bel.size), Below.row hb h.row h.row.lt, h.lay.up hb⟩
theorem SeSt.drew {w : World} {b1 : Nat} {cl : Array Value} {L : Lay} {W : World} (h : SeSt w b1 cl L W) : SeSt w b1 cl L W.drew := h.call (Below.refl _ _).drew
theorem okO_unk (n : Nat) : OkO (List.replicate n (-1)) := by
  intro x hx; rw [List.mem_replicate] at hx; omega

set_option maxHeartbeats 4000000 in
theorem second_any (w : World) (hk : KD w) : Calls Tryd.prog 10 #[] w (RetL true w) := by
  have HMK : Hid (∀ W : World, Calls Tryd.prog 29 #[.agg #[.int .u8 0, .int .u8 0, .int .u8 0, .int .u16 0, .int .u16 0, .int .u8 0, .int .u8 0, .int .u8 0, .slice none 0 0]] W (RetLay (fullL d00) W)) := fun W => by
    refine (makeDraft_any W d00 (.slice none 0 0) ⟨by decide, by decide, by decide, by decide, by decide, by decide, by decide, by decide, by simp [d00]⟩ ⟨[], Rd.empty _ _, rfl, by simp [d00]⟩).mono ?_
    rintro x w' ⟨vN, vS, vP, vQ, rfl, hF, hb⟩
    exact ⟨_, rfl, IsLay.v ⟨vN, vS, vP, vQ, _, rfl, hF⟩, hb⟩
  have HKD := Lib.hid hk
  have HFT : Hid (Fits (fullL d00)) := fullL_fits d00
  have HPL : Hid ((fullL d00).parts.length = 3) := by show _ = _; rw [d00_parts]; rfl
  have HEX := Lib.hid ex_second
  clear hk
  generalize fullL d00 = L at *
  have HSA : Hid (∀ W, Calls Tryd.prog 28 #[.int .i64 3] W (RetRow (List.replicate 3 (-1)) W)) := fun W => start_any W 3 (by decide)
  go_enter Tryd.func10, Tryd.ntmps10
  go_wp2_with fail
  refine (HMK.out w).mono ?_; rintro x w1 ⟨vL, rfl, hvL, hb1⟩
  obtain ⟨A0, k0, c0, A1, k1, c1, A2, k2, c2, A3, k3, c3, A4, k4, c4, t0, t1, t2, t3, t4, hv, -, -, hk2, -⟩ := hvL.lens
  subst hv
  have hk3 : k2 = 3 := by rw [← hk2]; exact HPL.out
  subst hk3
  clear hk2
  have hb2 := (Below.refl w1.heap.size w1).alloc (Nat.le_refl _) (.cells #[.slice A0 k0 c0, .slice A1 k1 c1, .slice A2 3 c2, .slice A3 k3 c3, .slice A4 k4 c4, .int .i64 t0, .int .i64 t1, .int .i64 t2, .int .i64 t3, .int .i64 t4] 39)
  have HB2 : Hid (SeSt w w1.heap.size #[.slice A0 k0 c0, .slice A1 k1 c1, .slice A2 3 c2, .slice A3 k3 c3, .slice A4 k4 c4, .int .i64 t0, .int .i64 t1, .int .i64 t2, .int .i64 t3, .int .i64 t4] L (w1.alloc (.cells #[.slice A0 k0 c0, .slice A1 k1 c1, .slice A2 3 c2, .slice A3 k3 c3, .slice A4 k4 c4, .int .i64 t0, .int .i64 t1, .int .i64 t2, .int .i64 t3, .int .i64 t4] 39))) := ⟨hb1.trans (hb2.mono hb1.size), Row.new w1 39 _, hvL.up hb2⟩
  clear hb1 hb2 hvL HMK
  go_upto_region 2 with (fail)
  obtain ⟨b1, hb1⟩ : ∃ n, n = w1.heap.size := ⟨_, rfl⟩
  rw [← hb1] at HB2 ⊢
  clear hb1
  generalize w1.alloc (.cells #[.slice A0 k0 c0, .slice A1 k1 c1, .slice A2 3 c2, .slice A3 k3 c3, .slice A4 k4 c4, .int .i64 t0, .int .i64 t1, .int .i64 t2, .int .i64 t3, .int .i64 t4] 39) = w2 at *
  have HOF : Hid (∀ W g, SeSt w b1 #[.slice A0 k0 c0, .slice A1 k1 c1, .slice A2 3 c2, .slice A3 k3 c3, .slice A4 k4 c4, .int .i64 t0, .int .i64 t1, .int .i64 t2, .int .i64 t3, .int .i64 t4] L W → Rd W W.heap.size (.slice (some ⟨g, 0, none⟩) 3 3) (ivals (List.replicate 3 (-1))) → Calls Tryd.prog 16 #[.agg #[.slice A0 k0 c0, .slice A1 k1 c1, .slice A2 3 c2, .slice A3 k3 c3, .slice A4 k4 c4, .int .i64 t0, .int .i64 t1, .int .i64 t2, .int .i64 t3, .int .i64 t4], .slice (some ⟨g, 0, none⟩) 3 3, .slice none 0 0] W (RetBytes [3, 3, 3] W)) := fun W g h hr => by
    have := of_any W _ _ _ L (List.replicate 3 (-1)) [] h.lay HFT.out hr (by rw [HPL.out]; rfl) (okO_unk 3) (Vws.nil _ _) ⟨by simp, by simp⟩
    rw [HEX.out] at this
    exact this
  have HSS : Hid (∀ W, SeSt w b1 #[.slice A0 k0 c0, .slice A1 k1 c1, .slice A2 3 c2, .slice A3 k3 c3, .slice A4 k4 c4, .int .i64 t0, .int .i64 t1, .int .i64 t2, .int .i64 t3, .int .i64 t4] L W → (W.cell? ⟨b1, 0, none⟩ = some (.slice A0 k0 c0) ∧ W.cell? ⟨b1, 1, none⟩ = some (.slice A1 k1 c1) ∧ W.cell? ⟨b1, 2, none⟩ = some (.slice A2 3 c2) ∧ W.cell? ⟨b1, 3, none⟩ = some (.slice A3 k3 c3) ∧ W.cell? ⟨b1, 4, none⟩ = some (.slice A4 k4 c4) ∧ W.cell? ⟨b1, 5, none⟩ = some (.int .i64 t0) ∧ W.cell? ⟨b1, 6, none⟩ = some (.int .i64 t1) ∧ W.cell? ⟨b1, 7, none⟩ = some (.int .i64 t2) ∧ W.cell? ⟨b1, 8, none⟩ = some (.int .i64 t3) ∧ W.cell? ⟨b1, 9, none⟩ = some (.int .i64 t4))) := fun W h => ⟨h.row.cell 0, h.row.cell 1, h.row.cell 2, h.row.cell 3, h.row.cell 4, h.row.cell 5, h.row.cell 6, h.row.cell 7, h.row.cell 8, h.row.cell 9⟩
  go_cut [2] (fun v wx => ∃ A c, v = .slice A 3 c ∧ Hid (Below w.heap.size w wx ∧ Rd wx wx.heap.size (.slice A 3 c) (bvals [3, 3, 3])))
  case first =>
    rename_i J K' hJ hK
    have hst := HB2.out.drew
    have s0 := HSS.out _ hst
    obtain ⟨r0, r1, r2, r3, r4, r5, r6, r7, r8, r9⟩ := (show _ from s0)
    go_region_held3 (fun w' => (w'.cell? ⟨b1, 0, none⟩ = some (.slice A0 k0 c0) ∧ w'.cell? ⟨b1, 1, none⟩ = some (.slice A1 k1 c1) ∧ w'.cell? ⟨b1, 2, none⟩ = some (.slice A2 3 c2) ∧ w'.cell? ⟨b1, 3, none⟩ = some (.slice A3 k3 c3) ∧ w'.cell? ⟨b1, 4, none⟩ = some (.slice A4 k4 c4) ∧ w'.cell? ⟨b1, 5, none⟩ = some (.int .i64 t0) ∧ w'.cell? ⟨b1, 6, none⟩ = some (.int .i64 t1) ∧ w'.cell? ⟨b1, 7, none⟩ = some (.int .i64 t2) ∧ w'.cell? ⟨b1, 8, none⟩ = some (.int .i64 t3) ∧ w'.cell? ⟨b1, 9, none⟩ = some (.int .i64 t4))) (first | (with_reducible assumption) | (with_reducible exact s0) | go_keep) (first | (go_at_call 28; (with_reducible refine (HSA.out _).mono ?_); rintro y v1 ⟨g, rfl, -, hrow, hb⟩; have hst := hst.call hb; have s0 := HSS.out _ hst; have hcA := Rd.ofRow hrow; clear hrow hb) | (go_at_call 16; (with_reducible refine (HOF.out _ _ hst hcA).mono ?_); rintro y v1 ⟨v', rfl, hown, hb⟩; have hst := hst.call hb; have s0 := HSS.out _ hst; have hcB := hown; clear hown hb))
    all_goals (obtain ⟨A9, c9, e9⟩ := own_slice hcB; subst e9; refine hK _ _ (Met.intro (hJ _ _ ?_)); (repeat apply Exists.intro); refine ⟨?rel, rfl⟩; case rel => exact ⟨_, _, rfl, hst.bel, Rd.of_own hcB⟩)
  case rest =>
  obtain ⟨A9, c9, rfl, HC⟩ := hcut
  obtain ⟨w3, hw3⟩ : ∃ W, W = wc := ⟨_, rfl⟩
  subst hw3
  have HKI := Lib.hid (kind_any w3 0 1 (by decide) (by decide) (HKD.out.up HC.out.1))
  have hba := (Below.refl w3.heap.size w3).alloc (Nat.le_refl _) (.cells #[.int .u8 3, .int .u8 3, .int .u8 3] 5)
  have hlit : Rd (w3.alloc (.cells #[.int .u8 3, .int .u8 3, .int .u8 3] 5)) (w3.alloc (.cells #[.int .u8 3, .int .u8 3, .int .u8 3] 5)).heap.size (.slice (some ⟨w3.heap.size, 0, none⟩) 3 3) (bvals [3, 3, 3]) := Rd.row 3 rfl (Row.new w3 5 (bvals [3, 3, 3]).toArray) (by decide)
  have HBY := Lib.hid (refBytes_true _ _ _ _ [3, 3, 3] (HC.out.2.up hba) hlit (by decide))
  have HBE := Lib.hid (HC.out.1.trans (hba.mono HC.out.1.size))
  clear hba hlit HB2 HOF HSS HSA
  go_wp2_with fail
  refine HKI.out.mono ?_; rintro x w4 ⟨rfl, rfl⟩
  have ek : (kindO 0 1 : Int) = 2 := rfl
  rw [ek]
  go_wp2_with fail
  refine HBY.out.mono ?_; rintro x w5 ⟨rfl, n, rfl⟩
  go_wp2_with fail
  go_ret
  exact ⟨rfl, Below.drewN HBE.out n⟩
end Go.Proofs.YtblbbdkpebacbaaDoor
