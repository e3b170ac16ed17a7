/- Contracts: what the laws of layer 7 call: open, reads. -/
import Derived.Test.YtcfnaajnkloobaaM9
namespace Go.Proofs.Ytcfnaajnkloobaa
open Go.RowKit
set_option maxRecDepth 100000

def M1 : Msg := ⟨1, 1, 0, 0, 0, false, []⟩

theorem fits1 : Fits M1 := ⟨by decide, by decide, by decide, by decide, by decide, fun _ => ⟨rfl, rfl, rfl⟩, by decide, (fun n h => by simp [M1] at h), fun _ => rfl⟩

theorem bytes1 : pack (enc M1) = [32, 128, 0, 0, 0] := by decide +kernel

theorem msg1 (w : World) (D : Nat) : MsgV w D (.agg #[.int .u8 1, .int .i64 1, .int .i64 0, .int .i64 0, .int .i64 0, .bool false, .slice none 0 0]) M1 := ⟨.slice none 0 0, rfl, Rd.empty _ _⟩

theorem few_rest (k : Nat) (s : St) : (trest k s).1.trail.length ≤ 15 := by
  rw [trest_eq]
  simp only
  cases hc : hasT k with
  | true =>
    rw [ttrail_yes hc, tmany_length]
    have := tget_lt 4 (trep k (tget 25 (tget 6 s).2).2).2
    omega
  | false => rw [ttrail_no hc]; simp

theorem few_dec (q : List Nat) : (dec q).1.trail.length ≤ 15 := by
  have h0 : M0.trail.length ≤ 15 := by decide
  unfold dec
  split
  · exact h0
  · split
    · exact h0
    · unfold decB
      split
      · exact h0
      · split
        · exact h0
        · unfold fin
          split
          · exact h0
          · split
            · exact few_rest _ _
            · exact h0

theorem MsgV.agg {w : World} {D : Nat} {V : Value} {m : Msg} (h : MsgV w D V m) : ∃ A l c, V = .agg #[.int .u8 (m.kind : Int), .int .i64 m.train, .int .i64 m.time, .int .i64 m.dir, .int .i64 m.ahead, .bool m.whole, .slice A l c] := by
  obtain ⟨v, rfl, A, c, rfl, -⟩ := h
  exact ⟨A, _, c, rfl⟩

set_option maxHeartbeats 4000000 in
theorem open_any (w : World) : Calls Try.prog 12 #[] w (RetL true w) := by
  have HD1 := Lib.hid (dec_fits fits1)
  go_enter Try.func12, Try.ntmps12
  go_wp2_with fail
  refine (encode_any w _ M1 (msg1 _ _) (by decide) (by decide)).mono ?_
  rintro e w3 ⟨v3, rfl, ho3, hb3⟩
  have HR3 := Lib.hid (Rd.of_own ho3)
  have HB3 := Lib.hid hb3
  clear ho3 hb3
  go_wp2_with fail
  refine (decode_any w3 v3 (closed (pack (enc M1))) HR3.out (closed_small (pack_small _)) (by rw [closed_length, bytes1]; decide)).mono ?_
  rintro e w4 ⟨v4, rfl, hv4, hb4⟩
  rw [HD1.out] at hv4 ⊢
  have HB4 := Lib.hid (HB3.out.trans (hb4.mono HB3.out.size))
  have HR4 := Lib.hid (HR3.out.up hb4)
  obtain ⟨A, l, c, rfl⟩ := hv4.agg
  simp only [M1]
  clear hb4 hv4
  have hb5 := (Below.refl w4.heap.size w4).alloc (Nat.le_refl _) (.cells #[.int .u8 1, .int .i64 1, .int .i64 0, .int .i64 0, .int .i64 0, .bool false, .slice A l c] 29)
  have HB5 := Lib.hid (HB4.out.trans (hb5.mono HB4.out.size))
  have HR5 := Lib.hid (HR4.out.up hb5)
  clear hb5
  go_upto_region 3 with (fail)
  generalize w4.alloc (.cells #[.int .u8 1, .int .i64 1, .int .i64 0, .int .i64 0, .int .i64 0, .bool false, .slice A l c] 29) = w5 at *
  have e8 : closed (pack (enc M1)) = [32, 128, 0, 0, 0, sumOf [32, 128, 0, 0, 0] % 256, sumOf [32, 128, 0, 0, 0] / 256] := by unfold closed; rw [bytes1]; rfl
  rw [e8] at HR5
  clear e8
  obtain ⟨Ap, cp, hvp, -, hxp⟩ := id HR5.out
  obtain ⟨b5, o5, hA5, -, hc5⟩ := hxp (by simp [bvals])
  have g0 := hc5 0 (.int .u8 32) (by simp [bvals])
  rw [Nat.add_zero] at g0
  have g1 := hc5 1 (.int .u8 128) (by simp [bvals])
  subst hA5
  rw [show (bvals [32, 128, 0, 0, 0, sumOf [32, 128, 0, 0, 0] % 256, sumOf [32, 128, 0, 0, 0] / 256]).length = 7 from rfl] at hvp
  subst hvp
  clear hc5 hxp HR3 HR4 HR5
  go_wp2_with fail
  go_ret
  exact ⟨rfl, HB5.out⟩

set_option maxHeartbeats 4000000 in
theorem reads_any (w : World) (v : Value) (q : List Nat) (h : Rd w w.heap.size v (bvals q)) (hq : ∀ x ∈ q, x < 256) (hl : q.length ≤ 400) : Calls Try.prog 17 #[v] w (RetL true w) := by
  have HV := Lib.hid h; have HQ := Lib.hid hq; have HM := Lib.hid (few_dec q)
  clear h hq
  obtain ⟨L, hL⟩ : ∃ L, (dec q).1 = L := ⟨_, rfl⟩
  obtain ⟨E, hE⟩ : ∃ E, (dec q).2 = E := ⟨_, rfl⟩
  have HLE : Hid (dec q = (L, E)) := by show _ = _; rw [← hL, ← hE]
  rw [hL] at HM
  clear hL hE
  go_enter Try.func17, Try.ntmps17
  go_wp2_with fail
  refine (decode_any w v q HV.out HQ.out hl).mono ?_
  rintro e w1 ⟨v1, rfl, hv1, hb1⟩
  rw [HLE.out] at hv1 ⊢
  have HB1 := Lib.hid hb1
  have HV1 := Lib.hid hv1
  obtain ⟨pA, pl, pc, rfl⟩ := hv1.agg
  clear hb1 hv1
  generalize L.kind = pk at *
  generalize L.train = pt at *
  generalize L.time = pn at *
  generalize L.dir = pd at *
  generalize L.ahead = pa at *
  generalize L.whole = pb at *
  have hb2 := (Below.refl w1.heap.size w1).alloc (Nat.le_refl _) (.cells #[.int .u8 (pk : Int), .int .i64 pt, .int .i64 pn, .int .i64 pd, .int .i64 pa, .bool pb, .slice pA pl pc] 29)
  have HB2 := Lib.hid (HB1.out.trans (hb2.mono HB1.out.size))
  have HV2 := Lib.hid (HV1.out.up hb2)
  have HR2 := Lib.hid (Row.new w1 29 #[.int .u8 (pk : Int), .int .i64 pt, .int .i64 pn, .int .i64 pd, .int .i64 pa, .bool pb, .slice pA pl pc])
  clear hb2
  go_upto_region 2 with (fail)
  obtain ⟨n3, hn3⟩ : ∃ n, n = w1.heap.size := ⟨_, rfl⟩
  rw [← hn3] at HR2 ⊢
  clear hn3
  generalize w1.alloc (.cells #[.int .u8 (pk : Int), .int .i64 pt, .int .i64 pn, .int .i64 pd, .int .i64 pa, .bool pb, .slice pA pl pc] 29) = w2 at *
  go_wp2_with fail
  refine (refDecode_any w2 v q (HV.out.up HB2.out) HQ.out hl).mono ?_
  rintro e w3 ⟨v3, rfl, hv3, hb3⟩
  rw [HLE.out] at hv3 ⊢
  have HB3 := Lib.hid (HB2.out.trans (hb3.mono HB2.out.size))
  have HV13 := Lib.hid (HV2.out.up hb3)
  have HR3 := Lib.hid (Below.row hb3 HR2.out HR2.out.lt)
  have HV3 := Lib.hid hv3
  obtain ⟨sA, sl, sc, rfl⟩ := hv3.agg
  clear hb3 hv3
  generalize L.kind = sk at *
  generalize L.train = st at *
  generalize L.time = sn at *
  generalize L.dir = sd at *
  generalize L.ahead = sa at *
  generalize L.whole = sb at *
  have hb4 := (Below.refl w3.heap.size w3).alloc (Nat.le_refl _) (.cells #[.int .u8 (sk : Int), .int .i64 st, .int .i64 sn, .int .i64 sd, .int .i64 sa, .bool sb, .slice sA sl sc] 29)
  have HB4 := Lib.hid (HB3.out.trans (hb4.mono HB3.out.size))
  have HV14 := Lib.hid (HV13.out.up hb4)
  have HV34 := Lib.hid (HV3.out.up hb4)
  have r3 := HR3.out.alloc (.cells #[.int .u8 (sk : Int), .int .i64 st, .int .i64 sn, .int .i64 sd, .int .i64 sa, .bool sb, .slice sA sl sc] 29)
  have f0 := r3.cell 0; have f1 := r3.cell 1; have f2 := r3.cell 2; have f3 := r3.cell 3; have f4 := r3.cell 4; have f5 := r3.cell 5; have f6 := r3.cell 6
  simp only [List.getElem?_toArray, List.getElem?_cons_zero, List.getElem?_cons_succ] at f0 f1 f2 f3 f4 f5 f6
  clear hb4 r3
  go_wp2_with fail
  refine (refSame_any _ _ _ L L HV14.out HV34.out (by have := HM.out; omega)).mono ?_
  rintro e w5 ⟨rfl, hb5⟩
  rw [decide_eq_true (alike_refl L)]
  have HB5 := Lib.hid (HB4.out.trans (hb5.mono HB4.out.size))
  clear hb5
  go_wp2_with fail
  go_ret
  exact ⟨rfl, HB5.out⟩

end Go.Proofs.Ytcfnaajnkloobaa
