/- Contract: the document's Decode, behind the letters. -/
import Derived.Test.YthpfhcelmddjlaaRefDec
namespace Go.Proofs.Ythpfhcelmddjlaa
open Go.RowKit Fl
set_option maxRecDepth 100000

theorem tlist_eq {α : Type} (one : St → α × St) (s : St) : tlist one s = tmany one (tget 8 s).1 (tget 8 s).2 := rfl

theorem IS.setL {w : World} {b0 g k i : Nat} {s : St} {t : TypeId} {cs : Array Value} (h : IS w b0 g s) (hr : Row w k t cs) (ht : t ≠ 119) (hb : b0 ≠ k) (u : Value) : IS (w.setCell ⟨k, i, none⟩ u) b0 g s :=
  h.keptL ((KeptL.refl [k] w).set (by simp) u) (by intro e; exact h.ne hr ht (List.mem_singleton.1 e)) (by intro e; exact hb (List.mem_singleton.1 e))

theorem FlN.nil : FlN [] [] := ⟨rfl, fun i h1 _ => absurd h1 (by simp)⟩
theorem nvals_snoc (ps : List (Nat × Nat)) (x y : Nat) : nvals ps ++ [.complex .f64 x y] = nvals (ps ++ [(x, y)]) := by simp [nvals]

theorem many_sec (s : St) (i : Nat) : (tmany tsec (i + 1) s) = ((tmany tsec i s).1 ++ [(((tget 16 (tmany tsec i s).2).1 : Int), ((tget 8 (tget 16 (tmany tsec i s).2).2).1 : Int), ((tget 8 (tget 8 (tget 16 (tmany tsec i s).2).2).2).1 : Int))], (tget 8 (tget 8 (tget 16 (tmany tsec i s).2).2).2).2) := rfl
theorem many_node (s : St) (i : Nat) : (tmany tnode (i + 1) s) = ((tmany tnode i s).1 ++ [(sgn (tget 32 (tmany tnode i s).2).1, sgn (tget 32 (tget 32 (tmany tnode i s).2).2).1)], (tget 32 (tget 32 (tmany tnode i s).2).2).2) := rfl


set_option maxHeartbeats 16000000 in
theorem refDecode_main (w : World) (v : Value) (q : List Nat) (h : Rd w w.heap.size v (bvals q)) (hq : ∀ x ∈ q, x < 256) (hl : q.length ≤ 4000) (h2 : 2 ≤ q.length) (heq : sumOf (q.take (q.length - 2)) = tailNum q) (hbl : begins (q.take (q.length - 2)) = true) : Calls Try.prog 48 #[v] w (RetDec (fin (tlay (body ((q.take (q.length - 2)).drop 2)))) w) := by
  have HT0 := Lib.hid (tri_of w)
  have HB0 := Lib.hid (below3 w (.cells #[.slice none 0 0, .slice none 0 0, .slice none 0 0, .slice none 0 0, .slice none 0 0, .int .i64 0, .int .i64 0, .int .i64 0, .int .i64 0, .int .i64 0] 33) (.cells #[.slice none 0 0, .slice none 0 0, .slice none 0 0, .slice none 0 0, .slice none 0 0, .int .i64 0, .int .i64 0, .int .i64 0, .int .i64 0, .int .i64 0] 33) (.cells #[.slice none 0 0, .slice none 0 0, .slice none 0 0, .slice none 0 0, .slice none 0 0, .int .i64 0, .int .i64 0, .int .i64 0, .int .i64 0, .int .i64 0] 33))
  have HV : Hid (Rd (((w.alloc (.cells #[.slice none 0 0, .slice none 0 0, .slice none 0 0, .slice none 0 0, .slice none 0 0, .int .i64 0, .int .i64 0, .int .i64 0, .int .i64 0, .int .i64 0] 33)).alloc (.cells #[.slice none 0 0, .slice none 0 0, .slice none 0 0, .slice none 0 0, .slice none 0 0, .int .i64 0, .int .i64 0, .int .i64 0, .int .i64 0, .int .i64 0] 33)).alloc (.cells #[.slice none 0 0, .slice none 0 0, .slice none 0 0, .slice none 0 0, .slice none 0 0, .int .i64 0, .int .i64 0, .int .i64 0, .int .i64 0, .int .i64 0] 33)) (((w.alloc (.cells #[.slice none 0 0, .slice none 0 0, .slice none 0 0, .slice none 0 0, .slice none 0 0, .int .i64 0, .int .i64 0, .int .i64 0, .int .i64 0, .int .i64 0] 33)).alloc (.cells #[.slice none 0 0, .slice none 0 0, .slice none 0 0, .slice none 0 0, .slice none 0 0, .int .i64 0, .int .i64 0, .int .i64 0, .int .i64 0, .int .i64 0] 33)).alloc (.cells #[.slice none 0 0, .slice none 0 0, .slice none 0 0, .slice none 0 0, .slice none 0 0, .int .i64 0, .int .i64 0, .int .i64 0, .int .i64 0, .int .i64 0] 33)).heap.size v (bvals q)) := h.up HB0.out
  have HQ := Lib.hid hq
  clear h hq
  go_enter Try.func48, Try.ntmps48
  go_upto_region 2 with (fail)
  generalize ((w.alloc (.cells #[.slice none 0 0, .slice none 0 0, .slice none 0 0, .slice none 0 0, .slice none 0 0, .int .i64 0, .int .i64 0, .int .i64 0, .int .i64 0, .int .i64 0] 33)).alloc (.cells #[.slice none 0 0, .slice none 0 0, .slice none 0 0, .slice none 0 0, .slice none 0 0, .int .i64 0, .int .i64 0, .int .i64 0, .int .i64 0, .int .i64 0] 33)).alloc (.cells #[.slice none 0 0, .slice none 0 0, .slice none 0 0, .slice none 0 0, .slice none 0 0, .int .i64 0, .int .i64 0, .int .i64 0, .int .i64 0, .int .i64 0] 33) = W0 at *
  generalize hb1 : w.heap.size + 1 = n1 at *
  generalize hb2 : n1 + 1 = n2 at *
  obtain ⟨n0, hn0⟩ : ∃ n, n = w.heap.size := ⟨_, rfl⟩
  rw [← hn0] at HT0 HB0 ⊢
  have HN : Hid (n0 = w.heap.size ∧ n1 = n0 + 1 ∧ n2 = n0 + 2) := by refine ⟨?_, ?_, ?_⟩ <;> omega
  clear hn0 hb1 hb2
  have HBL := Lib.hid hbl; clear hbl
  obtain ⟨j4, hj4, hy40, hy41, hy42⟩ := info_parts Try.info47
  obtain ⟨j5, hj5, hy50, hy51, hy52⟩ := info_parts Try.info50
  obtain ⟨j6, hj6, hy60, hy61, hy62⟩ := info_parts Try.info53
  have HH := Lib.hid heq; clear heq
  go_wp2_with fail
  refine (refOpen_ok W0 _ v q HV.out (Nat.le_refl _) HQ.out (by omega) h2 HH.out).mono ?_
  rintro e W1 ⟨v1, rfl, hr1, hb1⟩
  have HR1 : Hid (Rd W1 W1.heap.size v1 (bvals (q.take (q.length - 2)))) := hr1.mono hb1.size fun _ _ => rfl
  have HT1 := Lib.hid (HT0.out.fresh hb1)
  have HB1 := Lib.hid (HB0.out.trans (hb1.mono (by have := HT0.out.res.lt; omega)))
  have HOQ : Hid (∀ x ∈ q.take (q.length - 2), x < 256) := fun x hx => HQ.out x (List.mem_of_mem_take hx)
  have HOL : Hid ((q.take (q.length - 2)).length ≤ 4000) := by show _ ≤ _; rw [List.length_take]; omega
  generalize q.take (q.length - 2) = o at *
  clear hr1 hb1
  obtain ⟨A1, c1, rfl, -, -⟩ := id HR1.out
  rw [bvals_length] at HR1 ⊢
  go_upto_region 5 with (fail)
  have HX : Hid (2 ≤ o.length → ∃ b p, A1 = some ⟨b, p, none⟩ ∧ W1.cell? ⟨b, p, none⟩ = some (.int .u8 ((o.getD 0 0 : Nat) : Int)) ∧ W1.cell? ⟨b, p + 1, none⟩ = some (.int .u8 ((o.getD 1 0 : Nat) : Int))) := by
    intro hlen
    obtain ⟨b, p, hA, _, h0⟩ := HR1.out.at (bvals_get o 0 (by omega))
    obtain ⟨b', p', hA', _, h1⟩ := HR1.out.at (bvals_get o 1 (by omega))
    rw [hA] at hA'
    obtain ⟨rfl, rfl⟩ : b = b' ∧ p = p' := by simpa using hA'
    refine ⟨b, p, hA, ?_, ?_⟩
    · have : o.getD 0 0 = o[0]'(by omega) := by simp [List.getD, show 0 < o.length by omega]
      rw [this]; simpa using h0
    · have : o.getD 1 0 = o[1]'(by omega) := by simp [List.getD, show 1 < o.length by omega]
      rw [this]; exact h1
  go_cut [43] (fun v wx => v = .bool (!begins o) ∧ wx = W1)
  case first =>
    have HOL2 := HOL.out
    by_cases hlen : 2 ≤ o.length
    · obtain ⟨b, p, rfl, g0, g1⟩ := HX.out hlen
      have HBG : Hid (begins o = (decide (o.getD 0 0 = 66) && decide (o.getD 1 0 = 76))) := by show _ = _; unfold begins; rw [decide_eq_true hlen, Bool.true_and]
      generalize o.getD 0 0 = x0 at *
      generalize o.getD 1 0 = x1 at *
      by_cases hx0 : x0 = 66
      · subst hx0
        by_cases hx1 : x1 = 76
        · subst hx1
          go_wp2_with fail
          go_meet
          case rel => exact ⟨by rw [HBG.out]; simp <;> omega, rfl⟩
        · have hne1 : ((x1 : Int) == 76) = false := by simp; omega
          go_wp2_with fail
          go_meet
          case rel => exact ⟨by rw [HBG.out, decide_eq_false hx1]; simp <;> omega, rfl⟩
      · have hne0 : ((x0 : Int) == 66) = false := by simp; omega
        go_wp2_with fail
        go_meet
        case rel => exact ⟨by rw [HBG.out, decide_eq_false hx0]; simp, rfl⟩
    · have HBG : Hid (begins o = false) := by show _ = _; unfold begins; rw [decide_eq_false hlen, Bool.false_and]
      go_wp2_with fail
      go_meet
      case rel => exact ⟨by rw [HBG.out]; rfl, rfl⟩
  case rest =>
  obtain ⟨rfl, rfl⟩ := hcut
  rw [HBL.out]
  have HLEN : Hid (2 ≤ o.length) := by
    have := HBL.out
    unfold begins at this
    rw [Bool.and_eq_true, decide_eq_true_eq] at this
    exact this.1
  go_upto_region 7 with (fail)
  go_cut [6, 8] (fun _ v wx => ∃ b0 g, v = .pointer (some ⟨g, 0, none⟩) ∧ Hid (IS wx b0 g (body (o.drop 2)) ∧ (b0 ≠ g ∧ b0 ≠ n2 ∧ b0 < wx.heap.size ∧ n0 ≤ g) ∧ Tri wx n0 n1 n2 #[.slice none 0 0, .slice none 0 0, .slice none 0 0, .slice none 0 0, .slice none 0 0, .int .i64 0, .int .i64 0, .int .i64 0, .int .i64 0, .int .i64 0] ∧ Below n0 w wx))
  case first =>
    have hlen := HLEN.out
    have holen := HOL.out
    obtain ⟨b, p, rfl, -, -⟩ := HX.out hlen
    have hrd := HR1.out.drop 2 (by rw [bvals_length]; exact hlen) (by rw [bvals_length]; omega)
    have hdr : (bvals o).drop 2 = bvals (o.drop 2) := by unfold bvals; rw [List.map_drop]
    rw [Option.map_some, add_at, hdr] at hrd
    have HRD := Lib.hid hrd
    have hcap : o.length ≤ c1 := by obtain ⟨A', c', hv, h0, _⟩ := HR1.out; injection hv with _ _ h3; have := h0.2; rw [bvals_length] at this; omega
    have HOF : Hid (∀ V, Rd wc wc.heap.size V (bvals (o.drop 2)) → Calls Try.prog 73 #[V] wc (RetBits (upto (o.drop 2) (o.drop 2).length) wc)) := fun V hV => bitsOf_any wc V (o.drop 2) hV (by rw [List.length_drop]; omega)
    have HEND : Hid (∀ (vb : Value) (W : World), W.ownsRow wc.heap.size 4 1 vb (upto (o.drop 2) (o.drop 2).length).length (cvals (upto (o.drop 2) (o.drop 2).length)) → Below wc.heap.size wc W → ∃ b0, IS (W.alloc (.cells #[vb, .bool false] 119)) b0 W.heap.size (body (o.drop 2)) ∧ (b0 ≠ W.heap.size ∧ b0 ≠ n2 ∧ b0 < (W.alloc (.cells #[vb, .bool false] 119)).heap.size ∧ n0 ≤ W.heap.size) ∧ Tri (W.alloc (.cells #[vb, .bool false] 119)) n0 n1 n2 #[.slice none 0 0, .slice none 0 0, .slice none 0 0, .slice none 0 0, .slice none 0 0, .int .i64 0, .int .i64 0, .int .i64 0, .int .i64 0, .int .i64 0] ∧ Below n0 w (W.alloc (.cells #[vb, .bool false] 119))) := by
      intro vb W ho hb
      have hn1 : n1 < wc.heap.size := HT1.out.non.lt
      have hn2 : n2 < wc.heap.size := HT1.out.lay.lt
      have hn0 : n0 < wc.heap.size := HT1.out.res.lt
      have hsz := hb.size
      obtain ⟨b0, h1, h2, h3, h4⟩ := IS.of_own (ho.alloc (.cells #[vb, .bool false] 119)) (Row.new W 119 #[vb, .bool false]) (by rw [upto_length, List.length_drop]; omega) n1 (by rw [World.size_alloc]; omega)
      refine ⟨b0, h1, ⟨?_, ?_, h3, by omega⟩, (HT1.out.fresh hb).fresh ((Below.refl _ _).alloc (Nat.le_refl _) _), (HB1.out.trans (hb.mono (by omega))).alloc (by omega) _⟩
      · rcases Nat.lt_or_ge b0 W.heap.size with c | c
        · omega
        · exact h4 (by omega)
      · rcases h2 with e | e
        · have := HT1.out.ne; omega
        · omega
    clear hrd hdr
    go_wp2_with fail
    all_goals
      refine (HOF.out _ ?_).mono ?_
      · first
          | exact HRD.out
          | (have hc2 : c1 = 2 := by assumption
             exact ⟨_, 0, by rw [bvals_length, List.length_drop], ⟨(fun h => by cases h), by rw [bvals_length, List.length_drop]; omega⟩, fun hp => by rw [bvals_length, List.length_drop] at hp; omega⟩)
      rintro e W2 ⟨vb, rfl, hob, hbb⟩
      obtain ⟨b0, hfin⟩ := HEND.out vb W2 hob hbb
      obtain ⟨Ab, cb, hvb⟩ := own_slice hob
      subst hvb
      obtain ⟨Lb, hLb⟩ : ∃ x, (upto (List.drop 2 o) (List.drop 2 o).length).length = x := ⟨_, rfl⟩
      rw [hLb] at hfin ⊢
      clear hLb
      have HFIN := Lib.hid hfin
      clear hfin hob hbb
      go_wp2_with fail
      go_meet
      case rel => exact ⟨b0, _, rfl, HFIN.out⟩
  case rest =>
  obtain ⟨b0, g, rfl, HC⟩ := hcut
  obtain ⟨U0, hU0⟩ : ∃ x, x = wc := ⟨_, rfl⟩
  subst hU0
  have HI0 : Hid (IS U0 b0 g (body (o.drop 2))) := HC.out.1
  have HTT0 : Hid (Tri U0 n0 n1 n2 #[.slice none 0 0, .slice none 0 0, .slice none 0 0, .slice none 0 0, .slice none 0 0, .int .i64 0, .int .i64 0, .int .i64 0, .int .i64 0, .int .i64 0]) := HC.out.2.2.1
  have HBB0 : Hid (Below n0 w U0) := HC.out.2.2.2
  have hbg : b0 ≠ g := HC.out.2.1.1
  have HB2 : Hid (b0 ≠ n2) := HC.out.2.1.2.1
  have HBS0 : Hid (b0 < U0.heap.size) := HC.out.2.1.2.2.1
  have HGN : Hid (n0 ≤ g ∧ n0 ≤ n2) := ⟨HC.out.2.1.2.2.2, by have := HN.out; omega⟩
  obtain ⟨s0, hs0⟩ : ∃ s, body (o.drop 2) = s := ⟨_, rfl⟩
  rw [hs0] at HI0
  have HS0 := Lib.hid hs0
  clear hs0 HC HX HR1 HT1 HB1 HOL HLEN HOQ HH HBL HT0 HB0 HV HQ
  go_wp2_with fail
  refine (iget_any U0 b0 g s0 8 8 HI0.out hbg rfl (by omega) (by omega)).mono ?_
  rintro e wB0 ⟨rfl, h1, k1⟩
  have hlt := tget_lt 8 s0
  obtain ⟨m0, hm⟩ : ∃ n, (tget 8 s0).1 = n := ⟨_, rfl⟩
  obtain ⟨r0, hr⟩ : ∃ n, (tget 8 s0).2 = n := ⟨_, rfl⟩
  rw [hm] at hlt ⊢
  rw [hr] at h1
  have HM0 : Hid ((tget 8 s0).1 = m0 ∧ (tget 8 s0).2 = r0) := ⟨hm, hr⟩
  have mm0 : m0 ≤ 255 := by omega
  have hwr := i64_small m0 (by omega)
  obtain ⟨cgU, hgU⟩ := HI0.out.row
  have HTB0 := Lib.hid (HTT0.out.keptG k1 hgU)
  have HIB0 := Lib.hid h1
  have HKB0 : Hid (KeptL [g, n2] U0 wB0) := k1.mono in1
  have HBS : Hid (n0 < wB0.heap.size ∧ n1 < wB0.heap.size ∧ n2 < wB0.heap.size ∧ g < wB0.heap.size ∧ b0 < wB0.heap.size) := ⟨HTB0.out.res.lt, HTB0.out.non.lt, HTB0.out.lay.lt, by obtain ⟨c, hg⟩ := h1.row; exact hg.lt, Nat.lt_of_lt_of_le HBS0.out k1.size⟩
  clear h1 k1 hlt hm hr hgU
  go_wp2_with fail
  clear hwr
  go_loopw [10] (fun k wr => ∃ i : Nat, i ≤ m0 ∧ k = .int .i64 i ∧ Hid (∃ v0 ps, Tri wr n0 n1 n2 #[v0, .slice none 0 0, .slice none 0 0, .slice none 0 0, .slice none 0 0, .int .i64 0, .int .i64 0, .int .i64 0, .int .i64 0, .int .i64 0] ∧ wr.ownsRow wB0.heap.size 47 1 v0 i (nvals ps) ∧ FlN ps (tmany tnode i r0).1 ∧ IS wr b0 g (tmany tnode i r0).2 ∧ KeptL [g, n2] wB0 wr)) (fun k _ => m0 - (intOf k).toNat)
  case atStart => exact ⟨0, Nat.zero_le _, rfl, .slice none 0 0, [], HTB0.out, World.ownsRow_nil _ _ _ _, FlN.nil, HIB0.out, KeptL.refl _ _⟩
  case round =>
    obtain ⟨i, hi, rfl, HJ⟩ := hrel
    obtain ⟨v0, ps, hTri, hown, hFl, hIS, hKR⟩ := HJ.out
    obtain ⟨Av, cv, hv0⟩ := own_slice hown
    subst hv0
    have HTR := Lib.hid hTri; have HOWN := Lib.hid hown; have HIS := Lib.hid hIS; have HKR := Lib.hid hKR
    have HFL := Lib.hid hFl
    clear hFl
    clear hTri hown hIS hKR HJ
    obtain ⟨rv, hrow⟩ := HIS.out.row
    have fl1 := hrow.cell 1
    simp only [List.getElem?_toArray, List.getElem?_cons_zero, List.getElem?_cons_succ] at fl1
    clear hrow
    go_upto_region 10 with (fail)
    go_cut [62] (fun v wx => v = .bool (goes i m0 (tmany tnode i r0).2) ∧ wx = wr)
    case first =>
      by_cases hlt : i < m0
      · cases hst : (tmany tnode i r0).2 with
        | none =>
          rw [hst] at fl1
          go_wp2_with fail
          go_meet
          case rel => exact ⟨by rw [hst]; simp [goes, hlt], rfl⟩
        | some l =>
          rw [hst] at fl1
          go_wp2_with fail
          go_meet
          case rel => exact ⟨by rw [hst]; simp [goes, hlt], rfl⟩
      · go_wp2_with fail
        go_meet
        case rel => exact ⟨by simp [goes, hlt], rfl⟩
    case rest =>
    obtain ⟨rfl, rfl⟩ := hcut
    clear fl1
    cases hc : goes i m0 (tmany tnode i r0).2 with
    | true =>
      obtain ⟨hlt, l0, -⟩ := goes_true hc
      clear hc
      go_wp2_with fail
      refine (iget_any wc b0 g (tmany tnode i r0).2 32 32 HIS.out hbg rfl (by omega) (by omega)).mono ?_
      rintro e w3 ⟨rfl, h1, k1⟩
      have hb_x := tget_lt 32 (tmany tnode i r0).2
      obtain ⟨x, hv_x⟩ : ∃ x, (tget 32 (tmany tnode i r0).2).1 = x := ⟨_, rfl⟩
      rw [hv_x] at hb_x ⊢
      have HV_x := Lib.hid hv_x
      have HI_w3 := Lib.hid h1; have HK_w3 := Lib.hid k1
      clear h1 k1 hv_x
      have hx32 : x < 4294967296 := by omega
      clear hb_x
      go_wp2_with fail
      refine (part_any x w3 hx32).mono ?_
      rintro e w' ⟨fx, rfl, hfx, rfl⟩
      have HFX := Lib.hid hfx; clear hfx
      go_wp2_with fail
      refine (iget_any w3 b0 g (tget 32 (tmany tnode i r0).2).2 32 32 HI_w3.out hbg rfl (by omega) (by omega)).mono ?_
      rintro e w4 ⟨rfl, h1, k1⟩
      have hb_y := tget_lt 32 (tget 32 (tmany tnode i r0).2).2
      obtain ⟨y, hv_y⟩ : ∃ x, (tget 32 (tget 32 (tmany tnode i r0).2).2).1 = x := ⟨_, rfl⟩
      rw [hv_y] at hb_y ⊢
      have HV_y := Lib.hid hv_y
      have HI_w4 := Lib.hid h1; have HK_w4 := Lib.hid k1
      clear h1 k1 hv_y
      have hy32 : y < 4294967296 := by omega
      clear hb_y
      go_wp2_with fail
      refine (part_any y w4 hy32).mono ?_
      rintro e w' ⟨fy, rfl, hfy, rfl⟩
      have HFY := Lib.hid hfy; clear hfy
      obtain ⟨ca, hga⟩ := HIS.out.row
      obtain ⟨cb, hgb⟩ := HI_w3.out.row
      have tri4 := (HTR.out.keptG HK_w3.out hga).keptG HK_w4.out hgb
      have own4 := own_keptL (own_keptL HOWN.out HK_w3.out (Other.one hga (by decide))) HK_w4.out (Other.one hgb (by decide))
      have f0 := tri4.lay.cell 0
      simp only [List.getElem?_toArray, List.getElem?_cons_zero] at f0
      have HT4 := Lib.hid tri4; have HO4 := Lib.hid own4
      have HK4 : Hid (KeptL [g, n2] wB0 w4) := (HKR.out.trans (HK_w3.out.mono in1)).trans (HK_w4.out.mono in1)
      clear tri4 own4 hga hgb
      go_wp2_with (at_builtin; refine wpList_append_own _ rfl (.tmp 72) (.tmp 76) 28 rfl wB0.heap.size 47 j4 (.complex .f64 0 0) 1 16 Try.underlying28 hj4 hy40 hy41 hy42 rfl (by decide) _ _ _ rfl (HO4.out.alloc _) ⟨w4.heap.size, 0, none⟩ 1 1 [.complex .f64 fx fy] rfl rfl (one_new w4 47 _) (one_cell rfl) (by unfold maxLen; omega) (by omega) (by have := HK4.out.size; simp; omega) ?_)
      intro v5 w5 hown5 hgrow5 _
      rw [nvals_snoc] at hown5
      have hrb : ∀ k, (Value.slice Av i cv).ownBlock = some k → wB0.heap.size ≤ k := fun k hk => (HO4.out.lt k hk).1
      have tri5 := (HT4.out.fresh ((Below.refl _ _).alloc (Nat.le_refl _) (.cells #[.complex .f64 fx fy] 47))).grown hgrow5 hrb ⟨HBS.out.1, HBS.out.2.1, HBS.out.2.2.1⟩
      have is5 := (HI_w4.out.fresh ((Below.refl _ _).alloc (Nat.le_refl _) (.cells #[.complex .f64 fx fy] 47))).grown hgrow5 hrb HBS.out.2.2.2.1 HBS.out.2.2.2.2
      have kp5 := (HK4.out.alloc (.cells #[.complex .f64 fx fy] 47)).grown hgrow5 hrb
      have g0 := tri5.lay.cell 0; have z0 := tri5.lay.frozen 0
      simp only [List.getElem?_toArray, List.getElem?_cons_zero] at g0
      obtain ⟨A5, c5, hv5⟩ := own_slice hown5
      subst hv5
      have HNX : Hid (∃ v0 ps, Tri (w5.setCell ⟨n2, 0, none⟩ (.slice A5 (i + 1) c5)) n0 n1 n2 #[v0, .slice none 0 0, .slice none 0 0, .slice none 0 0, .slice none 0 0, .int .i64 0, .int .i64 0, .int .i64 0, .int .i64 0, .int .i64 0] ∧ (w5.setCell ⟨n2, 0, none⟩ (.slice A5 (i + 1) c5)).ownsRow wB0.heap.size 47 1 v0 (i + 1) (nvals ps) ∧ FlN ps (tmany tnode (i + 1) r0).1 ∧ IS (w5.setCell ⟨n2, 0, none⟩ (.slice A5 (i + 1) c5)) b0 g (tmany tnode (i + 1) r0).2 ∧ KeptL [g, n2] wB0 (w5.setCell ⟨n2, 0, none⟩ (.slice A5 (i + 1) c5))) := by
        refine ⟨_, _, tri5.set 0 _, own_far (a := ⟨n2, 0, none⟩) hown5 (fun e => by have h1 := (hown5.lt n2 e).1; have h2 := HBS.out.2.2.1; omega) _, ?_, ?_, kp5.set (by simp) _⟩
        · rw [many_node]
          exact FlN.snoc HFL.out (by rw [HV_x.out]; exact HFX.out) (by rw [HV_y.out]; exact HFY.out)
        · rw [many_node]
          exact is5.setL tri5.lay (by decide) HB2.out _
      clear hown5 hgrow5 hrb tri5 is5 kp5 f0
      go_wp2_with fail
      go_roundw
      case rel => exact ⟨i + 1, by omega, by go_num, HNX⟩
      case measure => simp [intOf]; omega

    | false =>
      obtain ⟨e1, e2⟩ := goes_false strict_node hi hc
      have HE : Hid ((tmany tnode m0 r0).2 = (tmany tnode i r0).2 ∧ ((tmany tnode m0 r0).2 ≠ none → i = m0)) := ⟨e1, e2⟩
      clear hc e1 e2
      have hTl : tlist tnode s0 = tmany tnode m0 r0 := by rw [tlist_eq, HM0.out.1, HM0.out.2]
      have HFx : Hid ((tlist tnode s0).2 ≠ none → IsNodes wc (.slice Av i cv) (tlist tnode s0).1) := by
        rw [hTl]
        intro hne
        have him := HE.out.2 hne
        subst him
        exact ⟨ps, Tl.of_own HOWN.out, HFL.out⟩
      have HIx : Hid (IS wc b0 g (tlist tnode s0).2) := by rw [hTl, HE.out.1]; exact HIS.out
      have hkk : KeptL [g, n2] U0 wc := HKB0.out.trans HKR.out
      obtain ⟨cgU, hgU⟩ := HI0.out.row
      have HBBx : Hid (Below n0 w wc) := HBB0.out.trans (hkk.below (by have := HTT0.out.res.lt; omega) (by
        intro x hx
        have h2 := HGN.out
        simp at hx; omega))
      have HBSx : Hid (b0 < wc.heap.size) := Nat.lt_of_lt_of_le HBS0.out hkk.size
      clear hTl hkk hgU HE HOWN HIS HKR HIB0 HTB0 HKB0 HM0 HBS HFL
      obtain ⟨U1, hU⟩ : ∃ x, x = wc := ⟨_, rfl⟩
      subst hU
      obtain ⟨A0, hA⟩ : ∃ x, x = Av := ⟨_, rfl⟩
      subst hA
      obtain ⟨c0, hA⟩ : ∃ x, x = cv := ⟨_, rfl⟩
      subst hA
      obtain ⟨k0, hA⟩ : ∃ x, x = i := ⟨_, rfl⟩
      subst hA
      have HTT1 := HTR; have HI1 := HIx; have HBB1 := HBBx; have HBS1 := HBSx; have HF0 := HFx
      clear HTR HIx HBBx HBSx HFx HTT0 HI0 HBB0 HBS0
      obtain ⟨s1, hst⟩ : ∃ x, (tlist tnode s0).2 = x := ⟨_, rfl⟩
      rw [hst] at HI1
      have HS1 := Lib.hid hst
      clear hst
      go_wp2_with fail
      refine (iget_any U1 b0 g s1 8 8 HI1.out hbg rfl (by omega) (by omega)).mono ?_
      rintro e wB1 ⟨rfl, h1, k1⟩
      have hlt := tget_lt 8 s1
      obtain ⟨m1, hm⟩ : ∃ n, (tget 8 s1).1 = n := ⟨_, rfl⟩
      obtain ⟨r1, hr⟩ : ∃ n, (tget 8 s1).2 = n := ⟨_, rfl⟩
      rw [hm] at hlt ⊢
      rw [hr] at h1
      have HM1 : Hid ((tget 8 s1).1 = m1 ∧ (tget 8 s1).2 = r1) := ⟨hm, hr⟩
      have mm1 : m1 ≤ 255 := by omega
      have hwr := i64_small m1 (by omega)
      obtain ⟨cgU, hgU⟩ := HI1.out.row
      have HTB1 := Lib.hid (HTT1.out.keptG k1 hgU)
      have HIB1 := Lib.hid h1
      have HKB1 : Hid (KeptL [g, n2] U1 wB1) := k1.mono in1
      have HBS : Hid (n0 < wB1.heap.size ∧ n1 < wB1.heap.size ∧ n2 < wB1.heap.size ∧ g < wB1.heap.size ∧ b0 < wB1.heap.size) := ⟨HTB1.out.res.lt, HTB1.out.non.lt, HTB1.out.lay.lt, by obtain ⟨c, hg⟩ := h1.row; exact hg.lt, Nat.lt_of_lt_of_le HBS1.out k1.size⟩
      clear h1 k1 hlt hm hr hgU
      go_wp2_with fail
      clear hwr
      go_loopw [13] (fun k wr => ∃ i : Nat, i ≤ m1 ∧ k = .int .i64 i ∧ Hid (∃ v0 , Tri wr n0 n1 n2 #[.slice A0 k0 c0, v0, .slice none 0 0, .slice none 0 0, .slice none 0 0, .int .i64 0, .int .i64 0, .int .i64 0, .int .i64 0, .int .i64 0] ∧ wr.ownsRow wB1.heap.size 50 3 v0 i (scells (tmany tsec i r1).1) ∧ IS wr b0 g (tmany tsec i r1).2 ∧ KeptL [g, n2] wB1 wr)) (fun k _ => m1 - (intOf k).toNat)
      case atStart => exact ⟨0, Nat.zero_le _, rfl, .slice none 0 0, HTB1.out, World.ownsRow_nil _ _ _ _, HIB1.out, KeptL.refl _ _⟩
      case round =>
        obtain ⟨i, hi, rfl, HJ⟩ := hrel
        obtain ⟨v0, hTri, hown, hIS, hKR⟩ := HJ.out
        obtain ⟨Av, cv, hv0⟩ := own_slice hown
        subst hv0
        have HTR := Lib.hid hTri; have HOWN := Lib.hid hown; have HIS := Lib.hid hIS; have HKR := Lib.hid hKR
        clear hTri hown hIS hKR HJ
        obtain ⟨rv, hrow⟩ := HIS.out.row
        have fl1 := hrow.cell 1
        simp only [List.getElem?_toArray, List.getElem?_cons_zero, List.getElem?_cons_succ] at fl1
        clear hrow
        go_upto_region 17 with (fail)
        go_cut [91] (fun v wx => v = .bool (goes i m1 (tmany tsec i r1).2) ∧ wx = wr)
        case first =>
          by_cases hlt : i < m1
          · cases hst : (tmany tsec i r1).2 with
            | none =>
              rw [hst] at fl1
              go_wp2_with fail
              go_meet
              case rel => exact ⟨by rw [hst]; simp [goes, hlt], rfl⟩
            | some l =>
              rw [hst] at fl1
              go_wp2_with fail
              go_meet
              case rel => exact ⟨by rw [hst]; simp [goes, hlt], rfl⟩
          · go_wp2_with fail
            go_meet
            case rel => exact ⟨by simp [goes, hlt], rfl⟩
        case rest =>
        obtain ⟨rfl, rfl⟩ := hcut
        clear fl1
        cases hc : goes i m1 (tmany tsec i r1).2 with
        | true =>
          obtain ⟨hlt, l0, -⟩ := goes_true hc
          clear hc
          go_wp2_with fail
          refine (iget_any wc b0 g (tmany tsec i r1).2 16 16 HIS.out hbg rfl (by omega) (by omega)).mono ?_
          rintro e w3 ⟨rfl, h1, k1⟩
          have hb_a := tget_lt 16 (tmany tsec i r1).2
          obtain ⟨a, hv_a⟩ : ∃ x, (tget 16 (tmany tsec i r1).2).1 = x := ⟨_, rfl⟩
          rw [hv_a] at hb_a ⊢
          have HV_a := Lib.hid hv_a
          have HI_w3 := Lib.hid h1; have HK_w3 := Lib.hid k1
          clear h1 k1 hv_a
          have hw_a := i64_small a (by omega)
          clear hb_a
          go_wp2_with fail
          clear hw_a
          refine (iget_any w3 b0 g (tget 16 (tmany tsec i r1).2).2 8 8 HI_w3.out hbg rfl (by omega) (by omega)).mono ?_
          rintro e w4 ⟨rfl, h1, k1⟩
          have hb_b := tget_lt 8 (tget 16 (tmany tsec i r1).2).2
          obtain ⟨b, hv_b⟩ : ∃ x, (tget 8 (tget 16 (tmany tsec i r1).2).2).1 = x := ⟨_, rfl⟩
          rw [hv_b] at hb_b ⊢
          have HV_b := Lib.hid hv_b
          have HI_w4 := Lib.hid h1; have HK_w4 := Lib.hid k1
          clear h1 k1 hv_b
          have hw_b := i64_small b (by omega)
          clear hb_b
          go_wp2_with fail
          clear hw_b
          refine (iget_any w4 b0 g (tget 8 (tget 16 (tmany tsec i r1).2).2).2 8 8 HI_w4.out hbg rfl (by omega) (by omega)).mono ?_
          rintro e w5 ⟨rfl, h1, k1⟩
          have hb_c := tget_lt 8 (tget 8 (tget 16 (tmany tsec i r1).2).2).2
          obtain ⟨c, hv_c⟩ : ∃ x, (tget 8 (tget 8 (tget 16 (tmany tsec i r1).2).2).2).1 = x := ⟨_, rfl⟩
          rw [hv_c] at hb_c ⊢
          have HV_c := Lib.hid hv_c
          have HI_w5 := Lib.hid h1; have HK_w5 := Lib.hid k1
          clear h1 k1 hv_c
          have hw_c := i64_small c (by omega)
          clear hb_c
          obtain ⟨ca, hga⟩ := HIS.out.row
          obtain ⟨cb, hgb⟩ := HI_w3.out.row
          obtain ⟨cc, hgc⟩ := HI_w4.out.row
          have tri5 := ((HTR.out.keptG HK_w3.out hga).keptG HK_w4.out hgb).keptG HK_w5.out hgc
          have own5 := own_keptL (own_keptL (own_keptL HOWN.out HK_w3.out (Other.one hga (by decide))) HK_w4.out (Other.one hgb (by decide))) HK_w5.out (Other.one hgc (by decide))
          have f0 := tri5.lay.cell 1
          simp only [List.getElem?_toArray, List.getElem?_cons_zero, List.getElem?_cons_succ] at f0
          have HT5 := Lib.hid tri5; have HO5 := Lib.hid own5
          have HK5 : Hid (KeptL [g, n2] wB1 w5) := ((HKR.out.trans (HK_w3.out.mono in1)).trans (HK_w4.out.mono in1)).trans (HK_w5.out.mono in1)
          clear tri5 own5 hga hgb hgc
          go_wp2_with (at_builtin; refine wpList_append_own _ rfl (.tmp 104) (.tmp 109) 29 rfl wB1.heap.size 50 j5 (.agg #[.int .i64 0, .int .i64 0, .int .i64 0]) 3 24 Try.underlying29 hj5 hy50 hy51 hy52 rfl (by decide) _ _ _ rfl (HO5.out.alloc _) ⟨w5.heap.size, 0, none⟩ 1 1 [.int .i64 (a : Int), .int .i64 (b : Int), .int .i64 (c : Int)] rfl rfl (row_new w5 50 _) (by intro u hu; simp at hu; rcases hu with rfl | rfl | rfl <;> rfl) (by unfold maxLen; omega) (by omega) (by have := HK5.out.size; simp; omega) ?_)
          intro v6 w6 hown6 hgrow6 _
          have hrb : ∀ k, (Value.slice Av i cv).ownBlock = some k → wB1.heap.size ≤ k := fun k hk => (HO5.out.lt k hk).1
          have tri6 := (HT5.out.fresh ((Below.refl _ _).alloc (Nat.le_refl _) (.cells #[.int .i64 (a : Int), .int .i64 (b : Int), .int .i64 (c : Int)] 50))).grown hgrow6 hrb ⟨HBS.out.1, HBS.out.2.1, HBS.out.2.2.1⟩
          have is6 := (HI_w5.out.fresh ((Below.refl _ _).alloc (Nat.le_refl _) (.cells #[.int .i64 (a : Int), .int .i64 (b : Int), .int .i64 (c : Int)] 50))).grown hgrow6 hrb HBS.out.2.2.2.1 HBS.out.2.2.2.2
          have kp6 := (HK5.out.alloc (.cells #[.int .i64 (a : Int), .int .i64 (b : Int), .int .i64 (c : Int)] 50)).grown hgrow6 hrb
          have g0 := tri6.lay.cell 1; have z0 := tri6.lay.frozen 1
          simp only [List.getElem?_toArray, List.getElem?_cons_zero, List.getElem?_cons_succ] at g0
          obtain ⟨A6, c6, hv6⟩ := own_slice hown6
          subst hv6
          have HNX : Hid (∃ v0, Tri (w6.setCell ⟨n2, 1, none⟩ (.slice A6 (i + 1) c6)) n0 n1 n2 #[.slice A0 k0 c0, v0, .slice none 0 0, .slice none 0 0, .slice none 0 0, .int .i64 0, .int .i64 0, .int .i64 0, .int .i64 0, .int .i64 0] ∧ (w6.setCell ⟨n2, 1, none⟩ (.slice A6 (i + 1) c6)).ownsRow wB1.heap.size 50 3 v0 (i + 1) (scells (tmany tsec (i + 1) r1).1) ∧ IS (w6.setCell ⟨n2, 1, none⟩ (.slice A6 (i + 1) c6)) b0 g (tmany tsec (i + 1) r1).2 ∧ KeptL [g, n2] wB1 (w6.setCell ⟨n2, 1, none⟩ (.slice A6 (i + 1) c6))) := by
            refine ⟨_, tri6.set 1 _, ?_, ?_, kp6.set (by simp) _⟩
            · rw [many_sec, ← scells_snoc, HV_a.out, HV_b.out, HV_c.out]
              exact own_far (a := ⟨n2, 1, none⟩) hown6 (fun e => by have h1 := (hown6.lt n2 e).1; have h2 := HBS.out.2.2.1; omega) _
            · rw [many_sec]
              exact is6.setL tri6.lay (by decide) HB2.out _
          clear hown6 hgrow6 hrb tri6 is6 kp6 f0 hw_c
          go_wp2_with fail
          go_roundw
          case rel => exact ⟨i + 1, by omega, by go_num, HNX⟩
          case measure => simp [intOf]; omega

        | false =>
          obtain ⟨e1, e2⟩ := goes_false strict_sec hi hc
          have HE : Hid ((tmany tsec m1 r1).2 = (tmany tsec i r1).2 ∧ ((tmany tsec m1 r1).2 ≠ none → i = m1)) := ⟨e1, e2⟩
          clear hc e1 e2
          have hTl : tlist tsec s1 = tmany tsec m1 r1 := by rw [tlist_eq, HM1.out.1, HM1.out.2]
          have HFx : Hid ((tlist tsec s1).2 ≠ none → IsSecs wc (.slice Av i cv) (tlist tsec s1).1) := by
            rw [hTl]
            intro hne
            have him := HE.out.2 hne
            subst him
            exact IsSecs.of_own HOWN.out (tmany_length _ _ _)
          have HIx : Hid (IS wc b0 g (tlist tsec s1).2) := by rw [hTl, HE.out.1]; exact HIS.out
          have hkk : KeptL [g, n2] U1 wc := HKB1.out.trans HKR.out
          obtain ⟨cgU, hgU⟩ := HI1.out.row
          have HBBx : Hid (Below n0 w wc) := HBB1.out.trans (hkk.below (by have := HTT1.out.res.lt; omega) (by
            intro x hx
            have h2 := HGN.out
            simp at hx; omega))
          have HBSx : Hid (b0 < wc.heap.size) := Nat.lt_of_lt_of_le HBS1.out hkk.size
          have HF0n : Hid (((tlist tnode) s0).2 ≠ none → IsNodes wc (.slice A0 k0 c0) ((tlist tnode) s0).1) := fun hne => (HF0.out hne).kept hkk (other_gl hgU HTT1.out.lay _ (by simp))
          clear HF0
          have HF0 := HF0n
          clear HF0n
          clear hTl hkk hgU HE HOWN HIS HKR HIB1 HTB1 HKB1 HM1 HBS
          obtain ⟨U2, hU⟩ : ∃ x, x = wc := ⟨_, rfl⟩
          subst hU
          obtain ⟨A1, hA⟩ : ∃ x, x = Av := ⟨_, rfl⟩
          subst hA
          obtain ⟨c1, hA⟩ : ∃ x, x = cv := ⟨_, rfl⟩
          subst hA
          obtain ⟨k1, hA⟩ : ∃ x, x = i := ⟨_, rfl⟩
          subst hA
          have HTT2 := HTR; have HI2 := HIx; have HBB2 := HBBx; have HBS2 := HBSx; have HF1 := HFx
          clear HTR HIx HBBx HBSx HFx HTT1 HI1 HBB1 HBS1
          obtain ⟨s2, hst⟩ : ∃ x, (tlist tsec s1).2 = x := ⟨_, rfl⟩
          rw [hst] at HI2
          have HS2 := Lib.hid hst
          clear hst
          go_wp2_with fail
          refine (nested_any U2 b0 g s2 HI2.out hbg HBS2.out).mono ?_
          rintro e wN ⟨vN, rfl, hIS, ⟨A2, k2, c2, hvN⟩, hRows, hk⟩
          subst hvN
          obtain ⟨cgU, hgU⟩ := HI2.out.row
          have tri := HTT2.out.keptG hk hgU
          obtain ⟨cgN, hgN⟩ := hIS.row
          have f0 := tri.lay.cell 2; have z0 := tri.lay.frozen 2
          simp only [List.getElem?_toArray, List.getElem?_cons_zero, List.getElem?_cons_succ] at f0
          have hset : KeptL [g, n2] wN (wN.setCell ⟨n2, 2, none⟩ (.slice A2 k2 c2)) := (KeptL.refl _ _).set (by simp) _
          have HTT3 : Hid (Tri (wN.setCell ⟨n2, 2, none⟩ (.slice A2 k2 c2)) n0 n1 n2 #[.slice A0 k0 c0, .slice A1 k1 c1, .slice A2 k2 c2, .slice none 0 0, .slice none 0 0, .int .i64 0, .int .i64 0, .int .i64 0, .int .i64 0, .int .i64 0]) := tri.set 2 _
          have HI3 := Lib.hid (hIS.setL (i := 2) tri.lay (by decide) HB2.out (.slice A2 k2 c2))
          have HF2 : Hid ((trows s2).2 ≠ none → IsRows (wN.setCell ⟨n2, 2, none⟩ (.slice A2 k2 c2)) (.slice A2 k2 c2) (trows s2).1) := fun hne => (hRows hne).kept hset (other_gl hgN tri.lay _ (by simp)) (other_gl hgN tri.lay _ (by simp))
          have hkk : KeptL [g, n2] U2 (wN.setCell ⟨n2, 2, none⟩ (.slice A2 k2 c2)) := (hk.mono in1).trans hset
          have HF0n : Hid (((tlist tnode) s0).2 ≠ none → IsNodes (wN.setCell ⟨n2, 2, none⟩ (.slice A2 k2 c2)) (.slice A0 k0 c0) ((tlist tnode) s0).1) := fun hne => (HF0.out hne).kept hkk (other_gl hgU HTT2.out.lay _ (by simp))
          have HF1n : Hid (((tlist tsec) s1).2 ≠ none → IsSecs (wN.setCell ⟨n2, 2, none⟩ (.slice A2 k2 c2)) (.slice A1 k1 c1) ((tlist tsec) s1).1) := fun hne => (HF1.out hne).kept hkk (other_gl hgU HTT2.out.lay _ (by simp))
          clear HF0
          have HF0 := HF0n
          clear HF0n
          clear HF1
          have HF1 := HF1n
          clear HF1n
          have HBB3 : Hid (Below n0 w (wN.setCell ⟨n2, 2, none⟩ (.slice A2 k2 c2))) := HBB2.out.trans (hkk.below (by have := HTT2.out.res.lt; omega) (by
            intro x hx
            have h2 := HGN.out
            simp at hx; omega))
          have HBS3 : Hid (b0 < (wN.setCell ⟨n2, 2, none⟩ (.slice A2 k2 c2)).heap.size) := Nat.lt_of_lt_of_le HBS2.out hkk.size
          obtain ⟨s3, hst⟩ : ∃ x, (trows s2).2 = x := ⟨_, rfl⟩
          rw [hst] at HI3
          have HS3 := Lib.hid hst
          clear hst hIS hRows hk hgU hgN tri hset hkk HTT2 HI2 HBB2 HBS2
          go_upto_region 24 with (fail)
          generalize wN.setCell ⟨n2, 2, none⟩ (.slice A2 k2 c2) = U3 at *
          clear f0 z0
          go_wp2_with fail
          refine (iget_any U3 b0 g s3 8 8 HI3.out hbg rfl (by omega) (by omega)).mono ?_
          rintro e wB3 ⟨rfl, h1, k1⟩
          have hlt := tget_lt 8 s3
          obtain ⟨m3, hm⟩ : ∃ n, (tget 8 s3).1 = n := ⟨_, rfl⟩
          obtain ⟨r3, hr⟩ : ∃ n, (tget 8 s3).2 = n := ⟨_, rfl⟩
          rw [hm] at hlt ⊢
          rw [hr] at h1
          have HM3 : Hid ((tget 8 s3).1 = m3 ∧ (tget 8 s3).2 = r3) := ⟨hm, hr⟩
          have mm3 : m3 ≤ 255 := by omega
          have hwr := i64_small m3 (by omega)
          obtain ⟨cgU, hgU⟩ := HI3.out.row
          have HTB3 := Lib.hid (HTT3.out.keptG k1 hgU)
          have HIB3 := Lib.hid h1
          have HKB3 : Hid (KeptL [g, n2] U3 wB3) := k1.mono in1
          have HBS : Hid (n0 < wB3.heap.size ∧ n1 < wB3.heap.size ∧ n2 < wB3.heap.size ∧ g < wB3.heap.size ∧ b0 < wB3.heap.size) := ⟨HTB3.out.res.lt, HTB3.out.non.lt, HTB3.out.lay.lt, by obtain ⟨c, hg⟩ := h1.row; exact hg.lt, Nat.lt_of_lt_of_le HBS3.out k1.size⟩
          clear h1 k1 hlt hm hr hgU
          go_wp2_with fail
          clear hwr
          go_loopw [17] (fun k wr => ∃ i : Nat, i ≤ m3 ∧ k = .int .i64 i ∧ Hid (∃ v0 , Tri wr n0 n1 n2 #[.slice A0 k0 c0, .slice A1 k1 c1, .slice A2 k2 c2, v0, .slice none 0 0, .int .i64 0, .int .i64 0, .int .i64 0, .int .i64 0, .int .i64 0] ∧ wr.ownsRow wB3.heap.size 53 4 v0 i (pcells (tmany tpoint i r3).1) ∧ IS wr b0 g (tmany tpoint i r3).2 ∧ KeptL [g, n2] wB3 wr)) (fun k _ => m3 - (intOf k).toNat)
          case atStart => exact ⟨0, Nat.zero_le _, rfl, .slice none 0 0, HTB3.out, World.ownsRow_nil _ _ _ _, HIB3.out, KeptL.refl _ _⟩
          case round =>
            obtain ⟨i, hi, rfl, HJ⟩ := hrel
            obtain ⟨v0, hTri, hown, hIS, hKR⟩ := HJ.out
            obtain ⟨Av, cv, hv0⟩ := own_slice hown
            subst hv0
            have HTR := Lib.hid hTri; have HOWN := Lib.hid hown; have HIS := Lib.hid hIS; have HKR := Lib.hid hKR
            clear hTri hown hIS hKR HJ
            obtain ⟨rv, hrow⟩ := HIS.out.row
            have fl1 := hrow.cell 1
            simp only [List.getElem?_toArray, List.getElem?_cons_zero, List.getElem?_cons_succ] at fl1
            clear hrow
            go_upto_region 26 with (fail)
            go_cut [127] (fun v wx => v = .bool (goes i m3 (tmany tpoint i r3).2) ∧ wx = wr)
            case first =>
              by_cases hlt : i < m3
              · cases hst : (tmany tpoint i r3).2 with
                | none =>
                  rw [hst] at fl1
                  go_wp2_with fail
                  go_meet
                  case rel => exact ⟨by rw [hst]; simp [goes, hlt], rfl⟩
                | some l =>
                  rw [hst] at fl1
                  go_wp2_with fail
                  go_meet
                  case rel => exact ⟨by rw [hst]; simp [goes, hlt], rfl⟩
              · go_wp2_with fail
                go_meet
                case rel => exact ⟨by simp [goes, hlt], rfl⟩
            case rest =>
            obtain ⟨rfl, rfl⟩ := hcut
            clear fl1
            cases hc : goes i m3 (tmany tpoint i r3).2 with
            | true =>
              obtain ⟨hlt, l0, -⟩ := goes_true hc
              clear hc
              obtain ⟨wX, hwX⟩ : ∃ x, x = wc := ⟨_, rfl⟩
              subst hwX
              obtain ⟨gx, hgx⟩ : ∃ n, n = wX.heap.size := ⟨_, rfl⟩
              have HX0 := Lib.hid (Row.new wX 122 #[.int .i64 0, .int .i64 0, .int .i64 0, .int .i64 0])
              have HXI := Lib.hid (HIS.out.fresh ((Below.refl _ _).alloc (Nat.le_refl _) (.cells #[.int .i64 0, .int .i64 0, .int .i64 0, .int .i64 0] 122)))
              have HXK : Hid (KeptL [gx, g] wX (wX.alloc (.cells #[.int .i64 0, .int .i64 0, .int .i64 0, .int .i64 0] 122))) := KeptL.of_below ((Below.refl _ _).alloc (Nat.le_refl _) _)
              have HXG : Hid (gx = wX.heap.size ∧ b0 ≠ gx) := ⟨hgx, by have h1 := HBS.out.2.2.2.2; have h2 := HKR.out.size; omega⟩
              rw [← hgx] at HX0
              go_upto_region 29 with (fail)
              rw [← hgx]
              clear hgx
              generalize wX.alloc (.cells #[.int .i64 0, .int .i64 0, .int .i64 0, .int .i64 0] 122) = wY at *
              obtain ⟨sp, hsp⟩ : ∃ x, (tmany tpoint i r3).2 = x := ⟨_, rfl⟩
              rw [hsp] at HXI
              have HSP := Lib.hid hsp; clear hsp
              go_wp2_with fail
              go_loopw [19] (fun k wr => ∃ j : Nat, j ≤ 4 ∧ k = .int .i64 j ∧ Hid (IS wr b0 g (tmany (tnum 8) j sp).2 ∧ Row wr gx 122 (upd #[.int .i64 0, .int .i64 0, .int .i64 0, .int .i64 0] (([0, 1, 2, 3].take j).zip (tmany (tnum 8) j sp).1)) ∧ KeptL [gx, g] wX wr)) (fun k _ => 4 - (intOf k).toNat)
              case atStart => exact ⟨0, by omega, rfl, HXI.out, HX0.out, HXK.out⟩
              case round =>
                obtain ⟨j, hj, rfl, HP⟩ := hrel
                by_cases hj4 : j < 4
                · go_wp2_with fail
                  refine (iget_any wr b0 g _ 8 8 HP.out.1 hbg rfl (by omega) (by omega)).mono ?_
                  rintro e w3 ⟨rfl, h1, k1⟩
                  obtain ⟨cg1, hg1⟩ := HP.out.1.row
                  have hrow := k1.row1 HP.out.2.1 hg1 (by decide)
                  have hcl := hrow.cell j; have hfr := hrow.frozen j
                  have hus : (upd #[.int .i64 0, .int .i64 0, .int .i64 0, .int .i64 0] (([0, 1, 2, 3].take j).zip (tmany (tnum 8) j sp).1)).size = 4 := by rw [upd_size]; rfl
                  obtain ⟨x0, hx0⟩ : ∃ x, (upd #[.int .i64 0, .int .i64 0, .int .i64 0, .int .i64 0] (([0, 1, 2, 3].take j).zip (tmany (tnum 8) j sp).1))[j]? = some x := ⟨_, Array.getElem?_eq_getElem (by omega)⟩
                  rw [hx0] at hcl
                  have hlt8 := tget_lt 8 (tmany (tnum 8) j sp).2
                  have HZ : Hid (([0, 1, 2, 3].take (j + 1)).zip (tmany (tnum 8) (j + 1) sp).1 = ([0, 1, 2, 3].take j).zip (tmany (tnum 8) j sp).1 ++ [(j, ((tget 8 (tmany (tnum 8) j sp).2).1 : Int))]) := by
                    have h := zip_take [0, 1, 2, 3] (tmany (tnum 8) j sp).1 (tnum 8 (tmany (tnum 8) j sp).2).1 j hj4 (tmany_length _ _ _)
                    have e : [0, 1, 2, 3][j] = j := by
                      match j, hj4 with
                      | 0, _ => rfl
                      | 1, _ => rfl
                      | 2, _ => rfl
                      | 3, _ => rfl
                    rw [e] at h
                    exact h
                  have H2 : Hid (IS w3 b0 g (tmany (tnum 8) (j + 1) sp).2 ∧ Row w3 gx 122 (upd #[.int .i64 0, .int .i64 0, .int .i64 0, .int .i64 0] (([0, 1, 2, 3].take j).zip (tmany (tnum 8) j sp).1)) ∧ KeptL [gx, g] wX w3) := ⟨h1, hrow, HP.out.2.2.trans (k1.mono in2')⟩
                  clear h1 k1 hrow hg1 hx0 hus
                  generalize (tget 8 (tmany (tnum 8) j sp).2).1 = y at *
                  have hwrp := i64_small y (by omega)
                  go_wp2_with fail
                  have H3 : Hid (IS (w3.setCell ⟨gx, j, none⟩ (.int .i64 (y : Int))) b0 g (tmany (tnum 8) (j + 1) sp).2 ∧ Row (w3.setCell ⟨gx, j, none⟩ (.int .i64 (y : Int))) gx 122 (upd #[.int .i64 0, .int .i64 0, .int .i64 0, .int .i64 0] (([0, 1, 2, 3].take (j + 1)).zip (tmany (tnum 8) (j + 1) sp).1)) ∧ KeptL [gx, g] wX (w3.setCell ⟨gx, j, none⟩ (.int .i64 (y : Int)))) := by
                    refine ⟨H2.out.1.setL H2.out.2.1 (by decide) HXG.out.2 _, ?_, H2.out.2.2.set (by simp) _⟩
                    rw [HZ.out, upd_snoc]
                    exact H2.out.2.1.set j _
                  go_roundw
                  case rel => exact ⟨j + 1, by omega, by go_num, H3⟩
                  case measure => simp [intOf]; omega
                · have hj5 : j = 4 := by omega
                  have HP4 : Hid (IS wr b0 g (tpoint sp).2 ∧ Row wr gx 122 #[.int .i64 (tpoint sp).1.1, .int .i64 (tpoint sp).1.2.1, .int .i64 (tpoint sp).1.2.2.1, .int .i64 (tpoint sp).1.2.2.2] ∧ KeptL [gx, g] wX wr) := by
                    have h := HP.out
                    rw [hj5] at h
                    exact h
                  clear hj5 HP
                  obtain ⟨w5, hw5⟩ : ∃ x, x = wr := ⟨_, rfl⟩
                  subst hw5
                  have HPM : Hid (tmany tpoint (i + 1) r3 = ((tmany tpoint i r3).1 ++ [(tpoint sp).1], (tpoint sp).2)) := by show _ = _; rw [← HSP.out]; rfl
                  obtain ⟨a, ha⟩ : ∃ x, (tpoint sp).1 = x := ⟨_, rfl⟩
                  rw [ha] at HP4 HPM
                  clear ha
                  have hx1 := HP4.out.2.1
                  have a0 := hx1.cell 0; have a1 := hx1.cell 1; have a2 := hx1.cell 2; have a3 := hx1.cell 3
                  simp only [List.getElem?_toArray, List.getElem?_cons_zero, List.getElem?_cons_succ] at a0 a1 a2 a3
                  have hk5 : KeptL [g] wX w5 := HP4.out.2.2.fresh (by have := HXG.out.1; omega)
                  obtain ⟨ca, hga⟩ := HIS.out.row
                  have tri5 := HTR.out.keptG hk5 hga
                  have own5 := own_keptL HOWN.out hk5 (Other.one hga (by decide))
                  have f0 := tri5.lay.cell 3
                  simp only [List.getElem?_toArray, List.getElem?_cons_zero, List.getElem?_cons_succ] at f0
                  have HT5 := Lib.hid tri5; have HO5 := Lib.hid own5
                  have HK5 : Hid (KeptL [g, n2] wB3 w5) := HKR.out.trans (hk5.mono in1)
                  clear tri5 own5 hga hk5 hx1
                  go_wp2_with (at_builtin; refine wpList_append_own _ rfl (.tmp 140) (.tmp 150) 31 rfl wB3.heap.size 53 j6 (.agg #[.int .i64 0, .int .i64 0, .int .i64 0, .int .i64 0]) 4 32 Try.underlying31 hj6 hy60 hy61 hy62 rfl (by decide) _ _ _ rfl (HO5.out.alloc _) ⟨w5.heap.size, 0, none⟩ 1 1 [.int .i64 a.1, .int .i64 a.2.1, .int .i64 a.2.2.1, .int .i64 a.2.2.2] rfl rfl (row_new w5 53 _) (by intro u hu; simp at hu; rcases hu with rfl | rfl | rfl | rfl <;> rfl) (by unfold maxLen; omega) (by omega) (by have := HK5.out.size; simp; omega) ?_)
                  intro v6 w6 hown6 hgrow6 _
                  have hrb : ∀ k, (Value.slice Av i cv).ownBlock = some k → wB3.heap.size ≤ k := fun k hk => (HO5.out.lt k hk).1
                  have tri6 := (HT5.out.fresh ((Below.refl _ _).alloc (Nat.le_refl _) (.cells #[.int .i64 a.1, .int .i64 a.2.1, .int .i64 a.2.2.1, .int .i64 a.2.2.2] 53))).grown hgrow6 hrb ⟨HBS.out.1, HBS.out.2.1, HBS.out.2.2.1⟩
                  have is6 := (HP4.out.1.fresh ((Below.refl _ _).alloc (Nat.le_refl _) (.cells #[.int .i64 a.1, .int .i64 a.2.1, .int .i64 a.2.2.1, .int .i64 a.2.2.2] 53))).grown hgrow6 hrb HBS.out.2.2.2.1 HBS.out.2.2.2.2
                  have kp6 := (HK5.out.alloc (.cells #[.int .i64 a.1, .int .i64 a.2.1, .int .i64 a.2.2.1, .int .i64 a.2.2.2] 53)).grown hgrow6 hrb
                  have g0 := tri6.lay.cell 3; have z0 := tri6.lay.frozen 3
                  simp only [List.getElem?_toArray, List.getElem?_cons_zero, List.getElem?_cons_succ] at g0
                  obtain ⟨A6, c6, hv6⟩ := own_slice hown6
                  subst hv6
                  have HNX : Hid (∃ v0, Tri (w6.setCell ⟨n2, 3, none⟩ (.slice A6 (i + 1) c6)) n0 n1 n2 #[.slice A0 k0 c0, .slice A1 k1 c1, .slice A2 k2 c2, v0, .slice none 0 0, .int .i64 0, .int .i64 0, .int .i64 0, .int .i64 0, .int .i64 0] ∧ (w6.setCell ⟨n2, 3, none⟩ (.slice A6 (i + 1) c6)).ownsRow wB3.heap.size 53 4 v0 (i + 1) (pcells (tmany tpoint (i + 1) r3).1) ∧ IS (w6.setCell ⟨n2, 3, none⟩ (.slice A6 (i + 1) c6)) b0 g (tmany tpoint (i + 1) r3).2 ∧ KeptL [g, n2] wB3 (w6.setCell ⟨n2, 3, none⟩ (.slice A6 (i + 1) c6))) := by
                    refine ⟨_, tri6.set 3 _, ?_, ?_, kp6.set (by simp) _⟩
                    · rw [HPM.out, ← pcells_snoc]
                      exact own_far (a := ⟨n2, 3, none⟩) hown6 (fun e => by have h1 := (hown6.lt n2 e).1; have h2 := HBS.out.2.2.1; omega) _
                    · rw [HPM.out]
                      exact is6.setL tri6.lay (by decide) HB2.out _
                  clear hown6 hgrow6 hrb tri6 is6 kp6 f0 a0 a1 a2 a3
                  go_wp2_with fail
                  go_roundw
                  case rel => exact ⟨i + 1, by omega, by go_num, HNX⟩
                  case measure => simp [intOf]; omega

            | false =>
              obtain ⟨e1, e2⟩ := goes_false strict_point hi hc
              have HE : Hid ((tmany tpoint m3 r3).2 = (tmany tpoint i r3).2 ∧ ((tmany tpoint m3 r3).2 ≠ none → i = m3)) := ⟨e1, e2⟩
              clear hc e1 e2
              have hTl : tlist tpoint s3 = tmany tpoint m3 r3 := by rw [tlist_eq, HM3.out.1, HM3.out.2]
              have HFx : Hid ((tlist tpoint s3).2 ≠ none → IsPoints wc (.slice Av i cv) (tlist tpoint s3).1) := by
                rw [hTl]
                intro hne
                have him := HE.out.2 hne
                subst him
                exact IsPoints.of_own HOWN.out (tmany_length _ _ _)
              have HIx : Hid (IS wc b0 g (tlist tpoint s3).2) := by rw [hTl, HE.out.1]; exact HIS.out
              have hkk : KeptL [g, n2] U3 wc := HKB3.out.trans HKR.out
              obtain ⟨cgU, hgU⟩ := HI3.out.row
              have HBBx : Hid (Below n0 w wc) := HBB3.out.trans (hkk.below (by have := HTT3.out.res.lt; omega) (by
                intro x hx
                have h2 := HGN.out
                simp at hx; omega))
              have HBSx : Hid (b0 < wc.heap.size) := Nat.lt_of_lt_of_le HBS3.out hkk.size
              have HF0n : Hid (((tlist tnode) s0).2 ≠ none → IsNodes wc (.slice A0 k0 c0) ((tlist tnode) s0).1) := fun hne => (HF0.out hne).kept hkk (other_gl hgU HTT3.out.lay _ (by simp))
              have HF1n : Hid (((tlist tsec) s1).2 ≠ none → IsSecs wc (.slice A1 k1 c1) ((tlist tsec) s1).1) := fun hne => (HF1.out hne).kept hkk (other_gl hgU HTT3.out.lay _ (by simp))
              have HF2n : Hid (((trows) s2).2 ≠ none → IsRows wc (.slice A2 k2 c2) ((trows) s2).1) := fun hne => (HF2.out hne).kept hkk (other_gl hgU HTT3.out.lay _ (by simp)) (other_gl hgU HTT3.out.lay _ (by simp))
              clear HF0
              have HF0 := HF0n
              clear HF0n
              clear HF1
              have HF1 := HF1n
              clear HF1n
              clear HF2
              have HF2 := HF2n
              clear HF2n
              clear hTl hkk hgU HE HOWN HIS HKR HIB3 HTB3 HKB3 HM3 HBS
              obtain ⟨U4, hU⟩ : ∃ x, x = wc := ⟨_, rfl⟩
              subst hU
              obtain ⟨A3, hA⟩ : ∃ x, x = Av := ⟨_, rfl⟩
              subst hA
              obtain ⟨c3, hA⟩ : ∃ x, x = cv := ⟨_, rfl⟩
              subst hA
              obtain ⟨k3, hA⟩ : ∃ x, x = i := ⟨_, rfl⟩
              subst hA
              have HTT4 := HTR; have HI4 := HIx; have HBB4 := HBBx; have HBS4 := HBSx; have HF3 := HFx
              clear HTR HIx HBBx HBSx HFx HTT3 HI3 HBB3 HBS3
              obtain ⟨s4, hst⟩ : ∃ x, (tlist tpoint s3).2 = x := ⟨_, rfl⟩
              rw [hst] at HI4
              have HS4 := Lib.hid hst
              clear hst
              go_wp2_with fail
              refine (nested_any U4 b0 g s4 HI4.out hbg HBS4.out).mono ?_
              rintro e wN ⟨vN, rfl, hIS, ⟨A4, k4, c4, hvN⟩, hRows, hk⟩
              subst hvN
              obtain ⟨cgU, hgU⟩ := HI4.out.row
              have tri := HTT4.out.keptG hk hgU
              obtain ⟨cgN, hgN⟩ := hIS.row
              have f0 := tri.lay.cell 4; have z0 := tri.lay.frozen 4
              simp only [List.getElem?_toArray, List.getElem?_cons_zero, List.getElem?_cons_succ] at f0
              have hset : KeptL [g, n2] wN (wN.setCell ⟨n2, 4, none⟩ (.slice A4 k4 c4)) := (KeptL.refl _ _).set (by simp) _
              have HTT5 : Hid (Tri (wN.setCell ⟨n2, 4, none⟩ (.slice A4 k4 c4)) n0 n1 n2 #[.slice A0 k0 c0, .slice A1 k1 c1, .slice A2 k2 c2, .slice A3 k3 c3, .slice A4 k4 c4, .int .i64 0, .int .i64 0, .int .i64 0, .int .i64 0, .int .i64 0]) := tri.set 4 _
              have HI5 := Lib.hid (hIS.setL (i := 4) tri.lay (by decide) HB2.out (.slice A4 k4 c4))
              have HF4 : Hid ((trows s4).2 ≠ none → IsRows (wN.setCell ⟨n2, 4, none⟩ (.slice A4 k4 c4)) (.slice A4 k4 c4) (trows s4).1) := fun hne => (hRows hne).kept hset (other_gl hgN tri.lay _ (by simp)) (other_gl hgN tri.lay _ (by simp))
              have hkk : KeptL [g, n2] U4 (wN.setCell ⟨n2, 4, none⟩ (.slice A4 k4 c4)) := (hk.mono in1).trans hset
              have HF0n : Hid (((tlist tnode) s0).2 ≠ none → IsNodes (wN.setCell ⟨n2, 4, none⟩ (.slice A4 k4 c4)) (.slice A0 k0 c0) ((tlist tnode) s0).1) := fun hne => (HF0.out hne).kept hkk (other_gl hgU HTT4.out.lay _ (by simp))
              have HF1n : Hid (((tlist tsec) s1).2 ≠ none → IsSecs (wN.setCell ⟨n2, 4, none⟩ (.slice A4 k4 c4)) (.slice A1 k1 c1) ((tlist tsec) s1).1) := fun hne => (HF1.out hne).kept hkk (other_gl hgU HTT4.out.lay _ (by simp))
              have HF2n : Hid (((trows) s2).2 ≠ none → IsRows (wN.setCell ⟨n2, 4, none⟩ (.slice A4 k4 c4)) (.slice A2 k2 c2) ((trows) s2).1) := fun hne => (HF2.out hne).kept hkk (other_gl hgU HTT4.out.lay _ (by simp)) (other_gl hgU HTT4.out.lay _ (by simp))
              have HF3n : Hid (((tlist tpoint) s3).2 ≠ none → IsPoints (wN.setCell ⟨n2, 4, none⟩ (.slice A4 k4 c4)) (.slice A3 k3 c3) ((tlist tpoint) s3).1) := fun hne => (HF3.out hne).kept hkk (other_gl hgU HTT4.out.lay _ (by simp))
              clear HF0
              have HF0 := HF0n
              clear HF0n
              clear HF1
              have HF1 := HF1n
              clear HF1n
              clear HF2
              have HF2 := HF2n
              clear HF2n
              clear HF3
              have HF3 := HF3n
              clear HF3n
              have HBB5 : Hid (Below n0 w (wN.setCell ⟨n2, 4, none⟩ (.slice A4 k4 c4))) := HBB4.out.trans (hkk.below (by have := HTT4.out.res.lt; omega) (by
                intro x hx
                have h2 := HGN.out
                simp at hx; omega))
              have HBS5 : Hid (b0 < (wN.setCell ⟨n2, 4, none⟩ (.slice A4 k4 c4)).heap.size) := Nat.lt_of_lt_of_le HBS4.out hkk.size
              obtain ⟨s5, hst⟩ : ∃ x, (trows s4).2 = x := ⟨_, rfl⟩
              rw [hst] at HI5
              have HS5 := Lib.hid hst
              clear hst hIS hRows hk hgU hgN tri hset hkk HTT4 HI4 HBB4 HBS4
              go_upto_region 35 with (fail)
              generalize wN.setCell ⟨n2, 4, none⟩ (.slice A4 k4 c4) = U5 at *
              clear f0 z0
              go_wp2_with fail
              refine (iget_any U5 b0 g s5 16 16 HI5.out hbg rfl (by omega) (by omega)).mono ?_
              rintro e wN ⟨rfl, hIS, hk⟩
              have hlt := tget_lt 16 s5
              obtain ⟨t0, ht⟩ : ∃ n, (tget 16 s5).1 = n := ⟨_, rfl⟩
              obtain ⟨y1, hy⟩ : ∃ n, (tget 16 s5).2 = n := ⟨_, rfl⟩
              rw [ht] at hlt ⊢
              rw [hy] at hIS
              have HY1 : Hid ((tget 16 s5).1 = t0 ∧ (tget 16 s5).2 = y1) := ⟨ht, hy⟩
              have hwr := i64_small t0 (by omega)
              obtain ⟨cgU, hgU⟩ := HI5.out.row
              have tri := HTT5.out.keptG hk hgU
              have f0 := tri.lay.cell 5; have z0 := tri.lay.frozen 5
              simp only [List.getElem?_toArray, List.getElem?_cons_zero, List.getElem?_cons_succ] at f0
              have hset : KeptL [g, n2] wN (wN.setCell ⟨n2, 5, none⟩ (.int .i64 (t0 : Int))) := (KeptL.refl _ _).set (by simp) _
              have HTT6 : Hid (Tri (wN.setCell ⟨n2, 5, none⟩ (.int .i64 (t0 : Int))) n0 n1 n2 #[.slice A0 k0 c0, .slice A1 k1 c1, .slice A2 k2 c2, .slice A3 k3 c3, .slice A4 k4 c4, .int .i64 (t0 : Int), .int .i64 0, .int .i64 0, .int .i64 0, .int .i64 0]) := tri.set 5 _
              have HI6 := Lib.hid (hIS.setL (i := 5) tri.lay (by decide) HB2.out (.int .i64 (t0 : Int)))
              have hkk : KeptL [g, n2] U5 (wN.setCell ⟨n2, 5, none⟩ (.int .i64 (t0 : Int))) := (hk.mono in1).trans hset
              have HF0n : Hid (((tlist tnode) s0).2 ≠ none → IsNodes (wN.setCell ⟨n2, 5, none⟩ (.int .i64 (t0 : Int))) (.slice A0 k0 c0) ((tlist tnode) s0).1) := fun hne => (HF0.out hne).kept hkk (other_gl hgU HTT5.out.lay _ (by simp))
              have HF1n : Hid (((tlist tsec) s1).2 ≠ none → IsSecs (wN.setCell ⟨n2, 5, none⟩ (.int .i64 (t0 : Int))) (.slice A1 k1 c1) ((tlist tsec) s1).1) := fun hne => (HF1.out hne).kept hkk (other_gl hgU HTT5.out.lay _ (by simp))
              have HF2n : Hid (((trows) s2).2 ≠ none → IsRows (wN.setCell ⟨n2, 5, none⟩ (.int .i64 (t0 : Int))) (.slice A2 k2 c2) ((trows) s2).1) := fun hne => (HF2.out hne).kept hkk (other_gl hgU HTT5.out.lay _ (by simp)) (other_gl hgU HTT5.out.lay _ (by simp))
              have HF3n : Hid (((tlist tpoint) s3).2 ≠ none → IsPoints (wN.setCell ⟨n2, 5, none⟩ (.int .i64 (t0 : Int))) (.slice A3 k3 c3) ((tlist tpoint) s3).1) := fun hne => (HF3.out hne).kept hkk (other_gl hgU HTT5.out.lay _ (by simp))
              have HF4n : Hid (((trows) s4).2 ≠ none → IsRows (wN.setCell ⟨n2, 5, none⟩ (.int .i64 (t0 : Int))) (.slice A4 k4 c4) ((trows) s4).1) := fun hne => (HF4.out hne).kept hkk (other_gl hgU HTT5.out.lay _ (by simp)) (other_gl hgU HTT5.out.lay _ (by simp))
              clear HF0
              have HF0 := HF0n
              clear HF0n
              clear HF1
              have HF1 := HF1n
              clear HF1n
              clear HF2
              have HF2 := HF2n
              clear HF2n
              clear HF3
              have HF3 := HF3n
              clear HF3n
              clear HF4
              have HF4 := HF4n
              clear HF4n
              have HBB6 : Hid (Below n0 w (wN.setCell ⟨n2, 5, none⟩ (.int .i64 (t0 : Int)))) := HBB5.out.trans (hkk.below (by have := HTT5.out.res.lt; omega) (by
                intro x hx
                have h2 := HGN.out
                simp at hx; omega))
              clear hlt ht hy hIS hk hgU tri hset hkk HTT5 HI5 HBB5
              go_upto_region 36 with (fail)
              generalize wN.setCell ⟨n2, 5, none⟩ (.int .i64 (t0 : Int)) = U6 at *
              clear f0 z0 hwr
              go_wp2_with fail
              refine (iget_any U6 b0 g y1 16 16 HI6.out hbg rfl (by omega) (by omega)).mono ?_
              rintro e wN ⟨rfl, hIS, hk⟩
              have hlt := tget_lt 16 y1
              obtain ⟨t1, ht⟩ : ∃ n, (tget 16 y1).1 = n := ⟨_, rfl⟩
              obtain ⟨y2, hy⟩ : ∃ n, (tget 16 y1).2 = n := ⟨_, rfl⟩
              rw [ht] at hlt ⊢
              rw [hy] at hIS
              have HY2 : Hid ((tget 16 y1).1 = t1 ∧ (tget 16 y1).2 = y2) := ⟨ht, hy⟩
              have hwr := i64_small t1 (by omega)
              obtain ⟨cgU, hgU⟩ := HI6.out.row
              have tri := HTT6.out.keptG hk hgU
              have f0 := tri.lay.cell 6; have z0 := tri.lay.frozen 6
              simp only [List.getElem?_toArray, List.getElem?_cons_zero, List.getElem?_cons_succ] at f0
              have hset : KeptL [g, n2] wN (wN.setCell ⟨n2, 6, none⟩ (.int .i64 (t1 : Int))) := (KeptL.refl _ _).set (by simp) _
              have HTT7 : Hid (Tri (wN.setCell ⟨n2, 6, none⟩ (.int .i64 (t1 : Int))) n0 n1 n2 #[.slice A0 k0 c0, .slice A1 k1 c1, .slice A2 k2 c2, .slice A3 k3 c3, .slice A4 k4 c4, .int .i64 (t0 : Int), .int .i64 (t1 : Int), .int .i64 0, .int .i64 0, .int .i64 0]) := tri.set 6 _
              have HI7 := Lib.hid (hIS.setL (i := 6) tri.lay (by decide) HB2.out (.int .i64 (t1 : Int)))
              have hkk : KeptL [g, n2] U6 (wN.setCell ⟨n2, 6, none⟩ (.int .i64 (t1 : Int))) := (hk.mono in1).trans hset
              have HF0n : Hid (((tlist tnode) s0).2 ≠ none → IsNodes (wN.setCell ⟨n2, 6, none⟩ (.int .i64 (t1 : Int))) (.slice A0 k0 c0) ((tlist tnode) s0).1) := fun hne => (HF0.out hne).kept hkk (other_gl hgU HTT6.out.lay _ (by simp))
              have HF1n : Hid (((tlist tsec) s1).2 ≠ none → IsSecs (wN.setCell ⟨n2, 6, none⟩ (.int .i64 (t1 : Int))) (.slice A1 k1 c1) ((tlist tsec) s1).1) := fun hne => (HF1.out hne).kept hkk (other_gl hgU HTT6.out.lay _ (by simp))
              have HF2n : Hid (((trows) s2).2 ≠ none → IsRows (wN.setCell ⟨n2, 6, none⟩ (.int .i64 (t1 : Int))) (.slice A2 k2 c2) ((trows) s2).1) := fun hne => (HF2.out hne).kept hkk (other_gl hgU HTT6.out.lay _ (by simp)) (other_gl hgU HTT6.out.lay _ (by simp))
              have HF3n : Hid (((tlist tpoint) s3).2 ≠ none → IsPoints (wN.setCell ⟨n2, 6, none⟩ (.int .i64 (t1 : Int))) (.slice A3 k3 c3) ((tlist tpoint) s3).1) := fun hne => (HF3.out hne).kept hkk (other_gl hgU HTT6.out.lay _ (by simp))
              have HF4n : Hid (((trows) s4).2 ≠ none → IsRows (wN.setCell ⟨n2, 6, none⟩ (.int .i64 (t1 : Int))) (.slice A4 k4 c4) ((trows) s4).1) := fun hne => (HF4.out hne).kept hkk (other_gl hgU HTT6.out.lay _ (by simp)) (other_gl hgU HTT6.out.lay _ (by simp))
              clear HF0
              have HF0 := HF0n
              clear HF0n
              clear HF1
              have HF1 := HF1n
              clear HF1n
              clear HF2
              have HF2 := HF2n
              clear HF2n
              clear HF3
              have HF3 := HF3n
              clear HF3n
              clear HF4
              have HF4 := HF4n
              clear HF4n
              have HBB7 : Hid (Below n0 w (wN.setCell ⟨n2, 6, none⟩ (.int .i64 (t1 : Int)))) := HBB6.out.trans (hkk.below (by have := HTT6.out.res.lt; omega) (by
                intro x hx
                have h2 := HGN.out
                simp at hx; omega))
              clear hlt ht hy hIS hk hgU tri hset hkk HTT6 HI6 HBB6
              go_upto_region 37 with (fail)
              generalize wN.setCell ⟨n2, 6, none⟩ (.int .i64 (t1 : Int)) = U7 at *
              clear f0 z0 hwr
              go_wp2_with fail
              refine (iget_any U7 b0 g y2 16 16 HI7.out hbg rfl (by omega) (by omega)).mono ?_
              rintro e wN ⟨rfl, hIS, hk⟩
              have hlt := tget_lt 16 y2
              obtain ⟨t2, ht⟩ : ∃ n, (tget 16 y2).1 = n := ⟨_, rfl⟩
              obtain ⟨y3, hy⟩ : ∃ n, (tget 16 y2).2 = n := ⟨_, rfl⟩
              rw [ht] at hlt ⊢
              rw [hy] at hIS
              have HY3 : Hid ((tget 16 y2).1 = t2 ∧ (tget 16 y2).2 = y3) := ⟨ht, hy⟩
              have hwr := i64_small t2 (by omega)
              obtain ⟨cgU, hgU⟩ := HI7.out.row
              have tri := HTT7.out.keptG hk hgU
              have f0 := tri.lay.cell 7; have z0 := tri.lay.frozen 7
              simp only [List.getElem?_toArray, List.getElem?_cons_zero, List.getElem?_cons_succ] at f0
              have hset : KeptL [g, n2] wN (wN.setCell ⟨n2, 7, none⟩ (.int .i64 (t2 : Int))) := (KeptL.refl _ _).set (by simp) _
              have HTT8 : Hid (Tri (wN.setCell ⟨n2, 7, none⟩ (.int .i64 (t2 : Int))) n0 n1 n2 #[.slice A0 k0 c0, .slice A1 k1 c1, .slice A2 k2 c2, .slice A3 k3 c3, .slice A4 k4 c4, .int .i64 (t0 : Int), .int .i64 (t1 : Int), .int .i64 (t2 : Int), .int .i64 0, .int .i64 0]) := tri.set 7 _
              have HI8 := Lib.hid (hIS.setL (i := 7) tri.lay (by decide) HB2.out (.int .i64 (t2 : Int)))
              have hkk : KeptL [g, n2] U7 (wN.setCell ⟨n2, 7, none⟩ (.int .i64 (t2 : Int))) := (hk.mono in1).trans hset
              have HF0n : Hid (((tlist tnode) s0).2 ≠ none → IsNodes (wN.setCell ⟨n2, 7, none⟩ (.int .i64 (t2 : Int))) (.slice A0 k0 c0) ((tlist tnode) s0).1) := fun hne => (HF0.out hne).kept hkk (other_gl hgU HTT7.out.lay _ (by simp))
              have HF1n : Hid (((tlist tsec) s1).2 ≠ none → IsSecs (wN.setCell ⟨n2, 7, none⟩ (.int .i64 (t2 : Int))) (.slice A1 k1 c1) ((tlist tsec) s1).1) := fun hne => (HF1.out hne).kept hkk (other_gl hgU HTT7.out.lay _ (by simp))
              have HF2n : Hid (((trows) s2).2 ≠ none → IsRows (wN.setCell ⟨n2, 7, none⟩ (.int .i64 (t2 : Int))) (.slice A2 k2 c2) ((trows) s2).1) := fun hne => (HF2.out hne).kept hkk (other_gl hgU HTT7.out.lay _ (by simp)) (other_gl hgU HTT7.out.lay _ (by simp))
              have HF3n : Hid (((tlist tpoint) s3).2 ≠ none → IsPoints (wN.setCell ⟨n2, 7, none⟩ (.int .i64 (t2 : Int))) (.slice A3 k3 c3) ((tlist tpoint) s3).1) := fun hne => (HF3.out hne).kept hkk (other_gl hgU HTT7.out.lay _ (by simp))
              have HF4n : Hid (((trows) s4).2 ≠ none → IsRows (wN.setCell ⟨n2, 7, none⟩ (.int .i64 (t2 : Int))) (.slice A4 k4 c4) ((trows) s4).1) := fun hne => (HF4.out hne).kept hkk (other_gl hgU HTT7.out.lay _ (by simp)) (other_gl hgU HTT7.out.lay _ (by simp))
              clear HF0
              have HF0 := HF0n
              clear HF0n
              clear HF1
              have HF1 := HF1n
              clear HF1n
              clear HF2
              have HF2 := HF2n
              clear HF2n
              clear HF3
              have HF3 := HF3n
              clear HF3n
              clear HF4
              have HF4 := HF4n
              clear HF4n
              have HBB8 : Hid (Below n0 w (wN.setCell ⟨n2, 7, none⟩ (.int .i64 (t2 : Int)))) := HBB7.out.trans (hkk.below (by have := HTT7.out.res.lt; omega) (by
                intro x hx
                have h2 := HGN.out
                simp at hx; omega))
              clear hlt ht hy hIS hk hgU tri hset hkk HTT7 HI7 HBB7
              go_upto_region 38 with (fail)
              generalize wN.setCell ⟨n2, 7, none⟩ (.int .i64 (t2 : Int)) = U8 at *
              clear f0 z0 hwr
              go_wp2_with fail
              refine (iget_any U8 b0 g y3 16 16 HI8.out hbg rfl (by omega) (by omega)).mono ?_
              rintro e wN ⟨rfl, hIS, hk⟩
              have hlt := tget_lt 16 y3
              obtain ⟨t3, ht⟩ : ∃ n, (tget 16 y3).1 = n := ⟨_, rfl⟩
              obtain ⟨y4, hy⟩ : ∃ n, (tget 16 y3).2 = n := ⟨_, rfl⟩
              rw [ht] at hlt ⊢
              rw [hy] at hIS
              have HY4 : Hid ((tget 16 y3).1 = t3 ∧ (tget 16 y3).2 = y4) := ⟨ht, hy⟩
              have hwr := i64_small t3 (by omega)
              obtain ⟨cgU, hgU⟩ := HI8.out.row
              have tri := HTT8.out.keptG hk hgU
              have f0 := tri.lay.cell 8; have z0 := tri.lay.frozen 8
              simp only [List.getElem?_toArray, List.getElem?_cons_zero, List.getElem?_cons_succ] at f0
              have hset : KeptL [g, n2] wN (wN.setCell ⟨n2, 8, none⟩ (.int .i64 (t3 : Int))) := (KeptL.refl _ _).set (by simp) _
              have HTT9 : Hid (Tri (wN.setCell ⟨n2, 8, none⟩ (.int .i64 (t3 : Int))) n0 n1 n2 #[.slice A0 k0 c0, .slice A1 k1 c1, .slice A2 k2 c2, .slice A3 k3 c3, .slice A4 k4 c4, .int .i64 (t0 : Int), .int .i64 (t1 : Int), .int .i64 (t2 : Int), .int .i64 (t3 : Int), .int .i64 0]) := tri.set 8 _
              have HI9 := Lib.hid (hIS.setL (i := 8) tri.lay (by decide) HB2.out (.int .i64 (t3 : Int)))
              have hkk : KeptL [g, n2] U8 (wN.setCell ⟨n2, 8, none⟩ (.int .i64 (t3 : Int))) := (hk.mono in1).trans hset
              have HF0n : Hid (((tlist tnode) s0).2 ≠ none → IsNodes (wN.setCell ⟨n2, 8, none⟩ (.int .i64 (t3 : Int))) (.slice A0 k0 c0) ((tlist tnode) s0).1) := fun hne => (HF0.out hne).kept hkk (other_gl hgU HTT8.out.lay _ (by simp))
              have HF1n : Hid (((tlist tsec) s1).2 ≠ none → IsSecs (wN.setCell ⟨n2, 8, none⟩ (.int .i64 (t3 : Int))) (.slice A1 k1 c1) ((tlist tsec) s1).1) := fun hne => (HF1.out hne).kept hkk (other_gl hgU HTT8.out.lay _ (by simp))
              have HF2n : Hid (((trows) s2).2 ≠ none → IsRows (wN.setCell ⟨n2, 8, none⟩ (.int .i64 (t3 : Int))) (.slice A2 k2 c2) ((trows) s2).1) := fun hne => (HF2.out hne).kept hkk (other_gl hgU HTT8.out.lay _ (by simp)) (other_gl hgU HTT8.out.lay _ (by simp))
              have HF3n : Hid (((tlist tpoint) s3).2 ≠ none → IsPoints (wN.setCell ⟨n2, 8, none⟩ (.int .i64 (t3 : Int))) (.slice A3 k3 c3) ((tlist tpoint) s3).1) := fun hne => (HF3.out hne).kept hkk (other_gl hgU HTT8.out.lay _ (by simp))
              have HF4n : Hid (((trows) s4).2 ≠ none → IsRows (wN.setCell ⟨n2, 8, none⟩ (.int .i64 (t3 : Int))) (.slice A4 k4 c4) ((trows) s4).1) := fun hne => (HF4.out hne).kept hkk (other_gl hgU HTT8.out.lay _ (by simp)) (other_gl hgU HTT8.out.lay _ (by simp))
              clear HF0
              have HF0 := HF0n
              clear HF0n
              clear HF1
              have HF1 := HF1n
              clear HF1n
              clear HF2
              have HF2 := HF2n
              clear HF2n
              clear HF3
              have HF3 := HF3n
              clear HF3n
              clear HF4
              have HF4 := HF4n
              clear HF4n
              have HBB9 : Hid (Below n0 w (wN.setCell ⟨n2, 8, none⟩ (.int .i64 (t3 : Int)))) := HBB8.out.trans (hkk.below (by have := HTT8.out.res.lt; omega) (by
                intro x hx
                have h2 := HGN.out
                simp at hx; omega))
              clear hlt ht hy hIS hk hgU tri hset hkk HTT8 HI8 HBB8
              go_upto_region 39 with (fail)
              generalize wN.setCell ⟨n2, 8, none⟩ (.int .i64 (t3 : Int)) = U9 at *
              clear f0 z0 hwr
              go_wp2_with fail
              refine (iget_any U9 b0 g y4 16 16 HI9.out hbg rfl (by omega) (by omega)).mono ?_
              rintro e wN ⟨rfl, hIS, hk⟩
              have hlt := tget_lt 16 y4
              obtain ⟨t4, ht⟩ : ∃ n, (tget 16 y4).1 = n := ⟨_, rfl⟩
              obtain ⟨y5, hy⟩ : ∃ n, (tget 16 y4).2 = n := ⟨_, rfl⟩
              rw [ht] at hlt ⊢
              rw [hy] at hIS
              have HY5 : Hid ((tget 16 y4).1 = t4 ∧ (tget 16 y4).2 = y5) := ⟨ht, hy⟩
              have hwr := i64_small t4 (by omega)
              obtain ⟨cgU, hgU⟩ := HI9.out.row
              have tri := HTT9.out.keptG hk hgU
              have f0 := tri.lay.cell 9; have z0 := tri.lay.frozen 9
              simp only [List.getElem?_toArray, List.getElem?_cons_zero, List.getElem?_cons_succ] at f0
              have hset : KeptL [g, n2] wN (wN.setCell ⟨n2, 9, none⟩ (.int .i64 (t4 : Int))) := (KeptL.refl _ _).set (by simp) _
              have HTT10 : Hid (Tri (wN.setCell ⟨n2, 9, none⟩ (.int .i64 (t4 : Int))) n0 n1 n2 #[.slice A0 k0 c0, .slice A1 k1 c1, .slice A2 k2 c2, .slice A3 k3 c3, .slice A4 k4 c4, .int .i64 (t0 : Int), .int .i64 (t1 : Int), .int .i64 (t2 : Int), .int .i64 (t3 : Int), .int .i64 (t4 : Int)]) := tri.set 9 _
              have HI10 := Lib.hid (hIS.setL (i := 9) tri.lay (by decide) HB2.out (.int .i64 (t4 : Int)))
              have hkk : KeptL [g, n2] U9 (wN.setCell ⟨n2, 9, none⟩ (.int .i64 (t4 : Int))) := (hk.mono in1).trans hset
              have HF0n : Hid (((tlist tnode) s0).2 ≠ none → IsNodes (wN.setCell ⟨n2, 9, none⟩ (.int .i64 (t4 : Int))) (.slice A0 k0 c0) ((tlist tnode) s0).1) := fun hne => (HF0.out hne).kept hkk (other_gl hgU HTT9.out.lay _ (by simp))
              have HF1n : Hid (((tlist tsec) s1).2 ≠ none → IsSecs (wN.setCell ⟨n2, 9, none⟩ (.int .i64 (t4 : Int))) (.slice A1 k1 c1) ((tlist tsec) s1).1) := fun hne => (HF1.out hne).kept hkk (other_gl hgU HTT9.out.lay _ (by simp))
              have HF2n : Hid (((trows) s2).2 ≠ none → IsRows (wN.setCell ⟨n2, 9, none⟩ (.int .i64 (t4 : Int))) (.slice A2 k2 c2) ((trows) s2).1) := fun hne => (HF2.out hne).kept hkk (other_gl hgU HTT9.out.lay _ (by simp)) (other_gl hgU HTT9.out.lay _ (by simp))
              have HF3n : Hid (((tlist tpoint) s3).2 ≠ none → IsPoints (wN.setCell ⟨n2, 9, none⟩ (.int .i64 (t4 : Int))) (.slice A3 k3 c3) ((tlist tpoint) s3).1) := fun hne => (HF3.out hne).kept hkk (other_gl hgU HTT9.out.lay _ (by simp))
              have HF4n : Hid (((trows) s4).2 ≠ none → IsRows (wN.setCell ⟨n2, 9, none⟩ (.int .i64 (t4 : Int))) (.slice A4 k4 c4) ((trows) s4).1) := fun hne => (HF4.out hne).kept hkk (other_gl hgU HTT9.out.lay _ (by simp)) (other_gl hgU HTT9.out.lay _ (by simp))
              clear HF0
              have HF0 := HF0n
              clear HF0n
              clear HF1
              have HF1 := HF1n
              clear HF1n
              clear HF2
              have HF2 := HF2n
              clear HF2n
              clear HF3
              have HF3 := HF3n
              clear HF3n
              clear HF4
              have HF4 := HF4n
              clear HF4n
              have HBB10 : Hid (Below n0 w (wN.setCell ⟨n2, 9, none⟩ (.int .i64 (t4 : Int)))) := HBB9.out.trans (hkk.below (by have := HTT9.out.res.lt; omega) (by
                intro x hx
                have h2 := HGN.out
                simp at hx; omega))
              clear hlt ht hy hIS hk hgU tri hset hkk HTT9 HI9 HBB9
              go_upto_region 40 with (fail)
              generalize wN.setCell ⟨n2, 9, none⟩ (.int .i64 (t4 : Int)) = U10 at *
              clear f0 z0 hwr
              have HTL : Hid (tlay s0 = (⟨(tlist tnode s0).1, (tlist tsec s1).1, (trows s2).1, (tlist tpoint s3).1, (trows s4).1, (t0 : Int), (t1 : Int), (t2 : Int), (t3 : Int), (t4 : Int)⟩, y5)) := by
                show _ = _
                rw [tlay_eq s0 s1 s2 s3 s4 s5 HS1.out HS2.out HS3.out HS4.out HS5.out, HY1.out.1, HY1.out.2, HY2.out.1, HY2.out.2, HY3.out.1, HY3.out.2, HY4.out.1, HY4.out.2, HY5.out.1, HY5.out.2]
              have HR : Hid (fin (tlay (body (o.drop 2))) = fin (tlay s0)) := by show _ = _; rw [HS0.out]
              cases hy5 : y5 with
              | none =>
                rw [hy5] at HI10 HTL
                clear hy5
                have HFI : Hid (fin (tlay (body (o.drop 2))) = (L0, 4)) := by show _ = _; rw [HR.out, HTL.out]; rfl
                obtain ⟨rv, hrow⟩ := HI10.out.row
                have fl1 := hrow.cell 1
                simp only [List.getElem?_toArray, List.getElem?_cons_zero, List.getElem?_cons_succ, Option.isNone_none] at fl1
                clear hrow
                have q0 := HTT10.out.res.cell 0; have r0 := HTT10.out.res.frozen 0; have p0 := HTT10.out.non.cell 0
                have q1 := HTT10.out.res.cell 1; have r1 := HTT10.out.res.frozen 1; have p1 := HTT10.out.non.cell 1
                have q2 := HTT10.out.res.cell 2; have r2 := HTT10.out.res.frozen 2; have p2 := HTT10.out.non.cell 2
                have q3 := HTT10.out.res.cell 3; have r3 := HTT10.out.res.frozen 3; have p3 := HTT10.out.non.cell 3
                have q4 := HTT10.out.res.cell 4; have r4 := HTT10.out.res.frozen 4; have p4 := HTT10.out.non.cell 4
                have q5 := HTT10.out.res.cell 5; have r5 := HTT10.out.res.frozen 5; have p5 := HTT10.out.non.cell 5
                have q6 := HTT10.out.res.cell 6; have r6 := HTT10.out.res.frozen 6; have p6 := HTT10.out.non.cell 6
                have q7 := HTT10.out.res.cell 7; have r7 := HTT10.out.res.frozen 7; have p7 := HTT10.out.non.cell 7
                have q8 := HTT10.out.res.cell 8; have r8 := HTT10.out.res.frozen 8; have p8 := HTT10.out.non.cell 8
                have q9 := HTT10.out.res.cell 9; have r9 := HTT10.out.res.frozen 9; have p9 := HTT10.out.non.cell 9
                simp only [List.getElem?_toArray, List.getElem?_cons_zero, List.getElem?_cons_succ] at q0 p0 q1 p1 q2 p2 q3 p3 q4 p4 q5 p5 q6 p6 q7 p7 q8 p8 q9 p9
                go_wp2_with fail
                have rr0 : Row (U10.setCell ⟨n0, 0, none⟩ (.slice none 0 0)) n0 33 #[.slice none 0 0, .slice none 0 0, .slice none 0 0, .slice none 0 0, .slice none 0 0, .int .i64 0, .int .i64 0, .int .i64 0, .int .i64 0, .int .i64 0] := HTT10.out.res.set 0 (.slice none 0 0)
                have kk0 : Below n0 U10 (U10.setCell ⟨n0, 0, none⟩ (.slice none 0 0)) := (Below.refl n0 U10).setCell (p := ⟨n0, 0, none⟩) (Nat.le_refl _) (.slice none 0 0)
                have rr1 : Row ((U10.setCell ⟨n0, 0, none⟩ (.slice none 0 0)).setCell ⟨n0, 1, none⟩ (.slice none 0 0)) n0 33 #[.slice none 0 0, .slice none 0 0, .slice none 0 0, .slice none 0 0, .slice none 0 0, .int .i64 0, .int .i64 0, .int .i64 0, .int .i64 0, .int .i64 0] := rr0.set 1 (.slice none 0 0)
                have kk1 : Below n0 U10 ((U10.setCell ⟨n0, 0, none⟩ (.slice none 0 0)).setCell ⟨n0, 1, none⟩ (.slice none 0 0)) := kk0.setCell (p := ⟨n0, 1, none⟩) (Nat.le_refl _) (.slice none 0 0)
                have rr2 : Row (((U10.setCell ⟨n0, 0, none⟩ (.slice none 0 0)).setCell ⟨n0, 1, none⟩ (.slice none 0 0)).setCell ⟨n0, 2, none⟩ (.slice none 0 0)) n0 33 #[.slice none 0 0, .slice none 0 0, .slice none 0 0, .slice none 0 0, .slice none 0 0, .int .i64 0, .int .i64 0, .int .i64 0, .int .i64 0, .int .i64 0] := rr1.set 2 (.slice none 0 0)
                have kk2 : Below n0 U10 (((U10.setCell ⟨n0, 0, none⟩ (.slice none 0 0)).setCell ⟨n0, 1, none⟩ (.slice none 0 0)).setCell ⟨n0, 2, none⟩ (.slice none 0 0)) := kk1.setCell (p := ⟨n0, 2, none⟩) (Nat.le_refl _) (.slice none 0 0)
                have rr3 : Row ((((U10.setCell ⟨n0, 0, none⟩ (.slice none 0 0)).setCell ⟨n0, 1, none⟩ (.slice none 0 0)).setCell ⟨n0, 2, none⟩ (.slice none 0 0)).setCell ⟨n0, 3, none⟩ (.slice none 0 0)) n0 33 #[.slice none 0 0, .slice none 0 0, .slice none 0 0, .slice none 0 0, .slice none 0 0, .int .i64 0, .int .i64 0, .int .i64 0, .int .i64 0, .int .i64 0] := rr2.set 3 (.slice none 0 0)
                have kk3 : Below n0 U10 ((((U10.setCell ⟨n0, 0, none⟩ (.slice none 0 0)).setCell ⟨n0, 1, none⟩ (.slice none 0 0)).setCell ⟨n0, 2, none⟩ (.slice none 0 0)).setCell ⟨n0, 3, none⟩ (.slice none 0 0)) := kk2.setCell (p := ⟨n0, 3, none⟩) (Nat.le_refl _) (.slice none 0 0)
                have rr4 : Row (((((U10.setCell ⟨n0, 0, none⟩ (.slice none 0 0)).setCell ⟨n0, 1, none⟩ (.slice none 0 0)).setCell ⟨n0, 2, none⟩ (.slice none 0 0)).setCell ⟨n0, 3, none⟩ (.slice none 0 0)).setCell ⟨n0, 4, none⟩ (.slice none 0 0)) n0 33 #[.slice none 0 0, .slice none 0 0, .slice none 0 0, .slice none 0 0, .slice none 0 0, .int .i64 0, .int .i64 0, .int .i64 0, .int .i64 0, .int .i64 0] := rr3.set 4 (.slice none 0 0)
                have kk4 : Below n0 U10 (((((U10.setCell ⟨n0, 0, none⟩ (.slice none 0 0)).setCell ⟨n0, 1, none⟩ (.slice none 0 0)).setCell ⟨n0, 2, none⟩ (.slice none 0 0)).setCell ⟨n0, 3, none⟩ (.slice none 0 0)).setCell ⟨n0, 4, none⟩ (.slice none 0 0)) := kk3.setCell (p := ⟨n0, 4, none⟩) (Nat.le_refl _) (.slice none 0 0)
                have rr5 : Row ((((((U10.setCell ⟨n0, 0, none⟩ (.slice none 0 0)).setCell ⟨n0, 1, none⟩ (.slice none 0 0)).setCell ⟨n0, 2, none⟩ (.slice none 0 0)).setCell ⟨n0, 3, none⟩ (.slice none 0 0)).setCell ⟨n0, 4, none⟩ (.slice none 0 0)).setCell ⟨n0, 5, none⟩ (.int .i64 0)) n0 33 #[.slice none 0 0, .slice none 0 0, .slice none 0 0, .slice none 0 0, .slice none 0 0, .int .i64 0, .int .i64 0, .int .i64 0, .int .i64 0, .int .i64 0] := rr4.set 5 (.int .i64 0)
                have kk5 : Below n0 U10 ((((((U10.setCell ⟨n0, 0, none⟩ (.slice none 0 0)).setCell ⟨n0, 1, none⟩ (.slice none 0 0)).setCell ⟨n0, 2, none⟩ (.slice none 0 0)).setCell ⟨n0, 3, none⟩ (.slice none 0 0)).setCell ⟨n0, 4, none⟩ (.slice none 0 0)).setCell ⟨n0, 5, none⟩ (.int .i64 0)) := kk4.setCell (p := ⟨n0, 5, none⟩) (Nat.le_refl _) (.int .i64 0)
                have rr6 : Row (((((((U10.setCell ⟨n0, 0, none⟩ (.slice none 0 0)).setCell ⟨n0, 1, none⟩ (.slice none 0 0)).setCell ⟨n0, 2, none⟩ (.slice none 0 0)).setCell ⟨n0, 3, none⟩ (.slice none 0 0)).setCell ⟨n0, 4, none⟩ (.slice none 0 0)).setCell ⟨n0, 5, none⟩ (.int .i64 0)).setCell ⟨n0, 6, none⟩ (.int .i64 0)) n0 33 #[.slice none 0 0, .slice none 0 0, .slice none 0 0, .slice none 0 0, .slice none 0 0, .int .i64 0, .int .i64 0, .int .i64 0, .int .i64 0, .int .i64 0] := rr5.set 6 (.int .i64 0)
                have kk6 : Below n0 U10 (((((((U10.setCell ⟨n0, 0, none⟩ (.slice none 0 0)).setCell ⟨n0, 1, none⟩ (.slice none 0 0)).setCell ⟨n0, 2, none⟩ (.slice none 0 0)).setCell ⟨n0, 3, none⟩ (.slice none 0 0)).setCell ⟨n0, 4, none⟩ (.slice none 0 0)).setCell ⟨n0, 5, none⟩ (.int .i64 0)).setCell ⟨n0, 6, none⟩ (.int .i64 0)) := kk5.setCell (p := ⟨n0, 6, none⟩) (Nat.le_refl _) (.int .i64 0)
                have rr7 : Row ((((((((U10.setCell ⟨n0, 0, none⟩ (.slice none 0 0)).setCell ⟨n0, 1, none⟩ (.slice none 0 0)).setCell ⟨n0, 2, none⟩ (.slice none 0 0)).setCell ⟨n0, 3, none⟩ (.slice none 0 0)).setCell ⟨n0, 4, none⟩ (.slice none 0 0)).setCell ⟨n0, 5, none⟩ (.int .i64 0)).setCell ⟨n0, 6, none⟩ (.int .i64 0)).setCell ⟨n0, 7, none⟩ (.int .i64 0)) n0 33 #[.slice none 0 0, .slice none 0 0, .slice none 0 0, .slice none 0 0, .slice none 0 0, .int .i64 0, .int .i64 0, .int .i64 0, .int .i64 0, .int .i64 0] := rr6.set 7 (.int .i64 0)
                have kk7 : Below n0 U10 ((((((((U10.setCell ⟨n0, 0, none⟩ (.slice none 0 0)).setCell ⟨n0, 1, none⟩ (.slice none 0 0)).setCell ⟨n0, 2, none⟩ (.slice none 0 0)).setCell ⟨n0, 3, none⟩ (.slice none 0 0)).setCell ⟨n0, 4, none⟩ (.slice none 0 0)).setCell ⟨n0, 5, none⟩ (.int .i64 0)).setCell ⟨n0, 6, none⟩ (.int .i64 0)).setCell ⟨n0, 7, none⟩ (.int .i64 0)) := kk6.setCell (p := ⟨n0, 7, none⟩) (Nat.le_refl _) (.int .i64 0)
                have rr8 : Row (((((((((U10.setCell ⟨n0, 0, none⟩ (.slice none 0 0)).setCell ⟨n0, 1, none⟩ (.slice none 0 0)).setCell ⟨n0, 2, none⟩ (.slice none 0 0)).setCell ⟨n0, 3, none⟩ (.slice none 0 0)).setCell ⟨n0, 4, none⟩ (.slice none 0 0)).setCell ⟨n0, 5, none⟩ (.int .i64 0)).setCell ⟨n0, 6, none⟩ (.int .i64 0)).setCell ⟨n0, 7, none⟩ (.int .i64 0)).setCell ⟨n0, 8, none⟩ (.int .i64 0)) n0 33 #[.slice none 0 0, .slice none 0 0, .slice none 0 0, .slice none 0 0, .slice none 0 0, .int .i64 0, .int .i64 0, .int .i64 0, .int .i64 0, .int .i64 0] := rr7.set 8 (.int .i64 0)
                have kk8 : Below n0 U10 (((((((((U10.setCell ⟨n0, 0, none⟩ (.slice none 0 0)).setCell ⟨n0, 1, none⟩ (.slice none 0 0)).setCell ⟨n0, 2, none⟩ (.slice none 0 0)).setCell ⟨n0, 3, none⟩ (.slice none 0 0)).setCell ⟨n0, 4, none⟩ (.slice none 0 0)).setCell ⟨n0, 5, none⟩ (.int .i64 0)).setCell ⟨n0, 6, none⟩ (.int .i64 0)).setCell ⟨n0, 7, none⟩ (.int .i64 0)).setCell ⟨n0, 8, none⟩ (.int .i64 0)) := kk7.setCell (p := ⟨n0, 8, none⟩) (Nat.le_refl _) (.int .i64 0)
                have rr9 : Row ((((((((((U10.setCell ⟨n0, 0, none⟩ (.slice none 0 0)).setCell ⟨n0, 1, none⟩ (.slice none 0 0)).setCell ⟨n0, 2, none⟩ (.slice none 0 0)).setCell ⟨n0, 3, none⟩ (.slice none 0 0)).setCell ⟨n0, 4, none⟩ (.slice none 0 0)).setCell ⟨n0, 5, none⟩ (.int .i64 0)).setCell ⟨n0, 6, none⟩ (.int .i64 0)).setCell ⟨n0, 7, none⟩ (.int .i64 0)).setCell ⟨n0, 8, none⟩ (.int .i64 0)).setCell ⟨n0, 9, none⟩ (.int .i64 0)) n0 33 #[.slice none 0 0, .slice none 0 0, .slice none 0 0, .slice none 0 0, .slice none 0 0, .int .i64 0, .int .i64 0, .int .i64 0, .int .i64 0, .int .i64 0] := rr8.set 9 (.int .i64 0)
                have kk9 : Below n0 U10 ((((((((((U10.setCell ⟨n0, 0, none⟩ (.slice none 0 0)).setCell ⟨n0, 1, none⟩ (.slice none 0 0)).setCell ⟨n0, 2, none⟩ (.slice none 0 0)).setCell ⟨n0, 3, none⟩ (.slice none 0 0)).setCell ⟨n0, 4, none⟩ (.slice none 0 0)).setCell ⟨n0, 5, none⟩ (.int .i64 0)).setCell ⟨n0, 6, none⟩ (.int .i64 0)).setCell ⟨n0, 7, none⟩ (.int .i64 0)).setCell ⟨n0, 8, none⟩ (.int .i64 0)).setCell ⟨n0, 9, none⟩ (.int .i64 0)) := kk8.setCell (p := ⟨n0, 9, none⟩) (Nat.le_refl _) (.int .i64 0)
                refine bodyPost_ret (results_cell_tmp_row rfl _ _ n0 33 #[.slice none 0 0, .slice none 0 0, .slice none 0 0, .slice none 0 0, .slice none 0 0, .int .i64 0, .int .i64 0, .int .i64 0, .int .i64 0, .int .i64 0] (0, 0) _ rfl rr9 Try.underlying33 rfl Try.size33) rfl ?_
                rw [HFI.out]
                exact ⟨_, rfl, lay0 _ _, by rw [← HN.out.1]; exact HBB10.out.trans kk9⟩

              | some lz =>
                rw [hy5] at HI10 HTL HY5
                clear hy5
                obtain ⟨Az, cz, hrow⟩ := HI10.out.len
                have fl0 := hrow.cell 0; have fl1 := hrow.cell 1
                simp only [List.getElem?_toArray, List.getElem?_cons_zero, List.getElem?_cons_succ] at fl0 fl1
                clear hrow
                have hzl : lz.length ≤ 100000 := HI10.out.2
                by_cases hpos : 0 < lz.length
                · have HFI : Hid (fin (tlay (body (o.drop 2))) = (L0, 2)) := by show _ = _; rw [HR.out, HTL.out]; unfold fin; simp only; rw [if_pos hpos]
                  have q0 := HTT10.out.res.cell 0; have r0 := HTT10.out.res.frozen 0; have p0 := HTT10.out.non.cell 0
                  have q1 := HTT10.out.res.cell 1; have r1 := HTT10.out.res.frozen 1; have p1 := HTT10.out.non.cell 1
                  have q2 := HTT10.out.res.cell 2; have r2 := HTT10.out.res.frozen 2; have p2 := HTT10.out.non.cell 2
                  have q3 := HTT10.out.res.cell 3; have r3 := HTT10.out.res.frozen 3; have p3 := HTT10.out.non.cell 3
                  have q4 := HTT10.out.res.cell 4; have r4 := HTT10.out.res.frozen 4; have p4 := HTT10.out.non.cell 4
                  have q5 := HTT10.out.res.cell 5; have r5 := HTT10.out.res.frozen 5; have p5 := HTT10.out.non.cell 5
                  have q6 := HTT10.out.res.cell 6; have r6 := HTT10.out.res.frozen 6; have p6 := HTT10.out.non.cell 6
                  have q7 := HTT10.out.res.cell 7; have r7 := HTT10.out.res.frozen 7; have p7 := HTT10.out.non.cell 7
                  have q8 := HTT10.out.res.cell 8; have r8 := HTT10.out.res.frozen 8; have p8 := HTT10.out.non.cell 8
                  have q9 := HTT10.out.res.cell 9; have r9 := HTT10.out.res.frozen 9; have p9 := HTT10.out.non.cell 9
                  simp only [List.getElem?_toArray, List.getElem?_cons_zero, List.getElem?_cons_succ] at q0 p0 q1 p1 q2 p2 q3 p3 q4 p4 q5 p5 q6 p6 q7 p7 q8 p8 q9 p9
                  go_wp2_with fail
                  have rr0 : Row (U10.setCell ⟨n0, 0, none⟩ (.slice none 0 0)) n0 33 #[.slice none 0 0, .slice none 0 0, .slice none 0 0, .slice none 0 0, .slice none 0 0, .int .i64 0, .int .i64 0, .int .i64 0, .int .i64 0, .int .i64 0] := HTT10.out.res.set 0 (.slice none 0 0)
                  have kk0 : Below n0 U10 (U10.setCell ⟨n0, 0, none⟩ (.slice none 0 0)) := (Below.refl n0 U10).setCell (p := ⟨n0, 0, none⟩) (Nat.le_refl _) (.slice none 0 0)
                  have rr1 : Row ((U10.setCell ⟨n0, 0, none⟩ (.slice none 0 0)).setCell ⟨n0, 1, none⟩ (.slice none 0 0)) n0 33 #[.slice none 0 0, .slice none 0 0, .slice none 0 0, .slice none 0 0, .slice none 0 0, .int .i64 0, .int .i64 0, .int .i64 0, .int .i64 0, .int .i64 0] := rr0.set 1 (.slice none 0 0)
                  have kk1 : Below n0 U10 ((U10.setCell ⟨n0, 0, none⟩ (.slice none 0 0)).setCell ⟨n0, 1, none⟩ (.slice none 0 0)) := kk0.setCell (p := ⟨n0, 1, none⟩) (Nat.le_refl _) (.slice none 0 0)
                  have rr2 : Row (((U10.setCell ⟨n0, 0, none⟩ (.slice none 0 0)).setCell ⟨n0, 1, none⟩ (.slice none 0 0)).setCell ⟨n0, 2, none⟩ (.slice none 0 0)) n0 33 #[.slice none 0 0, .slice none 0 0, .slice none 0 0, .slice none 0 0, .slice none 0 0, .int .i64 0, .int .i64 0, .int .i64 0, .int .i64 0, .int .i64 0] := rr1.set 2 (.slice none 0 0)
                  have kk2 : Below n0 U10 (((U10.setCell ⟨n0, 0, none⟩ (.slice none 0 0)).setCell ⟨n0, 1, none⟩ (.slice none 0 0)).setCell ⟨n0, 2, none⟩ (.slice none 0 0)) := kk1.setCell (p := ⟨n0, 2, none⟩) (Nat.le_refl _) (.slice none 0 0)
                  have rr3 : Row ((((U10.setCell ⟨n0, 0, none⟩ (.slice none 0 0)).setCell ⟨n0, 1, none⟩ (.slice none 0 0)).setCell ⟨n0, 2, none⟩ (.slice none 0 0)).setCell ⟨n0, 3, none⟩ (.slice none 0 0)) n0 33 #[.slice none 0 0, .slice none 0 0, .slice none 0 0, .slice none 0 0, .slice none 0 0, .int .i64 0, .int .i64 0, .int .i64 0, .int .i64 0, .int .i64 0] := rr2.set 3 (.slice none 0 0)
                  have kk3 : Below n0 U10 ((((U10.setCell ⟨n0, 0, none⟩ (.slice none 0 0)).setCell ⟨n0, 1, none⟩ (.slice none 0 0)).setCell ⟨n0, 2, none⟩ (.slice none 0 0)).setCell ⟨n0, 3, none⟩ (.slice none 0 0)) := kk2.setCell (p := ⟨n0, 3, none⟩) (Nat.le_refl _) (.slice none 0 0)
                  have rr4 : Row (((((U10.setCell ⟨n0, 0, none⟩ (.slice none 0 0)).setCell ⟨n0, 1, none⟩ (.slice none 0 0)).setCell ⟨n0, 2, none⟩ (.slice none 0 0)).setCell ⟨n0, 3, none⟩ (.slice none 0 0)).setCell ⟨n0, 4, none⟩ (.slice none 0 0)) n0 33 #[.slice none 0 0, .slice none 0 0, .slice none 0 0, .slice none 0 0, .slice none 0 0, .int .i64 0, .int .i64 0, .int .i64 0, .int .i64 0, .int .i64 0] := rr3.set 4 (.slice none 0 0)
                  have kk4 : Below n0 U10 (((((U10.setCell ⟨n0, 0, none⟩ (.slice none 0 0)).setCell ⟨n0, 1, none⟩ (.slice none 0 0)).setCell ⟨n0, 2, none⟩ (.slice none 0 0)).setCell ⟨n0, 3, none⟩ (.slice none 0 0)).setCell ⟨n0, 4, none⟩ (.slice none 0 0)) := kk3.setCell (p := ⟨n0, 4, none⟩) (Nat.le_refl _) (.slice none 0 0)
                  have rr5 : Row ((((((U10.setCell ⟨n0, 0, none⟩ (.slice none 0 0)).setCell ⟨n0, 1, none⟩ (.slice none 0 0)).setCell ⟨n0, 2, none⟩ (.slice none 0 0)).setCell ⟨n0, 3, none⟩ (.slice none 0 0)).setCell ⟨n0, 4, none⟩ (.slice none 0 0)).setCell ⟨n0, 5, none⟩ (.int .i64 0)) n0 33 #[.slice none 0 0, .slice none 0 0, .slice none 0 0, .slice none 0 0, .slice none 0 0, .int .i64 0, .int .i64 0, .int .i64 0, .int .i64 0, .int .i64 0] := rr4.set 5 (.int .i64 0)
                  have kk5 : Below n0 U10 ((((((U10.setCell ⟨n0, 0, none⟩ (.slice none 0 0)).setCell ⟨n0, 1, none⟩ (.slice none 0 0)).setCell ⟨n0, 2, none⟩ (.slice none 0 0)).setCell ⟨n0, 3, none⟩ (.slice none 0 0)).setCell ⟨n0, 4, none⟩ (.slice none 0 0)).setCell ⟨n0, 5, none⟩ (.int .i64 0)) := kk4.setCell (p := ⟨n0, 5, none⟩) (Nat.le_refl _) (.int .i64 0)
                  have rr6 : Row (((((((U10.setCell ⟨n0, 0, none⟩ (.slice none 0 0)).setCell ⟨n0, 1, none⟩ (.slice none 0 0)).setCell ⟨n0, 2, none⟩ (.slice none 0 0)).setCell ⟨n0, 3, none⟩ (.slice none 0 0)).setCell ⟨n0, 4, none⟩ (.slice none 0 0)).setCell ⟨n0, 5, none⟩ (.int .i64 0)).setCell ⟨n0, 6, none⟩ (.int .i64 0)) n0 33 #[.slice none 0 0, .slice none 0 0, .slice none 0 0, .slice none 0 0, .slice none 0 0, .int .i64 0, .int .i64 0, .int .i64 0, .int .i64 0, .int .i64 0] := rr5.set 6 (.int .i64 0)
                  have kk6 : Below n0 U10 (((((((U10.setCell ⟨n0, 0, none⟩ (.slice none 0 0)).setCell ⟨n0, 1, none⟩ (.slice none 0 0)).setCell ⟨n0, 2, none⟩ (.slice none 0 0)).setCell ⟨n0, 3, none⟩ (.slice none 0 0)).setCell ⟨n0, 4, none⟩ (.slice none 0 0)).setCell ⟨n0, 5, none⟩ (.int .i64 0)).setCell ⟨n0, 6, none⟩ (.int .i64 0)) := kk5.setCell (p := ⟨n0, 6, none⟩) (Nat.le_refl _) (.int .i64 0)
                  have rr7 : Row ((((((((U10.setCell ⟨n0, 0, none⟩ (.slice none 0 0)).setCell ⟨n0, 1, none⟩ (.slice none 0 0)).setCell ⟨n0, 2, none⟩ (.slice none 0 0)).setCell ⟨n0, 3, none⟩ (.slice none 0 0)).setCell ⟨n0, 4, none⟩ (.slice none 0 0)).setCell ⟨n0, 5, none⟩ (.int .i64 0)).setCell ⟨n0, 6, none⟩ (.int .i64 0)).setCell ⟨n0, 7, none⟩ (.int .i64 0)) n0 33 #[.slice none 0 0, .slice none 0 0, .slice none 0 0, .slice none 0 0, .slice none 0 0, .int .i64 0, .int .i64 0, .int .i64 0, .int .i64 0, .int .i64 0] := rr6.set 7 (.int .i64 0)
                  have kk7 : Below n0 U10 ((((((((U10.setCell ⟨n0, 0, none⟩ (.slice none 0 0)).setCell ⟨n0, 1, none⟩ (.slice none 0 0)).setCell ⟨n0, 2, none⟩ (.slice none 0 0)).setCell ⟨n0, 3, none⟩ (.slice none 0 0)).setCell ⟨n0, 4, none⟩ (.slice none 0 0)).setCell ⟨n0, 5, none⟩ (.int .i64 0)).setCell ⟨n0, 6, none⟩ (.int .i64 0)).setCell ⟨n0, 7, none⟩ (.int .i64 0)) := kk6.setCell (p := ⟨n0, 7, none⟩) (Nat.le_refl _) (.int .i64 0)
                  have rr8 : Row (((((((((U10.setCell ⟨n0, 0, none⟩ (.slice none 0 0)).setCell ⟨n0, 1, none⟩ (.slice none 0 0)).setCell ⟨n0, 2, none⟩ (.slice none 0 0)).setCell ⟨n0, 3, none⟩ (.slice none 0 0)).setCell ⟨n0, 4, none⟩ (.slice none 0 0)).setCell ⟨n0, 5, none⟩ (.int .i64 0)).setCell ⟨n0, 6, none⟩ (.int .i64 0)).setCell ⟨n0, 7, none⟩ (.int .i64 0)).setCell ⟨n0, 8, none⟩ (.int .i64 0)) n0 33 #[.slice none 0 0, .slice none 0 0, .slice none 0 0, .slice none 0 0, .slice none 0 0, .int .i64 0, .int .i64 0, .int .i64 0, .int .i64 0, .int .i64 0] := rr7.set 8 (.int .i64 0)
                  have kk8 : Below n0 U10 (((((((((U10.setCell ⟨n0, 0, none⟩ (.slice none 0 0)).setCell ⟨n0, 1, none⟩ (.slice none 0 0)).setCell ⟨n0, 2, none⟩ (.slice none 0 0)).setCell ⟨n0, 3, none⟩ (.slice none 0 0)).setCell ⟨n0, 4, none⟩ (.slice none 0 0)).setCell ⟨n0, 5, none⟩ (.int .i64 0)).setCell ⟨n0, 6, none⟩ (.int .i64 0)).setCell ⟨n0, 7, none⟩ (.int .i64 0)).setCell ⟨n0, 8, none⟩ (.int .i64 0)) := kk7.setCell (p := ⟨n0, 8, none⟩) (Nat.le_refl _) (.int .i64 0)
                  have rr9 : Row ((((((((((U10.setCell ⟨n0, 0, none⟩ (.slice none 0 0)).setCell ⟨n0, 1, none⟩ (.slice none 0 0)).setCell ⟨n0, 2, none⟩ (.slice none 0 0)).setCell ⟨n0, 3, none⟩ (.slice none 0 0)).setCell ⟨n0, 4, none⟩ (.slice none 0 0)).setCell ⟨n0, 5, none⟩ (.int .i64 0)).setCell ⟨n0, 6, none⟩ (.int .i64 0)).setCell ⟨n0, 7, none⟩ (.int .i64 0)).setCell ⟨n0, 8, none⟩ (.int .i64 0)).setCell ⟨n0, 9, none⟩ (.int .i64 0)) n0 33 #[.slice none 0 0, .slice none 0 0, .slice none 0 0, .slice none 0 0, .slice none 0 0, .int .i64 0, .int .i64 0, .int .i64 0, .int .i64 0, .int .i64 0] := rr8.set 9 (.int .i64 0)
                  have kk9 : Below n0 U10 ((((((((((U10.setCell ⟨n0, 0, none⟩ (.slice none 0 0)).setCell ⟨n0, 1, none⟩ (.slice none 0 0)).setCell ⟨n0, 2, none⟩ (.slice none 0 0)).setCell ⟨n0, 3, none⟩ (.slice none 0 0)).setCell ⟨n0, 4, none⟩ (.slice none 0 0)).setCell ⟨n0, 5, none⟩ (.int .i64 0)).setCell ⟨n0, 6, none⟩ (.int .i64 0)).setCell ⟨n0, 7, none⟩ (.int .i64 0)).setCell ⟨n0, 8, none⟩ (.int .i64 0)).setCell ⟨n0, 9, none⟩ (.int .i64 0)) := kk8.setCell (p := ⟨n0, 9, none⟩) (Nat.le_refl _) (.int .i64 0)
                  refine bodyPost_ret (results_cell_tmp_row rfl _ _ n0 33 #[.slice none 0 0, .slice none 0 0, .slice none 0 0, .slice none 0 0, .slice none 0 0, .int .i64 0, .int .i64 0, .int .i64 0, .int .i64 0, .int .i64 0] (0, 0) _ rfl rr9 Try.underlying33 rfl Try.size33) rfl ?_
                  rw [HFI.out]
                  exact ⟨_, rfl, lay0 _ _, by rw [← HN.out.1]; exact HBB10.out.trans kk9⟩

                · have HFI : Hid (fin (tlay (body (o.drop 2))) = (⟨(tlist tnode s0).1, (tlist tsec s1).1, (trows s2).1, (tlist tpoint s3).1, (trows s4).1, (t0 : Int), (t1 : Int), (t2 : Int), (t3 : Int), (t4 : Int)⟩, 0)) := by show _ = _; rw [HR.out, HTL.out]; unfold fin; simp only; rw [if_neg hpos]
                  have hz0 : lz.length = 0 := by omega
                  have HNN : Hid ((tlist tnode s0).2 ≠ none ∧ (tlist tsec s1).2 ≠ none ∧ (trows s2).2 ≠ none ∧ (tlist tpoint s3).2 ≠ none ∧ (trows s4).2 ≠ none) := by
                    have h9 : (tget 16 y4).2 ≠ none := by rw [HY5.out.2]; simp
                    have h8 : (tget 16 y3).2 ≠ none := by rw [HY4.out.2]; exact back (strict_get 16) h9
                    have h7 : (tget 16 y2).2 ≠ none := by rw [HY3.out.2]; exact back (strict_get 16) h8
                    have h6 : (tget 16 y1).2 ≠ none := by rw [HY2.out.2]; exact back (strict_get 16) h7
                    have h5 : (tget 16 s5).2 ≠ none := by rw [HY1.out.2]; exact back (strict_get 16) h6
                    have e5 : (trows s4).2 ≠ none := by rw [HS5.out]; exact back (strict_get 16) h5
                    have e4 : (tlist tpoint s3).2 ≠ none := by rw [HS4.out]; exact back strict_rows e5
                    have e3 : (trows s2).2 ≠ none := by rw [HS3.out]; exact back (strict_list strict_point) e4
                    have e2 : (tlist tsec s1).2 ≠ none := by rw [HS2.out]; exact back strict_rows e3
                    have e1 : (tlist tnode s0).2 ≠ none := by rw [HS1.out]; exact back (strict_list strict_sec) e2
                    exact ⟨e1, e2, e3, e4, e5⟩
                  have q0 := HTT10.out.res.cell 0; have r0 := HTT10.out.res.frozen 0; have p0 := HTT10.out.lay.cell 0
                  have q1 := HTT10.out.res.cell 1; have r1 := HTT10.out.res.frozen 1; have p1 := HTT10.out.lay.cell 1
                  have q2 := HTT10.out.res.cell 2; have r2 := HTT10.out.res.frozen 2; have p2 := HTT10.out.lay.cell 2
                  have q3 := HTT10.out.res.cell 3; have r3 := HTT10.out.res.frozen 3; have p3 := HTT10.out.lay.cell 3
                  have q4 := HTT10.out.res.cell 4; have r4 := HTT10.out.res.frozen 4; have p4 := HTT10.out.lay.cell 4
                  have q5 := HTT10.out.res.cell 5; have r5 := HTT10.out.res.frozen 5; have p5 := HTT10.out.lay.cell 5
                  have q6 := HTT10.out.res.cell 6; have r6 := HTT10.out.res.frozen 6; have p6 := HTT10.out.lay.cell 6
                  have q7 := HTT10.out.res.cell 7; have r7 := HTT10.out.res.frozen 7; have p7 := HTT10.out.lay.cell 7
                  have q8 := HTT10.out.res.cell 8; have r8 := HTT10.out.res.frozen 8; have p8 := HTT10.out.lay.cell 8
                  have q9 := HTT10.out.res.cell 9; have r9 := HTT10.out.res.frozen 9; have p9 := HTT10.out.lay.cell 9
                  simp only [List.getElem?_toArray, List.getElem?_cons_zero, List.getElem?_cons_succ] at q0 p0 q1 p1 q2 p2 q3 p3 q4 p4 q5 p5 q6 p6 q7 p7 q8 p8 q9 p9
                  go_wp2_with fail
                  have rr0 : Row (U10.setCell ⟨n0, 0, none⟩ (.slice A0 k0 c0)) n0 33 #[.slice A0 k0 c0, .slice none 0 0, .slice none 0 0, .slice none 0 0, .slice none 0 0, .int .i64 0, .int .i64 0, .int .i64 0, .int .i64 0, .int .i64 0] := HTT10.out.res.set 0 (.slice A0 k0 c0)
                  have kk0 : Below n0 U10 (U10.setCell ⟨n0, 0, none⟩ (.slice A0 k0 c0)) := (Below.refl n0 U10).setCell (p := ⟨n0, 0, none⟩) (Nat.le_refl _) (.slice A0 k0 c0)
                  have rr1 : Row ((U10.setCell ⟨n0, 0, none⟩ (.slice A0 k0 c0)).setCell ⟨n0, 1, none⟩ (.slice A1 k1 c1)) n0 33 #[.slice A0 k0 c0, .slice A1 k1 c1, .slice none 0 0, .slice none 0 0, .slice none 0 0, .int .i64 0, .int .i64 0, .int .i64 0, .int .i64 0, .int .i64 0] := rr0.set 1 (.slice A1 k1 c1)
                  have kk1 : Below n0 U10 ((U10.setCell ⟨n0, 0, none⟩ (.slice A0 k0 c0)).setCell ⟨n0, 1, none⟩ (.slice A1 k1 c1)) := kk0.setCell (p := ⟨n0, 1, none⟩) (Nat.le_refl _) (.slice A1 k1 c1)
                  have rr2 : Row (((U10.setCell ⟨n0, 0, none⟩ (.slice A0 k0 c0)).setCell ⟨n0, 1, none⟩ (.slice A1 k1 c1)).setCell ⟨n0, 2, none⟩ (.slice A2 k2 c2)) n0 33 #[.slice A0 k0 c0, .slice A1 k1 c1, .slice A2 k2 c2, .slice none 0 0, .slice none 0 0, .int .i64 0, .int .i64 0, .int .i64 0, .int .i64 0, .int .i64 0] := rr1.set 2 (.slice A2 k2 c2)
                  have kk2 : Below n0 U10 (((U10.setCell ⟨n0, 0, none⟩ (.slice A0 k0 c0)).setCell ⟨n0, 1, none⟩ (.slice A1 k1 c1)).setCell ⟨n0, 2, none⟩ (.slice A2 k2 c2)) := kk1.setCell (p := ⟨n0, 2, none⟩) (Nat.le_refl _) (.slice A2 k2 c2)
                  have rr3 : Row ((((U10.setCell ⟨n0, 0, none⟩ (.slice A0 k0 c0)).setCell ⟨n0, 1, none⟩ (.slice A1 k1 c1)).setCell ⟨n0, 2, none⟩ (.slice A2 k2 c2)).setCell ⟨n0, 3, none⟩ (.slice A3 k3 c3)) n0 33 #[.slice A0 k0 c0, .slice A1 k1 c1, .slice A2 k2 c2, .slice A3 k3 c3, .slice none 0 0, .int .i64 0, .int .i64 0, .int .i64 0, .int .i64 0, .int .i64 0] := rr2.set 3 (.slice A3 k3 c3)
                  have kk3 : Below n0 U10 ((((U10.setCell ⟨n0, 0, none⟩ (.slice A0 k0 c0)).setCell ⟨n0, 1, none⟩ (.slice A1 k1 c1)).setCell ⟨n0, 2, none⟩ (.slice A2 k2 c2)).setCell ⟨n0, 3, none⟩ (.slice A3 k3 c3)) := kk2.setCell (p := ⟨n0, 3, none⟩) (Nat.le_refl _) (.slice A3 k3 c3)
                  have rr4 : Row (((((U10.setCell ⟨n0, 0, none⟩ (.slice A0 k0 c0)).setCell ⟨n0, 1, none⟩ (.slice A1 k1 c1)).setCell ⟨n0, 2, none⟩ (.slice A2 k2 c2)).setCell ⟨n0, 3, none⟩ (.slice A3 k3 c3)).setCell ⟨n0, 4, none⟩ (.slice A4 k4 c4)) n0 33 #[.slice A0 k0 c0, .slice A1 k1 c1, .slice A2 k2 c2, .slice A3 k3 c3, .slice A4 k4 c4, .int .i64 0, .int .i64 0, .int .i64 0, .int .i64 0, .int .i64 0] := rr3.set 4 (.slice A4 k4 c4)
                  have kk4 : Below n0 U10 (((((U10.setCell ⟨n0, 0, none⟩ (.slice A0 k0 c0)).setCell ⟨n0, 1, none⟩ (.slice A1 k1 c1)).setCell ⟨n0, 2, none⟩ (.slice A2 k2 c2)).setCell ⟨n0, 3, none⟩ (.slice A3 k3 c3)).setCell ⟨n0, 4, none⟩ (.slice A4 k4 c4)) := kk3.setCell (p := ⟨n0, 4, none⟩) (Nat.le_refl _) (.slice A4 k4 c4)
                  have rr5 : Row ((((((U10.setCell ⟨n0, 0, none⟩ (.slice A0 k0 c0)).setCell ⟨n0, 1, none⟩ (.slice A1 k1 c1)).setCell ⟨n0, 2, none⟩ (.slice A2 k2 c2)).setCell ⟨n0, 3, none⟩ (.slice A3 k3 c3)).setCell ⟨n0, 4, none⟩ (.slice A4 k4 c4)).setCell ⟨n0, 5, none⟩ (.int .i64 (t0 : Int))) n0 33 #[.slice A0 k0 c0, .slice A1 k1 c1, .slice A2 k2 c2, .slice A3 k3 c3, .slice A4 k4 c4, .int .i64 (t0 : Int), .int .i64 0, .int .i64 0, .int .i64 0, .int .i64 0] := rr4.set 5 (.int .i64 (t0 : Int))
                  have kk5 : Below n0 U10 ((((((U10.setCell ⟨n0, 0, none⟩ (.slice A0 k0 c0)).setCell ⟨n0, 1, none⟩ (.slice A1 k1 c1)).setCell ⟨n0, 2, none⟩ (.slice A2 k2 c2)).setCell ⟨n0, 3, none⟩ (.slice A3 k3 c3)).setCell ⟨n0, 4, none⟩ (.slice A4 k4 c4)).setCell ⟨n0, 5, none⟩ (.int .i64 (t0 : Int))) := kk4.setCell (p := ⟨n0, 5, none⟩) (Nat.le_refl _) (.int .i64 (t0 : Int))
                  have rr6 : Row (((((((U10.setCell ⟨n0, 0, none⟩ (.slice A0 k0 c0)).setCell ⟨n0, 1, none⟩ (.slice A1 k1 c1)).setCell ⟨n0, 2, none⟩ (.slice A2 k2 c2)).setCell ⟨n0, 3, none⟩ (.slice A3 k3 c3)).setCell ⟨n0, 4, none⟩ (.slice A4 k4 c4)).setCell ⟨n0, 5, none⟩ (.int .i64 (t0 : Int))).setCell ⟨n0, 6, none⟩ (.int .i64 (t1 : Int))) n0 33 #[.slice A0 k0 c0, .slice A1 k1 c1, .slice A2 k2 c2, .slice A3 k3 c3, .slice A4 k4 c4, .int .i64 (t0 : Int), .int .i64 (t1 : Int), .int .i64 0, .int .i64 0, .int .i64 0] := rr5.set 6 (.int .i64 (t1 : Int))
                  have kk6 : Below n0 U10 (((((((U10.setCell ⟨n0, 0, none⟩ (.slice A0 k0 c0)).setCell ⟨n0, 1, none⟩ (.slice A1 k1 c1)).setCell ⟨n0, 2, none⟩ (.slice A2 k2 c2)).setCell ⟨n0, 3, none⟩ (.slice A3 k3 c3)).setCell ⟨n0, 4, none⟩ (.slice A4 k4 c4)).setCell ⟨n0, 5, none⟩ (.int .i64 (t0 : Int))).setCell ⟨n0, 6, none⟩ (.int .i64 (t1 : Int))) := kk5.setCell (p := ⟨n0, 6, none⟩) (Nat.le_refl _) (.int .i64 (t1 : Int))
                  have rr7 : Row ((((((((U10.setCell ⟨n0, 0, none⟩ (.slice A0 k0 c0)).setCell ⟨n0, 1, none⟩ (.slice A1 k1 c1)).setCell ⟨n0, 2, none⟩ (.slice A2 k2 c2)).setCell ⟨n0, 3, none⟩ (.slice A3 k3 c3)).setCell ⟨n0, 4, none⟩ (.slice A4 k4 c4)).setCell ⟨n0, 5, none⟩ (.int .i64 (t0 : Int))).setCell ⟨n0, 6, none⟩ (.int .i64 (t1 : Int))).setCell ⟨n0, 7, none⟩ (.int .i64 (t2 : Int))) n0 33 #[.slice A0 k0 c0, .slice A1 k1 c1, .slice A2 k2 c2, .slice A3 k3 c3, .slice A4 k4 c4, .int .i64 (t0 : Int), .int .i64 (t1 : Int), .int .i64 (t2 : Int), .int .i64 0, .int .i64 0] := rr6.set 7 (.int .i64 (t2 : Int))
                  have kk7 : Below n0 U10 ((((((((U10.setCell ⟨n0, 0, none⟩ (.slice A0 k0 c0)).setCell ⟨n0, 1, none⟩ (.slice A1 k1 c1)).setCell ⟨n0, 2, none⟩ (.slice A2 k2 c2)).setCell ⟨n0, 3, none⟩ (.slice A3 k3 c3)).setCell ⟨n0, 4, none⟩ (.slice A4 k4 c4)).setCell ⟨n0, 5, none⟩ (.int .i64 (t0 : Int))).setCell ⟨n0, 6, none⟩ (.int .i64 (t1 : Int))).setCell ⟨n0, 7, none⟩ (.int .i64 (t2 : Int))) := kk6.setCell (p := ⟨n0, 7, none⟩) (Nat.le_refl _) (.int .i64 (t2 : Int))
                  have rr8 : Row (((((((((U10.setCell ⟨n0, 0, none⟩ (.slice A0 k0 c0)).setCell ⟨n0, 1, none⟩ (.slice A1 k1 c1)).setCell ⟨n0, 2, none⟩ (.slice A2 k2 c2)).setCell ⟨n0, 3, none⟩ (.slice A3 k3 c3)).setCell ⟨n0, 4, none⟩ (.slice A4 k4 c4)).setCell ⟨n0, 5, none⟩ (.int .i64 (t0 : Int))).setCell ⟨n0, 6, none⟩ (.int .i64 (t1 : Int))).setCell ⟨n0, 7, none⟩ (.int .i64 (t2 : Int))).setCell ⟨n0, 8, none⟩ (.int .i64 (t3 : Int))) n0 33 #[.slice A0 k0 c0, .slice A1 k1 c1, .slice A2 k2 c2, .slice A3 k3 c3, .slice A4 k4 c4, .int .i64 (t0 : Int), .int .i64 (t1 : Int), .int .i64 (t2 : Int), .int .i64 (t3 : Int), .int .i64 0] := rr7.set 8 (.int .i64 (t3 : Int))
                  have kk8 : Below n0 U10 (((((((((U10.setCell ⟨n0, 0, none⟩ (.slice A0 k0 c0)).setCell ⟨n0, 1, none⟩ (.slice A1 k1 c1)).setCell ⟨n0, 2, none⟩ (.slice A2 k2 c2)).setCell ⟨n0, 3, none⟩ (.slice A3 k3 c3)).setCell ⟨n0, 4, none⟩ (.slice A4 k4 c4)).setCell ⟨n0, 5, none⟩ (.int .i64 (t0 : Int))).setCell ⟨n0, 6, none⟩ (.int .i64 (t1 : Int))).setCell ⟨n0, 7, none⟩ (.int .i64 (t2 : Int))).setCell ⟨n0, 8, none⟩ (.int .i64 (t3 : Int))) := kk7.setCell (p := ⟨n0, 8, none⟩) (Nat.le_refl _) (.int .i64 (t3 : Int))
                  have rr9 : Row ((((((((((U10.setCell ⟨n0, 0, none⟩ (.slice A0 k0 c0)).setCell ⟨n0, 1, none⟩ (.slice A1 k1 c1)).setCell ⟨n0, 2, none⟩ (.slice A2 k2 c2)).setCell ⟨n0, 3, none⟩ (.slice A3 k3 c3)).setCell ⟨n0, 4, none⟩ (.slice A4 k4 c4)).setCell ⟨n0, 5, none⟩ (.int .i64 (t0 : Int))).setCell ⟨n0, 6, none⟩ (.int .i64 (t1 : Int))).setCell ⟨n0, 7, none⟩ (.int .i64 (t2 : Int))).setCell ⟨n0, 8, none⟩ (.int .i64 (t3 : Int))).setCell ⟨n0, 9, none⟩ (.int .i64 (t4 : Int))) n0 33 #[.slice A0 k0 c0, .slice A1 k1 c1, .slice A2 k2 c2, .slice A3 k3 c3, .slice A4 k4 c4, .int .i64 (t0 : Int), .int .i64 (t1 : Int), .int .i64 (t2 : Int), .int .i64 (t3 : Int), .int .i64 (t4 : Int)] := rr8.set 9 (.int .i64 (t4 : Int))
                  have kk9 : Below n0 U10 ((((((((((U10.setCell ⟨n0, 0, none⟩ (.slice A0 k0 c0)).setCell ⟨n0, 1, none⟩ (.slice A1 k1 c1)).setCell ⟨n0, 2, none⟩ (.slice A2 k2 c2)).setCell ⟨n0, 3, none⟩ (.slice A3 k3 c3)).setCell ⟨n0, 4, none⟩ (.slice A4 k4 c4)).setCell ⟨n0, 5, none⟩ (.int .i64 (t0 : Int))).setCell ⟨n0, 6, none⟩ (.int .i64 (t1 : Int))).setCell ⟨n0, 7, none⟩ (.int .i64 (t2 : Int))).setCell ⟨n0, 8, none⟩ (.int .i64 (t3 : Int))).setCell ⟨n0, 9, none⟩ (.int .i64 (t4 : Int))) := kk8.setCell (p := ⟨n0, 9, none⟩) (Nat.le_refl _) (.int .i64 (t4 : Int))
                  refine bodyPost_ret (results_cell_tmp_row rfl _ _ n0 33 #[.slice A0 k0 c0, .slice A1 k1 c1, .slice A2 k2 c2, .slice A3 k3 c3, .slice A4 k4 c4, .int .i64 (t0 : Int), .int .i64 (t1 : Int), .int .i64 (t2 : Int), .int .i64 (t3 : Int), .int .i64 (t4 : Int)] (0, 0) _ rfl rr9 Try.underlying33 rfl Try.size33) rfl ?_
                  rw [HFI.out]
                  refine ⟨_, rfl, ?_, by rw [← HN.out.1]; exact HBB10.out.trans kk9⟩
                  have hkc : KeptL [n0] U10 _ := ⟨kk9.os, kk9.tape, kk9.output, kk9.size, fun k hk hn => by
                    have e : ∀ j u W, (World.setCell W ⟨n0, j, none⟩ u).heap[k]? = W.heap[k]? := fun j u W => Below.heap_setCell W _ u k (by simpa using hn)
                    simp only [e]⟩
                  exact IsLay.v ⟨_, _, _, _, _, rfl, (Five.mk (HF0.out HNN.out.1) (HF1.out HNN.out.2.1) (HF2.out HNN.out.2.2.1) (HF3.out HNN.out.2.2.2.1) (HF4.out HNN.out.2.2.2.2) : Five U10 _ _ _ _ _ ⟨_, _, _, _, _, (t0 : Int), (t1 : Int), (t2 : Int), (t3 : Int), (t4 : Int)⟩).kept hkc (other_one HTT10.out.res)⟩

end Go.Proofs.Ythpfhcelmddjlaa
