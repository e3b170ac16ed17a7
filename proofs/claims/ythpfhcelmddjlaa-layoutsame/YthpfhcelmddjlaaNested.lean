/- Contract: the document's nested lists, read. -/
import Derived.Test.YthpfhcelmddjlaaIns
import Derived.Deep.DeepCutAuto
namespace Go.Proofs.Ythpfhcelmddjlaa
open Go.RowKit Fl
set_option maxRecDepth 100000

theorem KeptL.of_grown {w w' : World} {row : Option Nat} (h : w.grownBy w' row) : KeptL row.toList w w' :=
  ⟨h.os, h.tape, h.output, h.size, fun k hk hn => h.block k hk (by rintro rfl; exact hn (by simp))⟩

theorem IS.grown {w w' : World} {b0 g B : Nat} {s : St} {row : Option Nat} (h : IS w b0 g s) (hg : w.grownBy w' row) (hr : ∀ k, row = some k → B ≤ k) (h1 : g < B) (h2 : b0 < B) : IS w' b0 g s :=
  h.keptL (KeptL.of_grown hg) (by intro hm; have := hr g (by simpa using hm); omega) (by intro hm; have := hr b0 (by simpa using hm); omega)

theorem Tl.grown {w w' : World} {t t' : TypeId} {v v' : Value} {xs ys : List Value} {base size n : Nat} (h : Tl w t v xs) (ho : w.ownsRow base t' size v' n ys) (hg : w.grownBy w' v'.ownBlock) (ht : t ≠ t') : Tl w' t v xs := by
  obtain ⟨A, c, hv, h0, hx⟩ := h
  refine ⟨A, c, hv, h0, fun hp => ?_⟩
  obtain ⟨b, o, cur, fr, hA, hh, hc⟩ := hx hp
  refine ⟨b, o, cur, fr, hA, (hg.block b (heap_lt hh) ?_).trans hh, hc⟩
  intro e
  rcases ho.2 with ⟨rfl, _⟩ | ⟨g', cap, cur', rfl, _, hh', _⟩
  · simp [Value.ownBlock] at e
  · have : b = g' := by simpa [Value.ownBlock] using e
    subst this
    rw [hh] at hh'
    injection hh' with hh'
    injection hh' with _ hh'
    exact ht hh'

theorem ivals_snoc (xs : List Int) (x : Int) : ivals xs ++ [.int .i64 x] = ivals (xs ++ [x]) := by simp [ivals]

theorem trow_eq (s : St) : trow s = tmany tint (tget 8 s).1 (tget 8 s).2 := rfl
theorem trows_eq (s : St) : trows s = tmany trow (tget 8 s).1 (tget 8 s).2 := rfl

def RetNested (b0 g : Nat) (s : St) (w : World) (e : Ending) (w' : World) : Prop :=
  ∃ v, e = .returned v ∧ IS w' b0 g (trows s).2 ∧ (∃ A n c, v = .slice A n c) ∧ ((trows s).2 ≠ none → IsRows w' v (trows s).1) ∧ KeptL [g] w w'

/-- Whether a loop of the document goes on. -/
def goes (i n : Nat) (s : St) : Bool := decide (i < n) && s.isSome

theorem goes_true {i n : Nat} {s : St} (h : goes i n s = true) : i < n ∧ ∃ l, s = some l := by
  unfold goes at h
  rw [Bool.and_eq_true, decide_eq_true_eq] at h
  exact ⟨h.1, Option.isSome_iff_exists.1 h.2⟩

theorem goes_false {α : Type} {one : St → α × St} (hs : Strict one) {i n : Nat} {s : St} (hi : i ≤ n) (h : goes i n (tmany one i s).2 = false) : (tmany one n s).2 = (tmany one i s).2 ∧ ((tmany one n s).2 ≠ none → i = n) := by
  unfold goes at h
  rcases Nat.lt_or_ge i n with c | c
  · rw [decide_eq_true c, Bool.true_and] at h
    have hn : (tmany one i s).2 = none := by cases hh : (tmany one i s).2 with
      | none => rfl
      | some l => rw [hh] at h; simp at h
    have := many_none hs hi hn
    exact ⟨by rw [this, hn], fun hh => absurd this hh⟩
  · obtain rfl : i = n := by omega
    exact ⟨rfl, fun _ => rfl⟩


set_option maxHeartbeats 8000000 in
theorem nested_any (w : World) (b0 g : Nat) (s : St) (h : IS w b0 g s) (hbg : b0 ≠ g) (hb0 : b0 < w.heap.size) : Calls Try.prog 76 #[.pointer (some ⟨g, 0, none⟩)] w (RetNested b0 g s w) := by
  obtain ⟨i3, hi3, hz30, hz31, hz32⟩ := info_parts Try.info3
  obtain ⟨i5, hi5, hz50, hz51, hz52⟩ := info_parts Try.info51
  have hgl : g < w.heap.size := by obtain ⟨v, hr⟩ := h.row; exact hr.lt
  have H := Lib.hid h; have HG : Hid (g < w.heap.size ∧ b0 < w.heap.size) := ⟨hgl, hb0⟩
  clear h hgl hb0
  go_enter Try.func76, Try.ntmps76
  go_wp2_with fail
  refine (iget_any w b0 g s 8 8 H.out hbg rfl (by omega) (by omega)).mono ?_
  rintro e w1 ⟨rfl, h1, k1⟩
  have HTR := Lib.hid (trows_eq s)
  have hlt := tget_lt 8 s
  obtain ⟨n, hn⟩ : ∃ n, (tget 8 s).1 = n := ⟨_, rfl⟩
  obtain ⟨s1, hs1⟩ : ∃ s1, (tget 8 s).2 = s1 := ⟨_, rfl⟩
  rw [hn] at hlt HTR ⊢
  rw [hs1] at h1 HTR
  have n8 : n ≤ 255 := by omega
  have hwr := i64_small n (by omega)
  have H1 : Hid (IS w1 b0 g s1 ∧ KeptL [g] w w1) := ⟨h1, k1⟩
  clear h1 k1 hlt hn hs1
  go_wp2_with fail
  clear hwr
  go_loopw [3, 5] (fun t k wr => ∃ i : Nat, i ≤ n ∧ k = .int .i64 i ∧ Hid (IS wr b0 g (tmany trow i s1).2 ∧ (∃ vs, wr.ownsRow w.heap.size 51 1 t i vs ∧ ((tmany trow i s1).2 ≠ none → ∀ j (h1 : j < vs.length) (h2 : j < (tmany trow i s1).1.length), Tl wr 3 vs[j] (ivals (tmany trow i s1).1[j]))) ∧ KeptL [g] w wr)) (fun _ k _ => n - (intOf k).toNat)
  case atStart => exact ⟨0, Nat.zero_le _, rfl, H1.out.1, ⟨[], World.ownsRow_nil _ _ _ _, fun _ j h1 _ => absurd h1 (by simp)⟩, H1.out.2⟩
  case round =>
    obtain ⟨i, hi, rfl, HI⟩ := hrel
    obtain ⟨rv, hrow⟩ := HI.out.1.row
    have fl1 := hrow.cell 1
    simp only [List.getElem?_toArray, List.getElem?_cons_zero, List.getElem?_cons_succ] at fl1
    clear hrow
    go_upto_region 4 with (fail)
    go_cut [21] (fun v wx => v = .bool (goes i n (tmany trow i s1).2) ∧ wx = wr)
    case first =>
      by_cases hlt : i < n
      · cases hst : (tmany trow i s1).2 with
        | none =>
          rw [hst] at fl1
          go_wp2_with fail
          go_meet
          case rel => exact ⟨by rw [hst]; simp [goes, hlt], rfl⟩
        | some l =>
          rw [hst] at fl1
          go_wp2_with fail
          go_meet
          case rel => exact ⟨by rw [hst]; simp [goes, hlt], rfl⟩
      · go_wp2_with fail
        go_meet
        case rel => exact ⟨by simp [goes, hlt], rfl⟩
    case rest =>
      obtain ⟨rfl, rfl⟩ := hcut
      clear fl1
      cases hc : goes i n (tmany trow i s1).2 with
      | false =>
        obtain ⟨e1, e2⟩ := goes_false strict_row hi hc
        have HE : Hid ((tmany trow n s1).2 = (tmany trow i s1).2 ∧ ((tmany trow n s1).2 ≠ none → i = n)) := ⟨e1, e2⟩
        clear hc e1 e2
        go_wp2_with fail
        go_ret
        obtain ⟨hIS, ⟨vs, ho, hvs⟩, hK⟩ := HI.out
        obtain ⟨A, c, hv⟩ := own_slice ho
        refine ⟨_, rfl, ?_, ⟨A, _, c, hv⟩, ?_, hK⟩
        · rw [HTR.out, HE.out.1]; exact hIS
        · rw [HTR.out]
          intro hne
          have hin := HE.out.2 hne
          subst hin
          have hl : vs.length = i := by have := ho.1; simpa using this
          exact ⟨vs, Tl.of_own ho, by rw [hl, tmany_length], hvs hne⟩
      | true =>
        obtain ⟨hlt, l0, hl0⟩ := goes_true hc
        clear hc
        have HL0 := Lib.hid hl0; clear hl0
        go_wp2_with fail
        refine (iget_any wc b0 g _ 8 8 HI.out.1 hbg rfl (by omega) (by omega)).mono ?_
        rintro e wO ⟨rfl, h1, k1⟩
        have HTW := Lib.hid (trow_eq (tmany trow i s1).2)
        have hlt2 := tget_lt 8 (tmany trow i s1).2
        obtain ⟨m, hm⟩ : ∃ n, (tget 8 (tmany trow i s1).2).1 = n := ⟨_, rfl⟩
        obtain ⟨s2, hs2⟩ : ∃ s1', (tget 8 (tmany trow i s1).2).2 = s1' := ⟨_, rfl⟩
        rw [hm] at hlt2 HTW ⊢
        rw [hs2] at h1 HTW
        have m8 : m ≤ 255 := by omega
        have hwr := i64_small m (by omega)
        have HO : Hid (IS wO b0 g s2 ∧ KeptL [g] wc wO) := ⟨h1, k1⟩
        have HGO : Hid (g < wO.heap.size ∧ b0 < wO.heap.size) := by have a := HI.out.2.2.size; have b := k1.size; have c := HG.out; refine ⟨?_, ?_⟩ <;> omega
        clear h1 k1 hlt2 hm hs2
        go_wp2_with fail
        clear hwr
        go_loopw [6, 8] (fun t k wr => ∃ j : Nat, j ≤ m ∧ k = .int .i64 j ∧ Hid (IS wr b0 g (tmany tint j s2).2 ∧ wr.ownsRow wO.heap.size 3 1 t j (ivals (tmany tint j s2).1) ∧ KeptL [g] wO wr)) (fun _ k _ => m - (intOf k).toNat)
        case atStart => exact ⟨0, Nat.zero_le _, rfl, HO.out.1, World.ownsRow_nil _ _ _ _, KeptL.refl _ _⟩
        case round =>
          obtain ⟨j, hj, rfl, HJ⟩ := hrel
          obtain ⟨rv, hrow⟩ := HJ.out.1.row
          have fl1 := hrow.cell 1
          simp only [List.getElem?_toArray, List.getElem?_cons_zero, List.getElem?_cons_succ] at fl1
          clear hrow
          go_upto_region 9 with (fail)
          go_cut [36] (fun v wx => v = .bool (goes j m (tmany tint j s2).2) ∧ wx = wr)
          case first =>
            by_cases hlt : j < m
            · cases hst : (tmany tint j s2).2 with
              | none =>
                rw [hst] at fl1
                go_wp2_with fail
                go_meet
                case rel => exact ⟨by rw [hst]; simp [goes, hlt], rfl⟩
              | some l =>
                rw [hst] at fl1
                go_wp2_with fail
                go_meet
                case rel => exact ⟨by rw [hst]; simp [goes, hlt], rfl⟩
            · go_wp2_with fail
              go_meet
              case rel => exact ⟨by simp [goes, hlt], rfl⟩
          case rest =>
            obtain ⟨rfl, rfl⟩ := hcut
            clear fl1
            obtain ⟨wJ, hwJ⟩ : ∃ x, x = wc := ⟨_, rfl⟩
            cases hc2 : goes j m (tmany tint j s2).2 with
            | true =>
              obtain ⟨hlt3, l1, hl1⟩ := goes_true hc2
              clear hc2 hl1
              go_wp2_with fail
              refine (iget_any _ b0 g _ 8 8 HJ.out.1 hbg rfl (by omega) (by omega)).mono ?_
              rintro e w3 ⟨rfl, h1, k1⟩
              obtain ⟨rv2, hrow2⟩ := HJ.out.1.row
              have hlt4 := tget_lt 8 (tmany tint j s2).2
              have hown := own_keptL HJ.out.2.1 k1 (Other.one hrow2 (by decide))
              have H3 : Hid (IS w3 b0 g (tmany tint (j + 1) s2).2 ∧ w3.ownsRow wO.heap.size 3 1 u6 j (ivals (tmany tint j s2).1) ∧ KeptL [g] wO w3) := ⟨h1, hown, HJ.out.2.2.trans k1⟩
              have HX : Hid (ivals (tmany tint j s2).1 ++ [.int .i64 ((tget 8 (tmany tint j s2).2).1 : Int)] = ivals (tmany tint (j + 1) s2).1) := ivals_snoc _ _
              clear h1 k1 hrow2 hown
              generalize (tget 8 (tmany tint j s2).2).1 = x at *
              have hwr2 := i64_small x (by omega)
              go_wp2_with (at_builtin; refine wpList_append_own _ rfl (.tmp 39) (.tmp 43) 51 rfl wO.heap.size 3 i3 (.int .i64 0) 1 8 Try.underlying51 hi3 hz30 hz31 hz32 rfl (by decide) _ _ _ rfl (H3.out.2.1.alloc _) ⟨w3.heap.size, 0, none⟩ 1 1 [.int .i64 (x : Int)] rfl rfl (one_new w3 3 _) (one_cell rfl) (by unfold maxLen; omega) (by omega) (by have := H3.out.2.2.size; simp; omega) ?_)
              intro v2 w4 hown2 hgrow2 _
              rw [HX.out] at hown2
              have hrb : ∀ k, u6.ownBlock = some k → wO.heap.size ≤ k := fun k hk => (H3.out.2.1.lt k hk).1
              have H4 : Hid (IS w4 b0 g (tmany tint (j + 1) s2).2 ∧ w4.ownsRow wO.heap.size 3 1 v2 (j + 1) (ivals (tmany tint (j + 1) s2).1) ∧ KeptL [g] wO w4) :=
                ⟨(H3.out.1.fresh ((Below.refl _ _).alloc (Nat.le_refl _) _)).grown hgrow2 hrb HGO.out.1 HGO.out.2, hown2, (H3.out.2.2.alloc _).grown hgrow2 hrb⟩
              clear hown2 hgrow2 hrb hwr2
              go_wp2_with fail
              go_roundw
              case rel => exact ⟨j + 1, by omega, by go_num, H4⟩
              case measure => simp [intOf]; omega
            | false =>
              obtain ⟨e1, e2⟩ := goes_false strict_int hj hc2
              have HE : Hid ((tmany tint m s2).2 = (tmany tint j s2).2 ∧ ((tmany tint m s2).2 ≠ none → j = m)) := ⟨e1, e2⟩
              clear hc2 e1 e2
              obtain ⟨hIS3, hown3, hK3⟩ := HJ.out
              obtain ⟨A6, c6, hu6⟩ := own_slice hown3
              subst hu6
              obtain ⟨hISo, ⟨vs, ho, hvs⟩, hKo⟩ := HI.out
              obtain ⟨rvo, hrowo⟩ := hISo.row
              have hk2 : KeptL [g] _ wc := HO.out.2.trans hK3
              have ho2 := own_keptL ho hk2 (Other.one hrowo (by decide))
              have HVL : Hid (vs.length = i) := by have := ho.1; show _ = _; simpa using this
              have HS5 : Hid (IS wc b0 g (tmany trow (i + 1) s1).2 ∧ wc.ownsRow w.heap.size 51 1 u3 i vs ∧ KeptL [g] w wc ∧ ((tmany trow (i + 1) s1).2 ≠ none → Tl wc 3 (.slice A6 j c6) (ivals (trow (tmany trow i s1).2).1) ∧ ∀ q (h1 : q < vs.length) (h2 : q < (tmany trow i s1).1.length), Tl wc 3 vs[q] (ivals (tmany trow i s1).1[q]))) := by
                have est : (tmany trow (i + 1) s1).2 = (tmany tint j s2).2 := by
                  show (trow (tmany trow i s1).2).2 = _
                  rw [HTW.out, HE.out.1]
                refine ⟨by rw [est]; exact hIS3, ho2, hKo.trans hk2, fun hne => ?_⟩
                have hjm : j = m := HE.out.2 (by rw [HE.out.1, ← est]; exact hne)
                refine ⟨?_, fun q h1 h2 => (hvs (by rw [HL0.out]; simp) q h1 h2).kept hk2 (Other.one hrowo (by decide))⟩
                rw [HTW.out, ← hjm]
                exact Tl.of_own hown3
              clear hIS3 hown3 hK3 hISo ho hvs hKo hrowo hk2 ho2
              go_wp2_with (at_builtin; refine wpList_append_own _ rfl (.tmp 45) (.tmp 47) 30 rfl w.heap.size 51 i5 (.slice none 0 0) 1 24 Try.underlying30 hi5 hz50 hz51 hz52 rfl (by decide) _ _ _ rfl (HS5.out.2.1.alloc _) ⟨wc.heap.size, 0, none⟩ 1 1 [.slice A6 j c6] rfl rfl (one_new wc 51 _) (one_cell rfl) (by unfold maxLen; omega) (by omega) (by have := HS5.out.2.2.1.size; simp; omega) ?_)
              intro v5 w5 hown5 hgrow5 _
              have hrb : ∀ k, u3.ownBlock = some k → w.heap.size ≤ k := fun k hk => (HS5.out.2.1.lt k hk).1
              have H6 : Hid (IS w5 b0 g (tmany trow (i + 1) s1).2 ∧ (∃ vs, w5.ownsRow w.heap.size 51 1 v5 (i + 1) vs ∧ ((tmany trow (i + 1) s1).2 ≠ none → ∀ j (h1 : j < vs.length) (h2 : j < (tmany trow (i + 1) s1).1.length), Tl w5 3 vs[j] (ivals (tmany trow (i + 1) s1).1[j]))) ∧ KeptL [g] w w5) := by
                refine ⟨(HS5.out.1.fresh ((Below.refl _ _).alloc (Nat.le_refl _) _)).grown hgrow5 hrb HG.out.1 HG.out.2, ⟨_, hown5, fun hne q h1 h2 => ?_⟩, (HS5.out.2.2.1.alloc _).grown hgrow5 hrb⟩
                obtain ⟨hnew, hold⟩ := HS5.out.2.2.2 hne
                have fr : ∀ v xs, Tl wc 3 v xs → Tl w5 3 v xs := fun v xs hT => (hT.kept (KeptL.of_below (S := []) ((Below.refl _ _).alloc (Nat.le_refl _) _)) (by intro k hk; simp at hk)).grown (HS5.out.2.1.alloc _) hgrow5 (by decide)
                have e : (tmany trow (i + 1) s1).1 = (tmany trow i s1).1 ++ [(trow (tmany trow i s1).2).1] := rfl
                rw [List.length_append] at h1
                simp only [List.length_cons, List.length_nil] at h1
                have hvl := HVL.out
                rcases Nat.lt_or_ge q vs.length with c | c
                · have hq2 : q < (tmany trow i s1).1.length := by rw [tmany_length]; omega
                  have e2 : (tmany trow (i + 1) s1).1[q] = (tmany trow i s1).1[q] := by simp only [e]; exact List.getElem_append_left hq2
                  rw [List.getElem_append_left c, e2]
                  exact fr _ _ (hold q c hq2)
                · have hq : q = vs.length := by omega
                  subst hq
                  have e2 : (tmany trow (i + 1) s1).1[vs.length] = (trow (tmany trow i s1).2).1 := by
                    simp only [e]
                    rw [List.getElem_append_right (by rw [tmany_length]; omega)]
                    simp [tmany_length, hvl]
                  rw [List.getElem_append_right (Nat.le_refl _), e2]
                  simpa using fr _ _ hnew
              clear hown5 hgrow5 hrb
              go_wp2_with fail
              go_roundw
              case rel => exact ⟨i + 1, by omega, by go_num, H6⟩
              case measure => simp [intOf]; omega

end Go.Proofs.Ythpfhcelmddjlaa
