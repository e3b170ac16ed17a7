/- The law's walk: TrainSilent. -/
import Derived.Test.YtifcgkpannlnnaaQ9
namespace Go.Proofs.Ytifcgkpannlnnaa
open Go.RowKit Fl Go.Maps
set_option maxRecDepth 100000

/-- The trains from nought on. -/
def natL (i : Nat) : List Int := (List.range i).map fun (j : Nat) => (j : Int)
theorem natL_succ (i : Nat) : natL (i + 1) = natL i ++ [(i : Int)] := by unfold natL; rw [List.range_succ, List.map_append]; rfl
theorem natL_lt (i : Nat) : ∀ x ∈ natL i, x < (i : Int) := by
  intro x hx
  obtain ⟨j, hj, rfl⟩ := List.mem_map.1 hx
  have := List.mem_range.1 hj
  omega
theorem natL_len (i : Nat) : (natL i).length = i := by simp [natL]
theorem natL_wf (i : Nat) (h : i ≤ 1000) : Wf (natL i) := wf_of fun x hx => by
  obtain ⟨j, hj, rfl⟩ := List.mem_map.1 hx
  have := List.mem_range.1 hj
  omega
/-- Those that were heard at these times, and never sure. -/
def Heard (q : List Nat) (i : Nat) (m : Mp) : Prop := ∀ x t, m x = some t → ∃ j : Nat, j < i ∧ x = (j : Int) ∧ t.heard = (q.getD j 0 : Nat) ∧ t.sure = -1 ∧ t.trail = []
theorem Heard.nil (q : List Nat) : Heard q 0 (fun _ => none) := fun x t h => by cases h
theorem Heard.put {q : List Nat} {i : Nat} {m : Mp} (h : Heard q i m) : Heard q (i + 1) (upd m (i : Int) (some ⟨(i : Int), ((q.getD i 0 : Nat) : Int), -1, 0, 0, []⟩)) := fun x t ht => by
  unfold upd at ht
  by_cases e : x = (i : Int)
  · rw [if_pos e] at ht
    injection ht with ht
    subst ht
    exact ⟨i, by omega, e, rfl, rfl, rfl⟩
  · rw [if_neg e] at ht
    obtain ⟨j, hj, r⟩ := h x t ht
    exact ⟨j, by omega, r⟩
theorem Heard.timed {q : List Nat} {i : Nat} {m : Mp} (h : Heard q i m) (hq : ∀ x ∈ q, x < 256) : Timed m := fun x t ht => by
  obtain ⟨j, hj, rfl, h1, h2, _⟩ := h x t ht
  unfold Tm
  rw [h1, h2]
  have : q.getD j 0 < 256 := by
    rcases Nat.lt_or_ge j q.length with c | c
    · rw [List.getD, List.getElem?_eq_getElem c]; exact hq _ (List.getElem_mem _)
    · rw [List.getD, List.getElem?_eq_none c]; decide
  omega
/-- Of those who isn't heard for too long. -/
def lateL (q : List Nat) (now most : Int) (i : Nat) : List Int := (natL i).filter fun x => lateB ((q.getD x.toNat 0 : Nat) : Int) now most
theorem lateL_succ (q : List Nat) (now most : Int) (i : Nat) : lateL q now most (i + 1) = lateL q now most i ++ (if lateB ((q.getD i 0 : Nat) : Int) now most then [(i : Int)] else []) := by
  unfold lateL
  rw [natL_succ, List.filter_append]
  congr 1
  rw [List.filter_cons]
  simp only [Int.toNat_natCast]
  split <;> simp
theorem late_eq {q : List Nat} {i : Nat} {m : Mp} (h : Heard q i m) (hk : Ks (natL i) m) (now most : Int) : (natL i).filter (soB m (muteP now most)) = lateL q now most i := by
  unfold lateL
  apply List.filter_congr
  intro x hx
  obtain ⟨t, ht⟩ := ks_some hk x hx
  rw [soB_some ht]
  obtain ⟨j, hj, rfl, h1, h2, _⟩ := h x t ht
  unfold muteP
  rw [h1, Int.toNat_natCast]
theorem doubt_eq {q : List Nat} {i : Nat} {m : Mp} (h : Heard q i m) (ks : List Int) (now most : Int) : ks.filter (soB m (doubtP now most)) = [] := by
  rw [List.filter_eq_nil_iff]
  intro x hx
  unfold soB
  cases e : m x with
  | none => simp
  | some t =>
    obtain ⟨j, hj, _, h1, h2, _⟩ := h x t e
    simp [doubtP, h2]
theorem Heard.drop {q : List Nat} {i : Nat} {m : Mp} (h : Heard q i m) (l : List Int) : Heard q i (dropL m l) := fun x t ht => by
  unfold dropL at ht
  split at ht
  · cases ht
  · exact h x t ht
theorem Ks.drop {ks : List Int} {m : Mp} (h : Ks ks m) (l : List Int) : Ks (ks.filter (fun x => !l.contains x)) (dropL m l) := by
  refine ⟨h.sorted.filter _, fun x => ?_⟩
  rw [List.mem_filter, h.mem x]
  unfold dropL
  cases e : l.contains x <;> simp
/-- Who is left isn't muted. -/
theorem left_none {ks : List Int} {m : Mp} (p : Tr → Bool) (l : List Int) (hl : l = ks.filter (soB m p)) : (ks.filter (fun x => !l.contains x)).filter (soB (dropL m l) p) = [] := by
  rw [List.filter_eq_nil_iff]
  intro x hx hs
  obtain ⟨h1, h2⟩ := List.mem_filter.1 hx
  have h3 : l.contains x = false := by simpa using h2
  have h4 : soB (dropL m l) p x = soB m p x := by unfold soB dropL; rw [h3]; rfl
  rw [h4] at hs
  have : x ∈ l := by rw [hl]; exact List.mem_filter.2 ⟨h1, hs⟩
  rw [List.contains_iff_mem.2 this] at h3; cases h3
theorem left_len {ks : List Int} {m : Mp} (p : Tr → Bool) (l : List Int) (hl : l = ks.filter (soB m p)) : (ks.filter (fun x => !l.contains x)).length + l.length = ks.length := by
  have h1 : ks.filter (fun x => !l.contains x) = ks.filter (fun x => !soB m p x) := by
    apply List.filter_congr
    intro x hx
    congr 1
    rw [Bool.eq_iff_iff, List.contains_iff_mem, hl, List.mem_filter]
    simp [hx]
  rw [h1]
  have h2 := (List.filter_append_perm (soB m p) ks).length_eq
  rw [List.length_append] at h2
  rw [hl]
  omega

set_option maxHeartbeats 16000000 in
theorem lawSilent (w : World) (A : Option Addr) (c : Nat) (q : List Nat) (most now : Int) (hq : Rd w w.heap.size (.slice A q.length c) (bvals q)) (hlq : q.length ≤ 9223372036854775807) (hbq : ∀ x ∈ q, x < 256) (hm : 0 ≤ most ∧ most < 256) (hn : 0 ≤ now ∧ now < 256) :
    Calls Try.prog 8 #[.slice A q.length c, .int .u8 most, .int .u8 now] w (RetL true w) := by
  have HQ := Lib.hid hq
  have HBQ := Lib.hid hbq
  have hwm : IntKind.i64.wrap most = most := IntWalk.i64_in _ (by omega)
  have hwn : IntKind.i64.wrap now = now := IntWalk.i64_in _ (by omega)
  have HTN : Hid (Tm now) := ⟨by omega, by omega⟩
  obtain ⟨i3, hi3, hz30, hz31, hz32⟩ := info_parts Try.info3n
  obtain ⟨hn0, hn1⟩ := hn
  obtain ⟨hm0, hm1⟩ := hm
  clear hq hbq
  by_cases h6 : q.length ≤ 6
  · go_enter Try.func8, Try.ntmps8
    go_wp2_with fail
    refine (nothing_any w).mono ?_; rintro x w1 ⟨rfl, hb⟩
    have HB1 := Lib.hid hb
    clear hb
    go_wp2_with fail
    refine (reg_new w1).mono ?_; rintro x w2 ⟨rb, mb, rfl, hr, hb2, hmb, hrb⟩
    have HS2 : Hid (RSt w w2 rb mb 0 (fun _ => none)) := ⟨hr, HB1.out.trans (hb2.mono HB1.out.size), Nat.le_trans HB1.out.size hmb⟩
    clear hr hb2 hmb hrb HB1
    obtain ⟨B2, hB2⟩ : ∃ B, w2.heap.size = B := ⟨_, rfl⟩
    have HBE := Lib.hid hB2
    clear hB2
    go_wp2_with fail
    go_loopw [8, 9] (fun va iv wr => ∃ (i : Nat) (o : List Int), i ≤ q.length ∧ iv = .int .i64 i ∧ o.length ≤ i ∧ Hid (o = lateL q now most i) ∧ Hid (∃ m, Ks (natL i) m ∧ Heard q i m ∧ RSt w wr rb mb i m) ∧ Hid (wr.ownsRow w.heap.size 3 1 va o.length (ivals o))) (fun _ iv _ => q.length - (intOf iv).toNat)
    case atStart => exact ⟨0, [], Nat.zero_le _, rfl, Nat.zero_le _, rfl, ⟨_, ks_nil, Heard.nil q, HS2.out⟩, World.ownsRow_nil _ _ _ _⟩
    case round =>
      obtain ⟨i, o, hi, rfl, hol, HOE, HM, HO⟩ := hrel
      obtain ⟨Av, cv, hv⟩ := own_slice HO.out
      subst hv
      obtain ⟨m, hk, hh, hs⟩ := HM.out
      by_cases hlt : i < q.length
      · obtain ⟨b, o', hA, hbB, q0⟩ := (HQ.out.below hs.bel (Nat.le_refl _)).at (i := i) (u := .int .u8 (q[i] : Int)) (bvals_get q i hlt)
        subst hA
        have hgd : q.getD i 0 = q[i] := by simp [List.getD, hlt]
        have hby := HBQ.out q[i] (List.getElem_mem _)
        have HPUT := Lib.hid hh.put
        have HLS := Lib.hid (lateL_succ q now most i)
        rw [hgd] at HPUT HLS
        have HQI : Hid (∀ W, Below w.heap.size w W → W.cell? ⟨b, o' + i, none⟩ = some (.int .u8 (q[i] : Int))) := fun W hW => by
          obtain ⟨b2, o2, hA2, _, h2⟩ := (HQ.out.below hW (Nat.le_refl _)).at (i := i) (u := .int .u8 (q[i] : Int)) (bvals_get q i hlt)
          injection hA2 with hA2
          injection hA2 with e1 e2
          subst e1 e2
          exact h2
        generalize q[i] = y at *
        have hwy : IntKind.i64.wrap (y : Int) = (y : Int) := IntWalk.i64_in _ (by omega)
        have HKS := Lib.hid hk
        have HRS := Lib.hid hs
        clear hk hs HM hgd hh
        go_wp2_with fail
        refine (open_ok wr rb mb i m (natL i) HRS.out.reg (by omega) HKS.out (i : Int) (y : Int) (wf_in (by omega) (by omega)) (ks_none HKS.out _ (fun hx => by have := natL_lt i _ hx; omega)) (by rw [natL_len]; omega)).mono ?_; rintro x w3 ⟨rfl, r1, r2⟩
        have HS3 := Lib.hid (HRS.out.turn r1 r2)
        have HM3 : Hid (∃ m, Ks (natL (i + 1)) m ∧ Heard q (i + 1) m ∧ RSt w w3 rb mb (i + 1) m) := ⟨_, by rw [natL_succ]; exact HKS.out.last _ _ (natL_lt i), HPUT.out, HS3.out⟩
        obtain ⟨D, hmo, -⟩ := HRS.out.reg.map
        have HO3 : Hid (w3.ownsRow w.heap.size 3 1 (.slice Av o.length cv) o.length (ivals o)) := by
          refine ⟨HO.out.1, ?_⟩
          rcases HO.out.2 with h2 | ⟨g, cap, cur, e1, e2, e3, e4⟩
          · exact Or.inl h2
          · refine Or.inr ⟨g, cap, cur, e1, e2, ?_, e4⟩
            have hne : g ≠ mb := fun e => own_map_ne HO.out hmo (by rw [e1, e]; rfl)
            exact (r2.block g (heap_lt e3) (by simpa using hne)).trans e3
        have q3 := HQI.out w3 HS3.out.bel
        have HLO : Hid (lateL q now most (i + 1) = o ++ (if lateB (y : Int) now most then [(i : Int)] else [])) := by show _ = _; rw [HLS.out, HOE.out]
        have HSZ3 : Hid (w.heap.size ≤ w3.heap.size) := HS3.out.bel.size
        clear r1 r2 q0 hmo HKS HRS HPUT HO HOE HLS HS3
        by_cases hlate : most < now - (y : Int)
        · have hlb : lateB (y : Int) now most = true := decide_eq_true hlate
          have HN : Hid (o ++ [(i : Int)] = lateL q now most (i + 1)) := by show _ = _; rw [HLO.out, if_pos hlb]
          have HSN : Hid (ivals o ++ [.int .i64 (i : Int)] = ivals (o ++ [(i : Int)]) ∧ (o ++ [(i : Int)]).length = o.length + 1) := ⟨ivals_snoc' o (i : Int), by simp⟩
          obtain ⟨m3, hk3, hh3, hs3⟩ := HM3.out
          have HK3 := Lib.hid hk3; have HH3 := Lib.hid hh3; have HS3 := Lib.hid hs3
          clear hk3 hh3 hs3 HM3 hlb
          go_wp2_with (first
            | (at_builtin; refine wpList_append_own _ rfl (.tmp 45) (.tmp 47) 40 rfl w.heap.size 3 i3 (.int .i64 0) 1 8 Try.underlying40 hi3 hz30 hz31 hz32 rfl (by decide) _ _ _ rfl (HO3.out.alloc _) ⟨w3.heap.size, 0, none⟩ 1 1 [.int .i64 (i : Int)] rfl rfl (one_new w3 3 _) (one_cell rfl) (by unfold maxLen; omega) (by omega) (by have := HSZ3.out; simp; omega) ?_; intro v7 w7 hown7 hgrow7 _)
            | fail)
          rw [HSN.out.1] at hown7
          have hal : Below w3.heap.size w3 (w3.alloc (.cells #[.int .i64 (i : Int)] 3)) := (Below.refl _ _).alloc (Nat.le_refl _) _
          have hr4 := HS3.out.call hal
          obtain ⟨D4, hmo4, hD4⟩ := hr4.reg.map
          have hreg7 : RSt w w7 rb mb (i + 1) m3 := by
            obtain ⟨D, hmo, _⟩ := HS3.out.reg.map
            have hne : some mb ≠ (Value.slice Av o.length cv).ownBlock := own_map_ne HO3.out hmo
            have hrow := hr4.reg.row
            have hrn : some rb ≠ (Value.slice Av o.length cv).ownBlock := own_ne (HO3.out.alloc (.cells #[.int .i64 (i : Int)] 3)) hrow (by decide)
            refine ⟨⟨hrow.grown hgrow7 hrn, D4, hmo4.kept hgrow7 hne, fun x => ⟨(hD4 x).1, fun t ht => ?_⟩⟩, hr4.bel.grown hgrow7 (by have := hr4.bel.size; exact this) (fun k hk => ((HO3.out).lt k hk).1), hr4.lo⟩
            obtain ⟨v, ⟨vt, e1, e2⟩, hz⟩ := (hD4 x).2 t ht
            obtain ⟨jj, _, hxx, _, _, htr⟩ := HH3.out x t ht
            refine ⟨v, ⟨vt, e1, ?_⟩, hz⟩
            rw [htr] at e2 ⊢
            obtain ⟨A5, c5, hv5, h05, _⟩ := e2
            exact ⟨A5, c5, hv5, h05, fun h => absurd h (by simp [ivals])⟩
          have HM7 : Hid (∃ m, Ks (natL (i + 1)) m ∧ Heard q (i + 1) m ∧ RSt w w7 rb mb (i + 1) m) := ⟨m3, HK3.out, HH3.out, hreg7⟩
          have HO7 : Hid (w7.ownsRow w.heap.size 3 1 v7 (o ++ [(i : Int)]).length (ivals (o ++ [(i : Int)]))) := by rw [HSN.out.2]; exact hown7
          clear hreg7 hr4 hal hmo4 hD4 hown7 hgrow7
          go_roundw
          case rel => exact ⟨i + 1, o ++ [(i : Int)], by omega, by go_num, by rw [HSN.out.2]; omega, HN, HM7, HO7⟩
          case measure => simp [intOf]; omega
        · have hlb : lateB (y : Int) now most = false := decide_eq_false hlate
          have HN : Hid (o = lateL q now most (i + 1)) := by show _ = _; rw [HLO.out, hlb]; simp
          clear hlb
          go_wp2_with fail
          go_roundw
          case rel => exact ⟨i + 1, o, by omega, by go_num, by omega, HN, HM3, HO3⟩
          case measure => simp [intOf]; omega
      · have hiq : i = q.length := by omega
        have HOL : Hid (o = lateL q now most q.length) := by show _ = _; rw [HOE.out, hiq]
        rw [hiq] at hk hh hs
        have HKS := Lib.hid hk; have HH := Lib.hid hh; have HRS := Lib.hid hs
        clear hk hh hs HM HOE hiq
        have hqi : ¬ (i : Int) < (q.length : Int) := by omega
        have HLE := Lib.hid (late_eq HH.out HKS.out now most)
        have HLL : Hid (o.length ≤ q.length) := by show _ ≤ _; omega
        go_wp2_with fail
        refine (mute_any wr rb mb q.length m (natL q.length) HRS.out.reg HKS.out (by rw [natL_len]; omega) (natL_wf _ (by omega)) now most (HH.out.timed HBQ.out) HTN.out).mono ?_; rintro e w3 ⟨v3, rfl, ho3, hr3, hk3⟩
        rw [HLE.out, ← HOL.out] at ho3 hr3
        have HS3 := Lib.hid (HRS.out.turn hr3 hk3)
        obtain ⟨A3, c3, hv3⟩ := own_slice ho3
        subst hv3
        have HR3 := Lib.hid (Rd.of_own ho3)
        obtain ⟨D, hmo, -⟩ := HRS.out.reg.map
        have HRO : Hid (Rd w3 w3.heap.size (.slice Av o.length cv) (ivals o)) := by
          obtain ⟨es, ck, e1, _⟩ := hmo
          exact rd_map (Rd.of_own HO.out) hk3 e1
        have HK3 := Lib.hid (HKS.out.drop o)
        have HH3 := Lib.hid (HH.out.drop o)
        have HLF : Hid (((natL q.length).filter (fun x => !o.contains x)).length + o.length = (natL q.length).length) := left_len (muteP now most) o (by rw [HOL.out]; exact HLE.out.symm)
        have HLN : Hid (((natL q.length).filter (fun x => !o.contains x)).filter (soB (dropL m o) (muteP now most)) = []) := left_none (muteP now most) o (by rw [HOL.out]; exact HLE.out.symm)
        rw [natL_len] at HLF
        have HWF3 : Hid (Wf ((natL q.length).filter (fun x => !o.contains x))) := fun x hx => natL_wf q.length (by omega) x (List.mem_filter.1 hx).1
        obtain ⟨ks, hks⟩ : ∃ ks, (natL q.length).filter (fun x => !o.contains x) = ks := ⟨_, rfl⟩
        rw [hks] at HK3 HLF HLN HWF3
        clear ho3 hr3 hk3 hmo HRS HKS HH HO hks HLE
        go_wp2_with fail
        refine (ints_any w3 _ _ _ o o HR3.out HRO.out (by have := HLL.out; omega)).mono ?_; rintro e w4 ⟨rfl, n4, hw4⟩
        rw [show decide (o = o) = true from decide_eq_true rfl]
        have HS4 : Hid (RSt w w4 rb mb q.length (dropL m o)) := HS3.out.call (by rw [hw4]; exact Below.drewN (Below.refl _ _) n4)
        clear hw4 HR3 HRO HS3
        go_wp2_with fail
        refine (all_any w4 rb mb _ _ ks HS4.out.reg HK3.out (by have := HLF.out; omega)).mono ?_; rintro e w5 ⟨v5, rfl, ho5, hb5⟩
        obtain ⟨A5, c5, hv5⟩ := own_slice ho5
        subst hv5
        have HS5 := Lib.hid (HS4.out.call hb5)
        clear ho5 hb5 HS4
        have hkl : ((ks.length : Int) == (q.length : Int) - (o.length : Int)) = true := by have := HLF.out; simp; omega
        have hkw : IntKind.i64.wrap ((q.length : Int) - (o.length : Int)) = (q.length : Int) - (o.length : Int) := IntWalk.i64_in _ (by have := HLF.out; omega)
        go_wp2_with fail
        refine (mute_any w5 rb mb _ _ ks HS5.out.reg HK3.out (by have := HLF.out; omega) HWF3.out now most (HH3.out.timed HBQ.out) HTN.out).mono ?_; rintro e w6 ⟨v6, rfl, ho6, hr6, hk6⟩
        rw [HLN.out] at ho6 hr6
        rw [dropL_nil] at hr6
        have HS6 := Lib.hid (HS5.out.turn hr6 hk6)
        obtain ⟨A6, c6, hv6⟩ := own_slice ho6
        subst hv6
        clear ho6 hr6 hk6 HS5
        go_wp2_with fail
        refine (doubt_none w6 rb mb _ _ ks HS6.out.reg HK3.out (by have := HLF.out; omega) HWF3.out now most (HH3.out.timed HBQ.out) HTN.out (doubt_eq HH3.out ks now most)).mono ?_; rintro e w7 ⟨v7, rfl, ho7, hr7, hk7⟩
        have HB7 := Lib.hid (HS6.out.turn hr7 hk7).bel
        obtain ⟨A7, c7, hv7⟩ := own_slice ho7
        subst hv7
        clear ho7 hr7 hk7 HS6
        go_wp2_with fail
        go_ret
        exact ⟨rfl, HB7.out⟩
  · have h7 : 6 < q.length := by omega
    go_enter Try.func8, Try.ntmps8
    go_wp2_with fail
    refine (nothing_any w).mono ?_; rintro e w1 ⟨rfl, hb⟩
    have HB1 := Lib.hid hb
    clear hb
    go_wp2_with fail
    refine (nothing_any w1).mono ?_; rintro e w2 ⟨rfl, hb⟩
    have HB2 : Hid (Below w.heap.size w w2) := HB1.out.trans (hb.mono HB1.out.size)
    clear hb
    go_wp2_with fail
    go_ret
    exact ⟨rfl, HB2.out⟩

end Go.Proofs.Ytifcgkpannlnnaa
