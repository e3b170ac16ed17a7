/- The law OwnFinds. -/
import Derived.Test.YthnjilbfkfekhaaF1
namespace Go.Proofs.Ythnjilbfkfekhaa
open Go.RowKit Fl
set_option maxRecDepth 100000

theorem own_of_ints {w : World} {g base : Nat} {l : List Int} (h : Row w g 3 (ivals l).toArray) (hl : l.length ≤ 20000000) (hb : base ≤ g) :
    w.ownsRow base 3 1 (.slice (some ⟨g, 0, none⟩) l.length l.length) l.length (ivals l) :=
  ⟨by rw [show (ivals l).length = l.length by simp [ivals]]; omega, Or.inr ⟨g, l.length, (ivals l).toArray, rfl, hb, h, Nat.le_refl _, by unfold maxLen; omega, by simp [ivals], by simp [ivals, List.take_of_length_le]⟩⟩

/-- The views that the law makes. -/
def fyO (ids : List Int) (i : Nat) : List Vw := (List.range i).map fun j => (ids.getD j 0, false, [(j : Int)])
theorem fyO_succ (ids : List Int) (i : Nat) : fyO ids (i + 1) = fyO ids i ++ [(ids.getD i 0, false, [(i : Int)])] := by simp [fyO, List.range_succ]
theorem fyO_len (ids : List Int) (i : Nat) : (fyO ids i).length = i := by simp [fyO]
theorem fyO_get (ids : List Int) (i j : Nat) (h : j < (fyO ids i).length) : (fyO ids i)[j] = (ids.getD j 0, false, [(j : Int)]) := by simp [fyO]

/-- Where the first one is. -/
def AtO (ids : List Int) (id : Int) (i : Nat) (at_ : Int) : Prop :=
  (at_ = -1 ∧ ∀ j, j < i → ids.getD j 0 ≠ id) ∨ ∃ a : Nat, a < i ∧ at_ = (a : Int) ∧ ids.getD a 0 = id ∧ ∀ j, j < a → ids.getD j 0 ≠ id
theorem AtO.find {ids : List Int} {id : Int} {i : Nat} {t : Int} (h : AtO ids id i t) : (t = -1 ∧ findV (fyO ids i) id = none) ∨ ∃ a : Nat, t = (a : Int) ∧ a < i ∧ findV (fyO ids i) id = some (id, false, [(a : Int)]) := by
  rcases h with ⟨h1, h2⟩ | ⟨a, ha, h1, h2, h3⟩
  · left
    refine ⟨h1, findV_none fun j hj => ?_⟩
    rw [fyO_get]
    exact h2 j (by rw [fyO_len] at hj; exact hj)
  · right
    refine ⟨a, h1, ha, ?_⟩
    have hal : a < (fyO ids i).length := by rw [fyO_len]; exact ha
    have := findV_at (xs := fyO ids i) (n := id) hal (by rw [fyO_get]; exact h2) (fun j hj hji => by rw [fyO_get]; exact h3 j hji)
    rw [this, fyO_get, h2]

structure FnSt (w : World) (v : Value) (ys : List Vy) (W : World) : Prop where
  oa : W.ownsRow w.heap.size 67 3 v ys.length (vcells (ytri ys))
  sa : ∀ y ∈ ys, W.ownsRow w.heap.size 3 1 y.2 y.1.2.2.length (ivals y.1.2.2)
  bel : Below w.heap.size w W
theorem FnSt.put {w : World} {v v' : Value} {ys : List Vy} {W W' : World} {z0 : Int} {i : Nat} (h : FnSt w v ys W)
    (hown : W'.ownsRow w.heap.size 67 3 v' (ys.length + 1) (vcells (ytri ys) ++ [.int .i64 z0, .bool false, .slice (some ⟨W.heap.size, 0, none⟩) 1 1]))
    (hg : ((W.alloc (.cells #[.int .i64 (i : Int)] 3)).alloc (.cells #[.int .i64 z0, .bool false, .slice (some ⟨W.heap.size, 0, none⟩) 1 1] 67)).grownBy W' v.ownBlock) :
    FnSt w v' (ys ++ [((z0, false, [(i : Int)]), .slice (some ⟨W.heap.size, 0, none⟩) 1 1)]) W' := by
  have hs := h.bel.size
  have hb1 := (Below.refl W.heap.size W).alloc (Nat.le_refl _) (.cells #[.int .i64 (i : Int)] 3)
  have hb2 := hb1.alloc hb1.size (.cells #[.int .i64 z0, .bool false, .slice (some ⟨W.heap.size, 0, none⟩) 1 1] 67)
  have hba := h.bel.trans (hb2.mono hs)
  have hoa := own_below h.oa hb2
  have hnew : ((W.alloc (.cells #[.int .i64 (i : Int)] 3)).alloc (.cells #[.int .i64 z0, .bool false, .slice (some ⟨W.heap.size, 0, none⟩) 1 1] 67)).ownsRow w.heap.size 3 1 (.slice (some ⟨W.heap.size, 0, none⟩) 1 1) 1 (ivals [(i : Int)]) :=
    own_of_ints (l := [(i : Int)]) ((Row.new W 3 #[.int .i64 (i : Int)]).alloc _) (by simp) hs
  have hk : ∀ (v0 : Value) (l : List Int) (n : Nat), ((W.alloc (.cells #[.int .i64 (i : Int)] 3)).alloc (.cells #[.int .i64 z0, .bool false, .slice (some ⟨W.heap.size, 0, none⟩) 1 1] 67)).ownsRow w.heap.size 3 1 v0 n (ivals l) → W'.ownsRow w.heap.size 3 1 v0 n (ivals l) := fun v0 l n hz => hz.kept hg (own_apart3 hz hoa (by decide))
  refine ⟨?_, ?_, hba.grown hg (by have := hba.size; omega) (fun kk hk => (h.oa.lt kk hk).1)⟩
  · rw [← ytri_snoc, List.length_append]; exact hown
  · intro z hz
    rcases List.mem_append.1 hz with e | e
    · exact hk _ _ _ (own_below (h.sa z e) hb2)
    · rw [List.mem_singleton] at e; subst e
      exact hk _ _ _ hnew

set_option maxHeartbeats 8000000 in
theorem lawFinds (w : World) (A : Option Addr) (c : Nat) (ids : List Int) (id : Int) (h : Rd w w.heap.size (.slice A ids.length c) (ivals ids)) (hl : ids.length ≤ 9223372036854775807) :
    Calls Try.prog 8 #[.slice A ids.length c, .int .i64 id] w (RetL true w) := by
  have HI := Lib.hid h
  clear h
  obtain ⟨m, hm⟩ : ∃ m, ids.length = m := ⟨_, rfl⟩
  have HM := Lib.hid hm
  rw [hm] at HI hl ⊢
  clear hm
  obtain ⟨i3, hi3, hz30, hz31, hz32⟩ := info_parts Try.info3n
  obtain ⟨i6, hi6, hz60, hz61, hz62⟩ := info_parts Try.info67n
  by_cases hm20 : m ≤ 20
  · have hmi : ¬ (20 : Int) < (m : Int) := by omega
    go_enter Try.func8, Try.ntmps8
    go_wp2_with fail
    refine (comes_any w).mono ?_; rintro e w1 ⟨rfl, hb1⟩
    have HF0 : Hid (FnSt w (.slice none 0 0) [] w1) := ⟨World.ownsRow_nil _ _ _ _, (fun y hy => by simp at hy), hb1⟩
    clear hb1
    go_wp2_with fail
    go_loopw [5, 6, 7] (fun v t k wr => ∃ (i : Nat) (ys : List Vy) (a : Int), i ≤ m ∧ k = .int .i64 i ∧ t = .int .i64 a ∧ (-1 ≤ a ∧ a < 100) ∧ ys.length = i ∧ Hid (AtO ids id i a ∧ yvs ys = fyO ids i ∧ FnSt w v ys wr)) (fun _ _ k _ => m - (RowKit.intOf k).toNat)
    case atStart => exact ⟨0, [], -1, Nat.zero_le _, rfl, rfl, by omega, rfl, Or.inl ⟨rfl, fun j hj => by omega⟩, rfl, HF0.out⟩
    case round =>
      obtain ⟨i, ys, a, hi, rfl, rfl, ha, hyl, HJ⟩ := hrel
      obtain ⟨Aa, ca, hva⟩ := own_slice HJ.out.2.2.oa
      subst hva
      clear HF0
      rw [hyl]
      have HYL := Lib.hid hyl
      by_cases hlt : i < m
      · have hli : (i : Int) < (m : Int) := by omega
        have him : i < ids.length := by have := HM.out; omega
        obtain ⟨b, o, hA, hb, q0⟩ := (HI.out.below HJ.out.2.2.bel (Nat.le_refl _)).at (i := i) (u := .int .i64 (ids.getD i 0)) (by simp [ivals, him, List.getD])
        subst hA
        have HRQ : Hid (∀ V, Below w.heap.size w V → V.cell? ⟨b, o + i, none⟩ = some (.int .i64 (ids.getD i 0))) := fun V hV => (hV.cell (p := ⟨b, o + i, none⟩) hb).trans ((HJ.out.2.2.bel.cell (p := ⟨b, o + i, none⟩) hb).symm.trans q0)
        have HAT : Hid (AtO ids id (i + 1) (if ids.getD i 0 = id ∧ a < 0 then (i : Int) else a)) := by
          rcases HJ.out.1 with ⟨h1, h2⟩ | ⟨p, hp, h1, h2, h3⟩
          · by_cases e : ids.getD i 0 = id
            · show AtO _ _ _ _
              rw [if_pos ⟨e, by omega⟩]
              exact Or.inr ⟨i, by omega, rfl, e, h2⟩
            · show AtO _ _ _ _
              rw [if_neg (fun x => e x.1)]
              refine Or.inl ⟨h1, fun j hj => ?_⟩
              rcases Nat.lt_or_ge j i with c | c
              · exact h2 j c
              · obtain rfl : j = i := by omega
                exact e
          · show AtO _ _ _ _
            rw [if_neg (fun x => by have := x.2; omega)]
            exact Or.inr ⟨p, by omega, h1, h2, h3⟩
        have hfy : fyO ids (i + 1) = fyO ids i ++ [(ids.getD i 0, false, [(i : Int)])] := fyO_succ ids i
        have hpt := fun v' W' => FnSt.put (v' := v') (W' := W') (z0 := ids.getD i 0) (i := i) HJ.out.2.2
        have HPT := Lib.hid hpt
        have HFY : Hid (yvs ys ++ [(ids.getD i 0, false, [(i : Int)])] = fyO ids (i + 1)) := by show _ = _; rw [hfy, HJ.out.2.1]
        have HOA := Lib.hid HJ.out.2.2.oa
        have hsz := HJ.out.2.2.bel.size
        rw [hyl] at HPT HOA
        generalize ids.getD i 0 = z at *
        clear HJ hpt hfy
        have hb1 := (Below.refl wr.heap.size wr).alloc (Nat.le_refl _) (.cells #[.int .i64 (i : Int)] 3)
        have hb2 := hb1.alloc hb1.size (.cells #[.int .i64 z, .bool false, .slice (some ⟨wr.heap.size, 0, none⟩) 1 1] 67)
        have HOB := Lib.hid (own_below HOA.out hb2)
        have HTN := Lib.hid (three_new (wr.alloc (.cells #[.int .i64 (i : Int)] 3)) 67 (.int .i64 z) (.bool false) (.slice (some ⟨wr.heap.size, 0, none⟩) 1 1))
        rw [World.size_alloc] at HTN
        clear hb1 hb2 HOA
        go_upto_region 9 with (at_builtin; refine wpList_append_own_at _ rfl (.tmp 24) (.tmp 32) 41 rfl w.heap.size 67 i6 (.agg #[.int .i64 0, .bool false, .slice none 0 0]) 3 40 Try.underlying41 hi6 hz60 hz61 hz62 rfl (by decide) _ _ _ rfl HOB.out ⟨wr.heap.size + 1, 0, none⟩ 1 1 [.int .i64 z, .bool false, .slice (some ⟨wr.heap.size, 0, none⟩) 1 1] rfl rfl HTN.out (three_cell _ _ _ _ _) (by unfold maxLen; omega) (by omega) (by simp; omega) ?_)
        intro v7 w7 hown7 hgrow7 _ _
        have HS7 := Lib.hid (HPT.out _ _ hown7 hgrow7)
        clear hown7 hgrow7 HPT HOB HTN q0
        have q7 := HRQ.out w7 HS7.out.bel
        go_upto_region 9 with (fail)
        by_cases hz : z = id
        · have hz2 : (z == id) = true := by simpa using hz
          by_cases ha0 : a < 0
          · rw [if_pos ⟨hz, ha0⟩] at HAT
            clear hz
            go_wp2_with fail
            go_roundw
            case rel => exact ⟨i + 1, ys ++ [((z, false, [(i : Int)]), .slice (some ⟨wr.heap.size, 0, none⟩) 1 1)], (i : Int), by omega, by go_num, rfl, by omega, by simp [HYL.out], HAT.out, by rw [← HFY.out]; simp [yvs], HS7.out⟩
            case measure => simp [RowKit.intOf]; omega
          · rw [if_neg (fun x => ha0 x.2)] at HAT
            clear hz
            go_wp2_with fail
            go_roundw
            case rel => exact ⟨i + 1, ys ++ [((z, false, [(i : Int)]), .slice (some ⟨wr.heap.size, 0, none⟩) 1 1)], a, by omega, by go_num, rfl, by omega, by simp [HYL.out], HAT.out, by rw [← HFY.out]; simp [yvs], HS7.out⟩
            case measure => simp [RowKit.intOf]; omega
        · have hz2 : (z == id) = false := by simpa using hz
          rw [if_neg (fun x => hz x.1)] at HAT
          clear hz
          go_wp2_with fail
          go_roundw
          case rel => exact ⟨i + 1, ys ++ [((z, false, [(i : Int)]), .slice (some ⟨wr.heap.size, 0, none⟩) 1 1)], a, by omega, by go_num, rfl, by omega, by simp [HYL.out], HAT.out, by rw [← HFY.out]; simp [yvs], HS7.out⟩
          case measure => simp [RowKit.intOf]; omega
      · have hli : ¬ (i : Int) < (m : Int) := by omega
        have hv := Vws.of_own HJ.out.2.2.oa HJ.out.2.2.sa
        rw [HJ.out.2.1, hyl] at hv
        have hff := findC_any wr _ (fyO ids i) id hv (by rw [fyO_len]; omega) (by
          intro p hp
          obtain ⟨j, hj, rfl⟩ := List.getElem_of_mem hp
          rw [fyO_get]; simp)
        have HFF := Lib.hid hff
        have HBW := Lib.hid HJ.out.2.2.bel
        have HAF := Lib.hid HJ.out.1.find
        clear hv hff HJ
        go_wp2_with fail
        refine HFF.out.mono ?_; rintro e w2 ⟨A5, c5, rfl, h5, hb2⟩
        rcases HAF.out with ⟨ha1, hfn⟩ | ⟨p, ha1, hpi, hfn⟩
        · rw [hfn] at h5 ⊢
          subst ha1
          have hb3 := (Below.refl w2.heap.size w2).alloc (Nat.le_refl _) (.cells #[.int .i64 0, .bool false, .slice A5 0 c5] 67)
          have HB3 : Hid (Below w.heap.size w (w2.alloc (.cells #[.int .i64 0, .bool false, .slice A5 0 c5] 67))) := HBW.out.trans ((hb2.trans (hb3.mono hb2.size)).mono HBW.out.size)
          have hr := Row.new w2 67 #[.int .i64 0, .bool false, .slice A5 0 c5]
          have m0 := hr.cell 0; have m1 := hr.cell 1; have m2 := hr.cell 2
          simp only [List.getElem?_toArray, List.getElem?_cons_zero, List.getElem?_cons_succ] at m0 m1 m2
          simp only [Option.getD_none, noV, List.length_nil, Option.isSome_none] at h5 ⊢
          clear hr hb2 hb3 h5 HBW HFF hfn
          go_upto_region 12 with (fail)
          generalize w2.alloc (.cells #[.int .i64 0, .bool false, .slice A5 0 c5] 67) = w3 at *
          have hff : (false == false) = true := rfl
          have h00 : ((0 : Int) == 0) = true := rfl
          have h0n : ¬ (0 : Int) ≤ -1 := by omega
          go_wp2_with fail
          go_ret
          exact ⟨rfl, HB3.out⟩
        · rw [hfn] at h5 ⊢
          subst ha1
          have hb3 := (Below.refl w2.heap.size w2).alloc (Nat.le_refl _) (.cells #[.int .i64 id, .bool false, .slice A5 1 c5] 67)
          have HB3 : Hid (Below w.heap.size w (w2.alloc (.cells #[.int .i64 id, .bool false, .slice A5 1 c5] 67))) := HBW.out.trans ((hb2.trans (hb3.mono hb2.size)).mono HBW.out.size)
          have hr := Row.new w2 67 #[.int .i64 id, .bool false, .slice A5 1 c5]
          have m0 := hr.cell 0; have m1 := hr.cell 1; have m2 := hr.cell 2
          simp only [List.getElem?_toArray, List.getElem?_cons_zero, List.getElem?_cons_succ] at m0 m1 m2
          simp only [Option.getD_some, List.length_cons, List.length_nil, Option.isSome_some, Nat.zero_add] at h5 ⊢
          have hb4 := hb3.alloc hb3.size (.cells #[.int .i64 (p : Int)] 3)
          have HH := Lib.hid (ints_lit ((w2.alloc (.cells #[.int .i64 id, .bool false, .slice A5 1 c5] 67)).alloc (.cells #[.int .i64 (p : Int)] 3)) _ _ [(p : Int)] (h5.up hb4) (Rd.lit (w2.alloc (.cells #[.int .i64 id, .bool false, .slice A5 1 c5] 67)) [(p : Int)] #[.int .i64 (p : Int)] 1 rfl rfl) (by simp))
          have HB4 : Hid (Below w.heap.size w ((w2.alloc (.cells #[.int .i64 id, .bool false, .slice A5 1 c5] 67)).alloc (.cells #[.int .i64 (p : Int)] 3))) := HB3.out.alloc HB3.out.size _
          clear hr hb2 hb3 hb4 h5 HBW HFF hfn HB3
          go_upto_region 12 with (fail)
          generalize w2.alloc (.cells #[.int .i64 id, .bool false, .slice A5 1 c5] 67) = w3 at *
          have htt : (true == true) = true := rfl
          have hp0 : (0 : Int) ≤ (p : Int) := by omega
          go_wp2_with fail
          refine HH.out.mono ?_; rintro e w4 ⟨rfl, n4, rfl⟩
          have HB5 := Lib.hid (Below.drewN HB4.out n4)
          clear HB4 HH
          go_wp2_with fail
          go_ret
          exact ⟨rfl, HB5.out⟩
  · have hmi : (20 : Int) < (m : Int) := by omega
    go_enter Try.func8, Try.ntmps8
    go_wp2_with fail
    refine (comes_any w).mono ?_; rintro e w1 ⟨rfl, hb1⟩
    have HB1 := Lib.hid hb1
    clear hb1
    go_wp2_with fail
    refine (comes_any w1).mono ?_; rintro e w2 ⟨rfl, hb2⟩
    have HB2 := Lib.hid (HB1.out.trans (hb2.mono HB1.out.size))
    clear hb2
    go_wp2_with fail
    go_ret
    exact ⟨rfl, HB2.out⟩
end Go.Proofs.Ythnjilbfkfekhaa
