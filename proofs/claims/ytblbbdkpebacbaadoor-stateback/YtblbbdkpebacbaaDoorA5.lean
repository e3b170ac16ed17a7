/- Contract of the document: what each section is. -/
import Derived.Test.YtblbbdkpebacbaaDoorA4
namespace Go.Proofs.YtblbbdkpebacbaaDoor
open Go.RowKit Fl
set_option maxRecDepth 100000

def ofTo (f : Nat → Nat) (i : Nat) : List Nat := (List.range i).map f
theorem ofTo_len (f : Nat → Nat) (i : Nat) : (ofTo f i).length = i := by simp [ofTo]
theorem ofTo_succ (f : Nat → Nat) (i : Nat) : ofTo f (i + 1) = ofTo f i ++ [f i] := by simp [ofTo, List.range_succ]
theorem anyTo_succ (ps : List Vw) (s : Int) (k : Nat) (h : k < ps.length) : anyV (ps.take (k + 1)) s = (anyV (ps.take k) s || ps[k].2.2.contains s) := by
  unfold anyV; rw [List.take_succ_eq_append_getElem h, List.any_append]; simp

theorem byO_empty (xs : List Vw) (s : Int) : byO xs s (-2) = 0 := by unfold byO; rw [if_pos rfl]
theorem byO_unk (xs : List Vw) (s : Int) : byO xs s (-1) = (if anyV xs s = true then 2 else 3) := by unfold byO; rw [if_neg (by decide), if_neg (by decide)]
theorem byO_train {xs : List Vw} {s who : Int} (h : 0 ≤ who) : byO xs s who = (if inV xs who s = true then 1 else 0) := by unfold byO; rw [if_neg (by omega), if_pos h]

/-- What the document's Of keeps. -/
structure RfSt (w : World) (n0 : Nat) (cl : Array Value) (v : Value) (i : Nat) (q : List Nat) (W : World) : Prop where
  own : W.ownsRow w.heap.size 5 1 v i (bvals q)
  bel : Below w.heap.size w W
  row : Row W n0 39 cl
theorem RfSt.call {w : World} {n0 : Nat} {cl : Array Value} {v : Value} {i : Nat} {q : List Nat} {W W' : World} (h : RfSt w n0 cl v i q W) (hb : Below W.heap.size W W') : RfSt w n0 cl v i q W' :=
  ⟨own_below h.own hb, h.bel.trans (hb.mono h.bel.size), Below.row hb h.row h.row.lt⟩
theorem RfSt.put {w : World} {n0 : Nat} {cl : Array Value} {v v' : Value} {i : Nat} {f : Nat → Nat} {W W' : World} {z : Nat} (h : RfSt w n0 cl v i (ofTo f i) W) (hz : f i = z)
    (hown : W'.ownsRow w.heap.size 5 1 v' (i + 1) (bvals (ofTo f i) ++ [.int .u8 (z : Int)])) (hg : (W.alloc (.cells #[.int .u8 (z : Int)] 5)).grownBy W' v.ownBlock) : RfSt w n0 cl v' (i + 1) (ofTo f (i + 1)) W' := by
  have hs := h.bel.size
  have hba : Below w.heap.size w (W.alloc (.cells #[.int .u8 (z : Int)] 5)) := h.bel.alloc hs _
  refine ⟨?_, hba.grown hg (by have := hba.size; omega) (fun kk hk => (h.own.lt kk hk).1), (h.row.alloc _).grown hg (own_ne h.own h.row (by decide))⟩
  rw [ofTo_succ, hz, ← bvals_append]
  exact hown

set_option maxHeartbeats 8000000 in
theorem refOf_any (w : World) (v vo vv : Value) (L : Lay) (own : List Int) (ps : List Vw) (hlay : LayV w w.heap.size v L) (hL : Fits L) (ho : Rd w w.heap.size vo (ivals own)) (hol : own.length = L.parts.length) (hok : OkO own) (hv : Vws w w.heap.size vv ps) (hps : OkV ps) :
    Calls Tryd.prog 18 #[v, vo, vv] w (RetBytes (ofO L own ps) w) := by
  obtain ⟨A0, k0, c0, A1, k1, c1, A2, k2, c2, A3, k3, c3, A4, k4, c4, t0, t1, t2, t3, t4, rfl, -, hk1, -⟩ := hlay.lens
  have hba := (Below.refl w.heap.size w).alloc (Nat.le_refl _) (.cells #[.slice A0 k0 c0, .slice A1 k1 c1, .slice A2 k2 c2, .slice A3 k3 c3, .slice A4 k4 c4, .int .i64 t0, .int .i64 t1, .int .i64 t2, .int .i64 t3, .int .i64 t4] 39)
  obtain ⟨f, hf⟩ : ∃ f : Nat → Nat, f = fun (i : Nat) => stO L own ps (i : Int) := ⟨_, rfl⟩
  have HFF := Lib.hid hf
  have HS0 : Hid (RfSt w w.heap.size #[.slice A0 k0 c0, .slice A1 k1 c1, .slice A2 k2 c2, .slice A3 k3 c3, .slice A4 k4 c4, .int .i64 t0, .int .i64 t1, .int .i64 t2, .int .i64 t3, .int .i64 t4] (.slice none 0 0) 0 (ofTo f 0) (w.alloc (.cells #[.slice A0 k0 c0, .slice A1 k1 c1, .slice A2 k2 c2, .slice A3 k3 c3, .slice A4 k4 c4, .int .i64 t0, .int .i64 t1, .int .i64 t2, .int .i64 t3, .int .i64 t4] 39))) := ⟨World.ownsRow_nil _ _ _ _, hba, Row.new w 39 _⟩
  have HL := Lib.hid hlay
  have HO := Lib.hid ho
  have HV := Lib.hid hv
  have HP := Lib.hid hps
  have HOK := Lib.hid hok
  have HOL := Lib.hid hol
  have HK : Hid (L.secs.length = k1 ∧ k1 ≤ 100) := ⟨hk1, by rw [← hk1]; exact hL.s⟩
  have HF := Lib.hid hL
  obtain ⟨Ao, co, rfl, -⟩ := ho
  obtain ⟨Av, cv, vs, rfl, -⟩ := hv
  have hil : (ivals own).length = own.length := by simp [ivals]
  rw [hil] at HO ⊢
  obtain ⟨no, hno⟩ : ∃ n, own.length = n := ⟨_, rfl⟩
  obtain ⟨nv, hnv⟩ : ∃ n, ps.length = n := ⟨_, rfl⟩
  have HNO := Lib.hid hno
  have HNV := Lib.hid hnv
  rw [hno] at HO ⊢
  rw [hnv] at HV ⊢
  have hv100 : nv ≤ 100 := by rw [← hnv]; exact hps.len
  obtain ⟨i5, hi5, hz50, hz51, hz52⟩ := info_parts Tryd.info5
  clear hba hlay hps hok hol hk1 hil hL hno hnv hf
  go_enter Tryd.func18, Tryd.ntmps18
  go_upto_region 1 with (fail)
  obtain ⟨n0, hn0⟩ : ∃ n, n = w.heap.size := ⟨_, rfl⟩
  have HS : Hid (RfSt w n0 #[.slice A0 k0 c0, .slice A1 k1 c1, .slice A2 k2 c2, .slice A3 k3 c3, .slice A4 k4 c4, .int .i64 t0, .int .i64 t1, .int .i64 t2, .int .i64 t3, .int .i64 t4] (.slice none 0 0) 0 (ofTo f 0) (w.alloc (.cells #[.slice A0 k0 c0, .slice A1 k1 c1, .slice A2 k2 c2, .slice A3 k3 c3, .slice A4 k4 c4, .int .i64 t0, .int .i64 t1, .int .i64 t2, .int .i64 t3, .int .i64 t4] 39))) := by rw [hn0]; exact HS0.out
  rw [← hn0]
  clear hn0 HS0
  generalize w.alloc (.cells #[.slice A0 k0 c0, .slice A1 k1 c1, .slice A2 k2 c2, .slice A3 k3 c3, .slice A4 k4 c4, .int .i64 t0, .int .i64 t1, .int .i64 t2, .int .i64 t3, .int .i64 t4] 39) = W0 at *
  go_wp2_with fail
  go_loopw [7, 8] (fun v9 k wr => ∃ i : Nat, i ≤ k1 ∧ k = .int .i64 i ∧ Hid (RfSt w n0 #[.slice A0 k0 c0, .slice A1 k1 c1, .slice A2 k2 c2, .slice A3 k3 c3, .slice A4 k4 c4, .int .i64 t0, .int .i64 t1, .int .i64 t2, .int .i64 t3, .int .i64 t4] v9 i (ofTo f i) wr)) (fun _ k _ => k1 - (intOf k).toNat)
  case atStart => exact ⟨0, Nat.zero_le _, rfl, HS.out⟩
  case round =>
    obtain ⟨i, hi, rfl, HJ⟩ := hrel
    obtain ⟨A9, c9, hv9⟩ := own_slice HJ.out.own
    subst hv9
    clear HS
    have f0 := HJ.out.row.cell 0; have f1 := HJ.out.row.cell 1; have f2 := HJ.out.row.cell 2; have f3 := HJ.out.row.cell 3; have f4 := HJ.out.row.cell 4; have f5 := HJ.out.row.cell 5; have f6 := HJ.out.row.cell 6; have f7 := HJ.out.row.cell 7; have f8 := HJ.out.row.cell 8; have f9 := HJ.out.row.cell 9
    simp only [List.getElem?_toArray, List.getElem?_cons_zero, List.getElem?_cons_succ] at f0 f1 f2 f3 f4 f5 f6 f7 f8 f9
    by_cases hlt : i < k1
    · have hli : (i : Int) < (k1 : Int) := by omega
      have hk100 := HK.out.2
      go_upto_region 5 with (fail)
      go_upto_region 7 with (refine (refPart_any wr _ _ L (i : Int) (HL.out.up HJ.out.bel) (Nat.le_refl _) HF.out).mono ?_; rintro e wa ⟨rfl, hba⟩)
      have HA := Lib.hid (HJ.out.call hba)
      have HFI : Hid (f i = byO ps (i : Int) (whoS L own (i : Int))) := by rw [HFF.out]; rfl
      clear hba HJ f0 f1 f2 f3 f4 f5 f6 f7 f8 f9
      by_cases hp : 0 ≤ partL L.parts (i : Int)
      · have hpl := partL_small L.parts (i : Int)
        have hwho : whoS L own (i : Int) = own.getD (partL L.parts (i : Int)).toNat 0 := by unfold whoS; rw [if_pos hp]
        rw [hwho] at HFI
        obtain ⟨p, hpp⟩ := Int.eq_ofNat_of_zero_le hp
        rw [hpp] at hpl HFI ⊢
        rw [Int.toNat_natCast] at HFI
        have hpn : p < own.length := by have := HOL.out; omega
        have hpk : p < no := by have := HNO.out; omega
        obtain ⟨bo, oo, hAo, hbo, qo⟩ := (HO.out.below HA.out.bel (Nat.le_refl _)).at (i := p) (u := .int .i64 (own.getD p 0)) (by simp [ivals, hpn, List.getD])
        subst hAo
        have hwk := HOK.out.getD p
        clear hwho hpp hpl hp
        generalize own.getD p 0 = who at *
        by_cases h1 : who = -2
        · subst h1
          rw [byO_empty] at HFI
          have HNX : Hid (∀ (v' : Value) (W' : World), W'.ownsRow w.heap.size 5 1 v' (i + 1) (bvals (ofTo f i) ++ [.int .u8 (0)]) → (wa.alloc (.cells #[.int .u8 (0)] 5)).grownBy W' (Value.slice A9 i c9).ownBlock → RfSt w n0 #[.slice A0 k0 c0, .slice A1 k1 c1, .slice A2 k2 c2, .slice A3 k3 c3, .slice A4 k4 c4, .int .i64 t0, .int .i64 t1, .int .i64 t2, .int .i64 t3, .int .i64 t4] v' (i + 1) (ofTo f (i + 1)) W') := fun v' W' h1 h2 => HA.out.put HFI.out h1 h2
          have HOW := Lib.hid HA.out.own
          have hsz := HA.out.bel.size
          clear HFI HA
          go_wp2_with (at_builtin; refine wpList_append_own_at _ rfl (.tmp 58) (.tmp 60) 26 rfl w.heap.size 5 i5 (.int .u8 0) 1 1 Tryd.underlying26 hi5 hz50 hz51 hz52 rfl (by decide) _ _ _ rfl (HOW.out.alloc _) ⟨wa.heap.size, 0, none⟩ 1 1 [.int .u8 (0)] rfl rfl (one_new wa 5 _) (one_cell rfl) (by unfold maxLen; omega) (by omega) (by simp; omega) ?_)
          intro v7 w7 hown7 hgrow7 _ _
          have HNY := Lib.hid (HNX.out _ _ hown7 hgrow7)
          clear hown7 hgrow7
          go_wp2_with fail
          go_roundw
          case rel => exact ⟨i + 1, by omega, by go_num, HNY.out⟩
          case measure => simp [intOf]; omega
        · by_cases h2 : who = -1
          · subst h2
            rw [byO_unk] at HFI
            go_wp2_with fail
            go_loopw [11, 14] (fun v11 v14 wr => ∃ (k z : Nat), k ≤ nv ∧ v14 = .int .i64 k ∧ v11 = .int .u8 (z : Int) ∧ Hid (z = (if anyV (ps.take k) (i : Int) = true then 2 else 3) ∧ wr = wa)) (fun _ v14 _ => nv - (intOf v14).toNat)
            case atStart => exact ⟨0, 3, Nat.zero_le _, rfl, rfl, by simp [anyV], rfl⟩
            case round =>
              obtain ⟨k, z, hk, rfl, rfl, HZ⟩ := hrel
              obtain ⟨hz, hwr⟩ := HZ.out
              have HZZ := Lib.hid hz
              clear hz HZ
              subst hwr
              by_cases hkl : k < nv
              · have hki : (k : Int) < (nv : Int) := by omega
                have hkp : k < ps.length := by have := HNV.out; omega
                have hv2 := (HV.out.up HA.out.bel)
                obtain ⟨b, o, A1', c1', hAv, hb, e0, e1, e2, hsp⟩ := hv2.at k hkp
                subst hAv
                have HSP := Lib.hid (refHas_any _ _ _ ps[k].2.2 (i : Int) hsp (by have := (HP.out.span _ (List.getElem_mem hkp)).1; omega))
                have HQ := Lib.hid (anyTo_succ ps (i : Int) k hkp)
                generalize ps[k].2.2.contains (i : Int) = q at *
                generalize ps[k].2.2.length = sl at *
                clear hsp hv2 e0 e1
                cases q with
                | true =>
                  have HZ2 : Hid (2 = (if anyV (ps.take (k + 1)) (i : Int) = true then 2 else 3)) := by show _ = _; rw [HQ.out]; simp
                  go_wp2_with fail
                  refine HSP.out.mono ?_; rintro e wh ⟨rfl, rfl⟩
                  go_wp2_with fail
                  go_roundw
                  case rel => exact ⟨k + 1, 2, by omega, by go_num, rfl, HZ2.out, (by first | rfl | trivial)⟩
                  case measure => simp [intOf]; omega
                | false =>
                  have HZ2 : Hid (z = (if anyV (ps.take (k + 1)) (i : Int) = true then 2 else 3)) := by show _ = _; rw [HQ.out, Bool.or_false]; exact HZZ.out
                  go_wp2_with fail
                  refine HSP.out.mono ?_; rintro e wh ⟨rfl, rfl⟩
                  go_wp2_with fail
                  go_roundw
                  case rel => exact ⟨k + 1, z, by omega, by go_num, rfl, HZ2.out, (by first | rfl | trivial)⟩
                  case measure => simp [intOf]; omega
              · have hkn : k = nv := by omega
                subst hkn
                have hki : ¬ (k : Int) < (k : Int) := by omega
                have hzz := HZZ.out
                rw [← HNV.out, List.take_length] at hzz
                rw [← hzz] at HFI
                clear hzz HZZ
                have HNX : Hid (∀ (v' : Value) (W' : World), W'.ownsRow w.heap.size 5 1 v' (i + 1) (bvals (ofTo f i) ++ [.int .u8 (z : Int)]) → (wr.alloc (.cells #[.int .u8 (z : Int)] 5)).grownBy W' (Value.slice A9 i c9).ownBlock → RfSt w n0 #[.slice A0 k0 c0, .slice A1 k1 c1, .slice A2 k2 c2, .slice A3 k3 c3, .slice A4 k4 c4, .int .i64 t0, .int .i64 t1, .int .i64 t2, .int .i64 t3, .int .i64 t4] v' (i + 1) (ofTo f (i + 1)) W') := fun v' W' h1 h2 => HA.out.put HFI.out h1 h2
                have HOW := Lib.hid HA.out.own
                have hsz := HA.out.bel.size
                clear HFI HA
                go_wp2_with (at_builtin; refine wpList_append_own_at _ rfl (.tmp 58) (.tmp 60) 26 rfl w.heap.size 5 i5 (.int .u8 0) 1 1 Tryd.underlying26 hi5 hz50 hz51 hz52 rfl (by decide) _ _ _ rfl (HOW.out.alloc _) ⟨wr.heap.size, 0, none⟩ 1 1 [.int .u8 (z : Int)] rfl rfl (one_new wr 5 _) (one_cell rfl) (by unfold maxLen; omega) (by omega) (by simp; omega) ?_)
                intro v7 w7 hown7 hgrow7 _ _
                have HNY := Lib.hid (HNX.out _ _ hown7 hgrow7)
                clear hown7 hgrow7
                go_wp2_with fail
                go_roundw
                case rel => exact ⟨i + 1, by omega, by go_num, HNY.out⟩
                case measure => simp [intOf]; omega
          · have h3 : 0 ≤ who := by omega
            have h4 : ¬ who = -1 := h2
            have h5 : (who == -1) = false := by simpa using h2
            rw [byO_train h3, inV_getD] at HFI
            have hln : ((findV ps who).getD noV).2.2.length ≤ 1000 := by
              cases e : findV ps who with
              | none => simp [noV]
              | some z => exact (HP.out.span z (List.mem_of_find?_eq_some e)).1
            have hf := refFind_any wa wa.heap.size (.slice Av nv cv) ps who (HV.out.up HA.out.bel) (Nat.le_refl _) HP.out.len
            unfold RetFind at hf
            generalize (findV ps who).isSome = z at *
            generalize (findV ps who).getD noV = y at *
            obtain ⟨y0, y1, y2⟩ := y
            simp only at hf hln HFI
            have HFD := Lib.hid hf
            have HLN := Lib.hid hln
            obtain ⟨q, hq⟩ : ∃ q, y2.contains (i : Int) = q := ⟨_, rfl⟩
            have HQ := Lib.hid hq
            rw [hq] at HFI
            clear hf hln hq
            cases q with
            | true =>
              go_wp2_with fail
              refine HFD.out.mono ?_; rintro e wb ⟨A5, c5, rfl, h5', hb⟩
              have h6 := (Below.refl wb.heap.size wb).alloc (Nat.le_refl _) (.cells #[.int .i64 y0, .bool y1, .slice A5 y2.length c5] 53)
              have HB := Lib.hid ((HA.out.call hb).call h6)
              have HC := Lib.hid (refHas_any _ _ _ y2 (i : Int) ((h5'.mono hb.size (fun _ _ => rfl)).up h6) (by have := HLN.out; omega))
              have hr53 := Row.new wb 53 #[.int .i64 y0, .bool y1, .slice A5 y2.length c5]
              have HR53 := Lib.hid hr53
              rw [HQ.out] at HC
              clear hb h5' h6 hr53
              obtain ⟨yl, hyl⟩ : ∃ n, y2.length = n := ⟨_, rfl⟩
              rw [hyl] at HC HB HR53 ⊢
              clear hyl HA
              go_upto_region 12 with (fail)
              obtain ⟨nb, hnb⟩ : ∃ n, n = wb.heap.size := ⟨_, rfl⟩
              rw [← hnb] at HR53 ⊢
              clear hnb
              generalize wb.alloc (.cells #[.int .i64 y0, .bool y1, .slice A5 yl c5] 53) = wc at *
              have f2 := HR53.out.cell 2
              simp only [List.getElem?_toArray, List.getElem?_cons_zero, List.getElem?_cons_succ] at f2
              go_wp2_with fail
              refine HC.out.mono ?_; rintro e wd ⟨rfl, rfl⟩
              clear f2
              have HNX : Hid (∀ (v' : Value) (W' : World), W'.ownsRow w.heap.size 5 1 v' (i + 1) (bvals (ofTo f i) ++ [.int .u8 (1)]) → (wc.alloc (.cells #[.int .u8 (1)] 5)).grownBy W' (Value.slice A9 i c9).ownBlock → RfSt w n0 #[.slice A0 k0 c0, .slice A1 k1 c1, .slice A2 k2 c2, .slice A3 k3 c3, .slice A4 k4 c4, .int .i64 t0, .int .i64 t1, .int .i64 t2, .int .i64 t3, .int .i64 t4] v' (i + 1) (ofTo f (i + 1)) W') := fun v' W' h1 h2 => HB.out.put HFI.out h1 h2
              have HOW := Lib.hid HB.out.own
              have hsz := HB.out.bel.size
              clear HFI HB
              go_wp2_with (at_builtin; refine wpList_append_own_at _ rfl (.tmp 58) (.tmp 60) 26 rfl w.heap.size 5 i5 (.int .u8 0) 1 1 Tryd.underlying26 hi5 hz50 hz51 hz52 rfl (by decide) _ _ _ rfl (HOW.out.alloc _) ⟨wc.heap.size, 0, none⟩ 1 1 [.int .u8 (1)] rfl rfl (one_new wc 5 _) (one_cell rfl) (by unfold maxLen; omega) (by omega) (by simp; omega) ?_)
              intro v7 w7 hown7 hgrow7 _ _
              have HNY := Lib.hid (HNX.out _ _ hown7 hgrow7)
              clear hown7 hgrow7
              go_wp2_with fail
              go_roundw
              case rel => exact ⟨i + 1, by omega, by go_num, HNY.out⟩
              case measure => simp [intOf]; omega
            | false =>
              go_wp2_with fail
              refine HFD.out.mono ?_; rintro e wb ⟨A5, c5, rfl, h5', hb⟩
              have h6 := (Below.refl wb.heap.size wb).alloc (Nat.le_refl _) (.cells #[.int .i64 y0, .bool y1, .slice A5 y2.length c5] 53)
              have HB := Lib.hid ((HA.out.call hb).call h6)
              have HC := Lib.hid (refHas_any _ _ _ y2 (i : Int) ((h5'.mono hb.size (fun _ _ => rfl)).up h6) (by have := HLN.out; omega))
              have hr53 := Row.new wb 53 #[.int .i64 y0, .bool y1, .slice A5 y2.length c5]
              have HR53 := Lib.hid hr53
              rw [HQ.out] at HC
              clear hb h5' h6 hr53
              obtain ⟨yl, hyl⟩ : ∃ n, y2.length = n := ⟨_, rfl⟩
              rw [hyl] at HC HB HR53 ⊢
              clear hyl HA
              go_upto_region 12 with (fail)
              obtain ⟨nb, hnb⟩ : ∃ n, n = wb.heap.size := ⟨_, rfl⟩
              rw [← hnb] at HR53 ⊢
              clear hnb
              generalize wb.alloc (.cells #[.int .i64 y0, .bool y1, .slice A5 yl c5] 53) = wc at *
              have f2 := HR53.out.cell 2
              simp only [List.getElem?_toArray, List.getElem?_cons_zero, List.getElem?_cons_succ] at f2
              go_wp2_with fail
              refine HC.out.mono ?_; rintro e wd ⟨rfl, rfl⟩
              clear f2
              have HNX : Hid (∀ (v' : Value) (W' : World), W'.ownsRow w.heap.size 5 1 v' (i + 1) (bvals (ofTo f i) ++ [.int .u8 (0)]) → (wc.alloc (.cells #[.int .u8 (0)] 5)).grownBy W' (Value.slice A9 i c9).ownBlock → RfSt w n0 #[.slice A0 k0 c0, .slice A1 k1 c1, .slice A2 k2 c2, .slice A3 k3 c3, .slice A4 k4 c4, .int .i64 t0, .int .i64 t1, .int .i64 t2, .int .i64 t3, .int .i64 t4] v' (i + 1) (ofTo f (i + 1)) W') := fun v' W' h1 h2 => HB.out.put HFI.out h1 h2
              have HOW := Lib.hid HB.out.own
              have hsz := HB.out.bel.size
              clear HFI HB
              go_wp2_with (at_builtin; refine wpList_append_own_at _ rfl (.tmp 58) (.tmp 60) 26 rfl w.heap.size 5 i5 (.int .u8 0) 1 1 Tryd.underlying26 hi5 hz50 hz51 hz52 rfl (by decide) _ _ _ rfl (HOW.out.alloc _) ⟨wc.heap.size, 0, none⟩ 1 1 [.int .u8 (0)] rfl rfl (one_new wc 5 _) (one_cell rfl) (by unfold maxLen; omega) (by omega) (by simp; omega) ?_)
              intro v7 w7 hown7 hgrow7 _ _
              have HNY := Lib.hid (HNX.out _ _ hown7 hgrow7)
              clear hown7 hgrow7
              go_wp2_with fail
              go_roundw
              case rel => exact ⟨i + 1, by omega, by go_num, HNY.out⟩
              case measure => simp [intOf]; omega
      · have hwho : whoS L own (i : Int) = -1 := by unfold whoS; rw [if_neg hp]
        rw [hwho] at HFI
        obtain ⟨p, hpp⟩ : ∃ p, partL L.parts (i : Int) = p := ⟨_, rfl⟩
        rw [hpp] at hp ⊢
        clear hpp hwho
        rw [byO_unk] at HFI
        go_wp2_with fail
        go_loopw [11, 14] (fun v11 v14 wr => ∃ (k z : Nat), k ≤ nv ∧ v14 = .int .i64 k ∧ v11 = .int .u8 (z : Int) ∧ Hid (z = (if anyV (ps.take k) (i : Int) = true then 2 else 3) ∧ wr = wa)) (fun _ v14 _ => nv - (intOf v14).toNat)
        case atStart => exact ⟨0, 3, Nat.zero_le _, rfl, rfl, by simp [anyV], rfl⟩
        case round =>
          obtain ⟨k, z, hk, rfl, rfl, HZ⟩ := hrel
          obtain ⟨hz, hwr⟩ := HZ.out
          have HZZ := Lib.hid hz
          clear hz HZ
          subst hwr
          by_cases hkl : k < nv
          · have hki : (k : Int) < (nv : Int) := by omega
            have hkp : k < ps.length := by have := HNV.out; omega
            have hv2 := (HV.out.up HA.out.bel)
            obtain ⟨b, o, A1', c1', hAv, hb, e0, e1, e2, hsp⟩ := hv2.at k hkp
            subst hAv
            have HSP := Lib.hid (refHas_any _ _ _ ps[k].2.2 (i : Int) hsp (by have := (HP.out.span _ (List.getElem_mem hkp)).1; omega))
            have HQ := Lib.hid (anyTo_succ ps (i : Int) k hkp)
            generalize ps[k].2.2.contains (i : Int) = q at *
            generalize ps[k].2.2.length = sl at *
            clear hsp hv2 e0 e1
            cases q with
            | true =>
              have HZ2 : Hid (2 = (if anyV (ps.take (k + 1)) (i : Int) = true then 2 else 3)) := by show _ = _; rw [HQ.out]; simp
              go_wp2_with fail
              refine HSP.out.mono ?_; rintro e wh ⟨rfl, rfl⟩
              go_wp2_with fail
              go_roundw
              case rel => exact ⟨k + 1, 2, by omega, by go_num, rfl, HZ2.out, (by first | rfl | trivial)⟩
              case measure => simp [intOf]; omega
            | false =>
              have HZ2 : Hid (z = (if anyV (ps.take (k + 1)) (i : Int) = true then 2 else 3)) := by show _ = _; rw [HQ.out, Bool.or_false]; exact HZZ.out
              go_wp2_with fail
              refine HSP.out.mono ?_; rintro e wh ⟨rfl, rfl⟩
              go_wp2_with fail
              go_roundw
              case rel => exact ⟨k + 1, z, by omega, by go_num, rfl, HZ2.out, (by first | rfl | trivial)⟩
              case measure => simp [intOf]; omega
          · have hkn : k = nv := by omega
            subst hkn
            have hki : ¬ (k : Int) < (k : Int) := by omega
            have hzz := HZZ.out
            rw [← HNV.out, List.take_length] at hzz
            rw [← hzz] at HFI
            clear hzz HZZ
            have HNX : Hid (∀ (v' : Value) (W' : World), W'.ownsRow w.heap.size 5 1 v' (i + 1) (bvals (ofTo f i) ++ [.int .u8 (z : Int)]) → (wr.alloc (.cells #[.int .u8 (z : Int)] 5)).grownBy W' (Value.slice A9 i c9).ownBlock → RfSt w n0 #[.slice A0 k0 c0, .slice A1 k1 c1, .slice A2 k2 c2, .slice A3 k3 c3, .slice A4 k4 c4, .int .i64 t0, .int .i64 t1, .int .i64 t2, .int .i64 t3, .int .i64 t4] v' (i + 1) (ofTo f (i + 1)) W') := fun v' W' h1 h2 => HA.out.put HFI.out h1 h2
            have HOW := Lib.hid HA.out.own
            have hsz := HA.out.bel.size
            clear HFI HA
            go_wp2_with (at_builtin; refine wpList_append_own_at _ rfl (.tmp 58) (.tmp 60) 26 rfl w.heap.size 5 i5 (.int .u8 0) 1 1 Tryd.underlying26 hi5 hz50 hz51 hz52 rfl (by decide) _ _ _ rfl (HOW.out.alloc _) ⟨wr.heap.size, 0, none⟩ 1 1 [.int .u8 (z : Int)] rfl rfl (one_new wr 5 _) (one_cell rfl) (by unfold maxLen; omega) (by omega) (by simp; omega) ?_)
            intro v7 w7 hown7 hgrow7 _ _
            have HNY := Lib.hid (HNX.out _ _ hown7 hgrow7)
            clear hown7 hgrow7
            go_wp2_with fail
            go_roundw
            case rel => exact ⟨i + 1, by omega, by go_num, HNY.out⟩
            case measure => simp [intOf]; omega
    · have hin : i = k1 := by omega
      subst hin
      go_wp2_with fail
      go_ret
      have e : ofTo f i = ofO L own ps := by rw [HFF.out]; unfold ofO ofTo; rw [HK.out.1]
      have hl : (ofO L own ps).length = i := by rw [ofO_len, HK.out.1]
      have ho := HJ.out.own
      rw [e] at ho
      refine ⟨_, rfl, ?_, HJ.out.bel⟩
      rw [hl]; exact ho
end Go.Proofs.YtblbbdkpebacbaaDoor
