/- Contracts: Ends; a slice of ends put behind an owned one. -/
import Derived.Test.YtifcgkpannlnnaaG2
namespace Go.Proofs.Ytifcgkpannlnnaa
open Go.RowKit Fl
set_option maxRecDepth 100000

theorem grown_below {w w' : World} (h : Below w.heap.size w w') (r : Option Nat) : w.grownBy w' r := ⟨h.os, h.tape, h.output, h.size, fun k hk _ => h.block k hk⟩
theorem own_below {w w' : World} {B : Nat} {t : TypeId} {s n : Nat} {v : Value} {xs : List Value} (h : w.ownsRow B t s v n xs) (hb : Below w.heap.size w w') : w'.ownsRow B t s v n xs := by
  refine h.kept (grown_below hb none) ?_
  cases e : v.ownBlock with
  | none => exact Or.inl rfl
  | some k => exact Or.inr (by simp)

theorem wpList_app_prs {P : Program} {w : World} {ops : Array Oper} {rest : List Oper} {o : Oper} {a : Act} {Q : Exit → Act → World → Prop} (hgd : o.guard = none) (s x : Operand) (t : TypeId)
    (ho : o.op = .call { callee := .builtin .append, args := #[s, x], argTypes := #[t, t] })
    (base : Nat) (e : TypeId) (i : TypeInfo) (z : Value) (ht : P.underlying t = some (.slice e)) (hi : P.info? e = some i) (hz : i.zero = some z)
    (hsize : i.size = 2) (hby : i.bytes = 16) (hzs : z.cells.size = 2)
    (v : Value) (n : Nat) (xs : List (Int × Int)) (hs : a.eval s = v) (hown : w.ownsRow base e 2 v n (ecells xs))
    (y : Value) (ys : List (Int × Int)) (hx : a.eval x = y) (hy : Prs w w.heap.size y ys) (h63 : n + ys.length ≤ 1000000) (hbase : base ≤ w.heap.size)
    (h : ∀ v' w', w'.ownsRow base e 2 v' (n + ys.length) (ecells (xs ++ ys)) → w.grownBy w' v.ownBlock → wpList P ops Q rest (a.put o.dst v') w') : wpList P ops Q (o :: rest) a w := by
  have hy2 := hy
  obtain ⟨A, c, rfl, ⟨h0, hc⟩, hp⟩ := hy
  cases A with
  | none =>
    have hl : ys.length = 0 := by
      rcases Nat.eq_zero_or_pos ys.length with e0 | e0
      · exact e0
      · obtain ⟨b, o', cur, fr, e1, _⟩ := hp e0; cases e1
    have hys : ys = [] := List.length_eq_zero_iff.1 hl
    subst hys
    have hc0 := h0 rfl
    subst hc0
    refine wpList_append_own_none hgd s x t ho base e i 2 ht hi v n (ecells xs) hs hown hx ?_
    refine h v w (by simpa using hown) ⟨rfl, rfl, rfl, Nat.le_refl _, fun _ _ _ => rfl⟩
  | some ad =>
    refine wpList_append_own w hgd s x t ho base e i z 2 16 ht hi hz hsize hby hzs (by decide) v n (ecells xs) hs hown ad ys.length c (ecells ys) hx (ecells_len ys) ?_ (ecells_one ys) (by unfold maxLen; omega) (by omega) hbase ?_
    · intro j u hu
      have hpos : 0 < ys.length := by
        have := (List.getElem?_eq_some_iff.1 hu).1; rw [ecells_len] at this; omega
      obtain ⟨b, o', e1, _, hcell⟩ := hy2.cells hpos
      injection e1 with e1
      subst e1
      exact hcell j u hu
    · intro v' w' h1 h2 _
      rw [ecells_app] at h1
      exact h v' w' h1 h2

set_option maxHeartbeats 2000000 in
theorem ends_any (w : World) (D : Nat) (v : Value) (L : Lay) (n : Int) (h : IsGr w D v L) (hD : D ≤ w.heap.size) (hL : Fits L) :
    Calls Try.prog 91 #[v, .int .i64 n] w fun e w' => ∃ v', e = .returned v' ∧ w'.ownsRow w.heap.size 85 2 v' (endsL L.secs n).length (ecells (endsL L.secs n)) ∧ Below w.heap.size w w' := by
  have HI := Lib.hid h
  obtain ⟨g, vS, vQ, vP, rfl, hg⟩ := h
  obtain ⟨A, c, rfl⟩ := hg.secs
  have f0 := hg.row.cell 0
  simp only [List.getElem?_toArray, List.getElem?_cons_zero] at f0
  have hs := hL.s
  have HL := Lib.hid hL
  clear hg hL
  have HE : Hid (endsL L.secs n = endsTo L.secs n L.secs.length) := rfl
  generalize endsL L.secs n = r at *
  obtain ⟨m, hm⟩ : ∃ m, L.secs.length = m := ⟨_, rfl⟩
  rw [hm] at HE hs f0
  have HM := Lib.hid hm
  clear hm
  obtain ⟨i4, hi4, hz40, hz41, hz42⟩ := info_parts Try.info85
  obtain ⟨B0, hB0⟩ : ∃ n, n = w.heap.size := ⟨_, rfl⟩
  have HB0 := Lib.hid hB0
  have hB1 : B0 ≤ w.heap.size := by omega
  have hDB : D ≤ B0 := by omega
  clear hB0
  go_enter Try.func91, Try.ntmps91
  go_wp2_with fail
  clear f0
  go_loopw [5, 14] (fun t k wr => ∃ i : Nat, i ≤ m ∧ k = .int .i64 i ∧ Hid (wr.ownsRow B0 85 2 t (endsTo L.secs n i).length (ecells (endsTo L.secs n i)) ∧ Below B0 w wr)) (fun _ k _ => m - (intOf k).toNat)
  case atStart => exact ⟨0, Nat.zero_le _, rfl, World.ownsRow_nil _ _ _ _, Below.refl _ _⟩
  case round =>
    obtain ⟨i, hi, rfl, HJ⟩ := hrel
    by_cases hlt : i < m
    · have HS : Hid (endsTo L.secs n (i + 1) = endsTo L.secs n i ++ endsOfL L.secs (i : Int) n) := by
        show _ = _
        rw [endsOfL_nat _ _ _ (by have := HM.out; omega)]; rfl
      have hb1 := endsTo_le L.secs n i
      have hb2 := endsOfL_le L.secs (i : Int) n
      go_wp2_with fail
      refine (endsOf_any wr D _ L (i : Int) n (HI.out.keep HJ.out.2 hDB) HL.out).mono ?_; rintro e w1 ⟨v1, rfl, ho1, hb⟩
      obtain ⟨A1, c1, hv1⟩ := own_slice ho1
      subst hv1
      obtain ⟨A5, c5, hv5⟩ := own_slice HJ.out.1
      subst hv5
      have HO := Lib.hid (own_below HJ.out.1 hb)
      have HP := Lib.hid (Prs.of_own ho1)
      have HB : Hid (Below B0 w w1) := HJ.out.2.trans (hb.mono (by have := HJ.out.2.size; omega))
      clear hb ho1
      generalize endsOfL L.secs (i : Int) n = ys at *
      generalize endsTo L.secs n i = xs at *
      go_wp2_with (at_builtin; refine wpList_app_prs rfl (.tmp 17) (.tmp 21) 86 rfl B0 85 i4 _ Try.underlying86 hi4 hz40 hz41 hz42 rfl _ _ xs rfl HO.out _ ys rfl HP.out (by omega) (by have := HB.out.size; omega) ?_)
      intro v5 w5 hown5 hgrow5
      have HNX : Hid (w5.ownsRow B0 85 2 v5 (endsTo L.secs n (i + 1)).length (ecells (endsTo L.secs n (i + 1))) ∧ Below B0 w w5) := by
        refine ⟨?_, HB.out.grown hgrow5 (by have := HB.out.size; omega) (fun k hk => (HO.out.lt k hk).1)⟩
        rw [HS.out, List.length_append]; exact hown5
      clear hown5 hgrow5
      go_wp2_with fail
      go_roundw
      case rel => exact ⟨i + 1, by omega, by go_num, HNX⟩
      case measure => simp [intOf]; omega
    · have HIE : Hid (i = m) := by show _ = _; omega
      go_wp2_with fail
      go_ret
      have h1 := HIE.out
      subst h1
      rw [HE.out, ← HB0.out]
      exact ⟨_, rfl, HJ.out.1, HJ.out.2⟩

end Go.Proofs.Ytifcgkpannlnnaa
