/- Contracts: the document's Encode. -/
import Derived.Test.YthpfhcelmddjlaaEncode
import Derived.Test.YthpfhcelmddjlaaOf
namespace Go.Proofs.Ythpfhcelmddjlaa
open Go.RowKit Fl
set_option maxRecDepth 100000

/-- Bits, as the document has them. -/
def Src (w : World) (v : Value) (l : List Bool) : Prop := (v = .slice none 0 0 ∧ l = []) ∨ ∃ b, w.ownsRow b 4 1 v l.length (cvals l)

theorem Src.below {w w' : World} {v : Value} {l : List Bool} (h : Src w v l) (hb : Below w.heap.size w w') : Src w' v l := by
  rcases h with h | ⟨b, ho⟩
  · exact Or.inl h
  · exact Or.inr ⟨b, (Kept.of_below (g := w.heap.size) hb).owns ho fun k hk => ⟨(ho.lt k hk).2, by have := (ho.lt k hk).2; omega⟩⟩

theorem Src.nil (w : World) : Src w (.slice none 0 0) [] := Or.inl ⟨rfl, rfl⟩

theorem Src.rd {w : World} {v : Value} {l : List Bool} (h : Src w v l) : Rd w w.heap.size v (cvals l) := by
  rcases h with ⟨rfl, rfl⟩ | ⟨b, ho⟩
  · exact Rd.empty _ _
  · exact Rd.of_own ho

def RetSrc (l : List Bool) (w : World) (e : Ending) (w' : World) : Prop := ∃ v', e = .returned v' ∧ Src w' v' l ∧ Below w.heap.size w w'

theorem RetSrc.pre {l : List Bool} {w w1 w' : World} {e : Ending} (h : RetSrc l w1 e w') (hb : Below w.heap.size w w1) : RetSrc l w e w' := by
  obtain ⟨v, he, hs, hb'⟩ := h
  exact ⟨v, he, hs, hb.trans (hb'.mono hb.size)⟩

theorem Rd.litI (w : World) (xs : List Int) (n : Nat) (hn : xs.length = n) : Rd (w.alloc (.cells (ivals xs).toArray 3)) (w.alloc (.cells (ivals xs).toArray 3)).heap.size (.slice (some ⟨w.heap.size, 0, none⟩) n n) (ivals xs) := by
  subst hn
  refine ⟨_, _, by rw [ivals_length], ⟨(fun h => by cases h), by rw [ivals_length]; exact Nat.le_refl _⟩, fun _ => ⟨_, 0, rfl, by simp [World.size_alloc], fun j u hu => ?_⟩⟩
  have := (Row.new w 3 (ivals xs).toArray).cell (0 + j)
  rw [this]; simpa using hu

set_option maxHeartbeats 1000000 in
theorem rput_any (w : World) (l : List Bool) (W : Nat) (width : Int) (v vx : Value) (xs : List Int) (hs : Src w v l) (hx : Rd w w.heap.size vx (ivals xs)) (hw : width = (W : Int)) (hwd : W ≤ 64) (hl : l.length ≤ 500000) (hxl : xs.length ≤ 1000) :
    Calls Try.prog 39 #[v, .int .i64 width, vx] w (RetSrc (l ++ xs.flatMap (nbit W)) w) := by
  subst hw
  obtain ⟨A, c, rfl, -, hx⟩ := hx
  rw [ivals_length] at *
  obtain ⟨n, hn⟩ : ∃ n, n = xs.length := ⟨_, rfl⟩
  rw [← hn] at hx hxl ⊢
  have HN := Lib.hid hn; have HX := Lib.hid hx; have HS := Lib.hid hs; clear hn hx hs
  go_enter Try.func39, Try.ntmps39
  go_wp2
  go_loopw [0, 7] (fun t k wr => ∃ i : Nat, i ≤ n ∧ k = .int .i64 i ∧ Hid (Src wr t (l ++ (xs.take i).flatMap (nbit W)) ∧ Below w.heap.size w wr)) (fun _ k _ => n - (intOf k).toNat)
  case atStart => exact ⟨0, Nat.zero_le _, rfl, by simpa using HS.out, Below.refl _ _⟩
  case round =>
    obtain ⟨i, hi, rfl, HI⟩ := hrel
    by_cases hlt : i < n
    · have hiq : i < xs.length := by have := HN.out; omega
      obtain ⟨b, o, rfl, hbD, hc⟩ := HX.out (by omega)
      have hcell : wr.cell? ⟨b, o + i, none⟩ = some (.int .i64 xs[i]) := (HI.out.2.cell (p := ⟨b, o + i, none⟩) hbD).trans (hc i _ (ivals_get xs i hiq))
      have HT := Lib.hid (flat_take W xs i hiq)
      have hlen : (l ++ (xs.take i).flatMap (nbit W)).length ≤ 900000 := by
        rw [List.length_append, flat_length, List.length_take]
        have : min i xs.length * W ≤ 1000 * 64 := Nat.mul_le_mul (by omega) hwd
        omega
      have HL := Lib.hid hlen
      clear hlen hc
      generalize xs[i] = x at *
      have HU := Lib.hid (u_wrap x)
      go_wp2_with fail
      rw [← HU.out]
      refine (refPut_in wr _ (u x) W _ (W : Int) HI.out.1 HL.out hwd rfl).mono ?_
      rintro e w1 ⟨v1, rfl, h1, h2⟩
      rw [List.append_assoc, show numBits (u x) W = nbit W x from rfl, ← HT.out] at h1
      have H2 : Hid (Src w1 v1 (l ++ (xs.take (i + 1)).flatMap (nbit W)) ∧ Below w.heap.size w w1) := ⟨Or.inr ⟨_, h1⟩, HI.out.2.trans (h2.mono HI.out.2.size)⟩
      clear h1 h2 hcell
      go_wp2_with fail
      go_roundw
      case rel => exact ⟨i + 1, by omega, by go_num, H2⟩
      case measure => simp [intOf]; omega
    · have hf : xs.take i = xs := List.take_of_length_le (by have := HN.out; omega)
      have HF := Lib.hid hf; clear hf
      go_wp2
      go_ret
      refine ⟨_, rfl, ?_, HI.out.2⟩
      have := HI.out.1
      rw [HF.out] at this
      exact this

theorem RowsAt.up {w w' : World} {v : Value} {xs : List (List Int)} (h : RowsAt w w.heap.size v xs) (hb : Below w.heap.size w w') : RowsAt w' w'.heap.size v xs := h.mono hb.size fun _ hp => hb.cell hp

set_option maxHeartbeats 2000000 in
theorem rlists_any (w : World) (D : Nat) (l : List Bool) (v vx : Value) (xs : List (List Int)) (hs : Src w v l) (hx : RowsAt w D vx xs) (hD : D ≤ w.heap.size) (hl : (l ++ erows xs).length ≤ 400000) (hxl : xs.length ≤ 1000) (hrl : ∀ r ∈ xs, r.length ≤ 1000) :
    Calls Try.prog 41 #[v, vx] w (RetSrc (l ++ erows xs) w) := by
  obtain ⟨vs, hv, hvl, hve⟩ := hx
  obtain ⟨A, c, rfl, -, hx⟩ := hv
  have HVL := Lib.hid hvl
  rw [hvl] at hx ⊢
  have HVE := Lib.hid hve; have HRL := Lib.hid hrl; clear hvl hve hrl
  obtain ⟨n, hn⟩ : ∃ n, n = xs.length := ⟨_, rfl⟩
  rw [← hn] at hx hxl ⊢
  have HN := Lib.hid hn; have HX := Lib.hid hx; have HS := Lib.hid hs; have HLL := Lib.hid hl; clear hn hx hs hl
  have HBF := Lib.hid ((Below.refl w.heap.size w).alloc (Nat.le_refl _) (.cells #[.int .i64 (n : Int)] 3))
  go_enter Try.func41, Try.ntmps41
  go_wp2_with fail
  refine (rput_any _ l 8 8 _ _ [(n : Int)] (HS.out.below HBF.out) (Rd.litI w [(n : Int)] 1 rfl) rfl (by omega) (by have := HLL.out; rw [List.length_append] at this; omega) (by simp)).mono ?_
  rintro e w1 h
  have h1 := h.pre HBF.out
  obtain ⟨v1, rfl, hs1, hb1⟩ := h1
  have H1 : Hid (Src w1 v1 (l ++ nbit 8 (n : Int)) ∧ Below w.heap.size w w1) := ⟨by simpa using hs1, hb1⟩
  clear hs1 hb1 h
  go_wp2_with fail
  go_loopw [0, 5] (fun t k wr => ∃ i : Nat, i ≤ n ∧ k = .int .i64 i ∧ Hid (Src wr t (l ++ (nbit 8 (n : Int) ++ (xs.take i).flatMap erow)) ∧ Below w.heap.size w wr)) (fun _ k _ => n - (intOf k).toNat)
  case atStart => exact ⟨0, Nat.zero_le _, rfl, by simpa using H1.out.1, H1.out.2⟩
  case round =>
    obtain ⟨i, hi, rfl, HI⟩ := hrel
    by_cases hlt : i < n
    · have hiq : i < xs.length := by have := HN.out; omega
      obtain ⟨b, o, rfl, hbD, hc⟩ := HX.out (by omega)
      have hiv : i < vs.length := by have := HVL.out; omega
      have hcell0 := hc i _ (List.getElem?_eq_getElem hiv)
      have HCELL := Lib.hid hcell0
      have hcell : wr.cell? ⟨b, o + i, none⟩ = some vs[i] := (HI.out.2.cell (p := ⟨b, o + i, none⟩) (Nat.lt_of_lt_of_le hbD hD)).trans hcell0
      have HE := Lib.hid (HVE.out i hiv hiq)
      have HRI := Lib.hid (HRL.out xs[i] (List.getElem_mem _))
      have HT := Lib.hid (flatMap_take erow xs i hiq)
      have HL2 : Hid ((l ++ (nbit 8 (n : Int) ++ (xs.take i).flatMap erow) ++ erow xs[i]).length ≤ 400000) := by
        show _ ≤ _
        have := elist_le erow l xs (i + 1) n HN.out
        rw [HT.out] at this
        have h2 : (l ++ elist erow xs).length ≤ 400000 := HLL.out
        simp only [List.length_append] at this h2 ⊢; omega
      clear hc hcell0
      generalize vs[i] = z at *
      generalize xs[i] = x at *
      have HL3 : Hid ((l ++ (nbit 8 (n : Int) ++ (xs.take i).flatMap erow) ++ nbit 8 (x.length : Int)).length ≤ 500000) := by
        show _ ≤ _
        have := HL2.out
        have e : (erow x).length = (nbit 8 (x.length : Int)).length + (x.flatMap eint).length := by
          unfold erow elist; rw [List.length_append]
        simp only [List.length_append] at this ⊢; omega
      obtain ⟨A', c', rfl, -, -⟩ := id HE.out
      simp only [ivals_length] at *
      have HBG := Lib.hid ((Below.refl wr.heap.size wr).alloc (Nat.le_refl _) (.cells #[.int .i64 (x.length : Int)] 3))
      go_wp2_with fail
      refine (rput_any _ _ 8 8 _ _ [(x.length : Int)] (HI.out.1.below HBG.out) (Rd.litI wr [(x.length : Int)] 1 rfl) rfl (by omega) (by have := HL2.out; rw [List.length_append] at this; omega) (by simp)).mono ?_
      rintro e w2 h
      have h2 := h.pre HBG.out
      obtain ⟨v2, rfl, hs2, hb2⟩ := h2
      have hb2' : Below w.heap.size w w2 := HI.out.2.trans (hb2.mono HI.out.2.size)
      have hcell2 : w2.cell? ⟨b, o + i, none⟩ = some (.slice A' x.length c') := (hb2'.cell (p := ⟨b, o + i, none⟩) (Nat.lt_of_lt_of_le hbD hD)).trans HCELL.out
      have H2 : Hid (Src w2 v2 (l ++ (nbit 8 (n : Int) ++ (xs.take i).flatMap erow) ++ nbit 8 (x.length : Int)) ∧ Below w.heap.size w w2) := ⟨by simpa using hs2, hb2'⟩
      have HE2 : Hid (Rd w2 w2.heap.size (.slice A' x.length c') (ivals x)) := HE.out.mono (Nat.le_trans hD hb2'.size) fun p hp => hb2'.cell (by omega)
      clear hs2 hb2 h hcell hb2'
      go_wp2_with fail
      refine (rput_any w2 _ 8 8 _ _ x H2.out.1 HE2.out rfl (by omega) HL3.out HRI.out).mono ?_
      rintro e w3 ⟨v3, rfl, hs3, hb3⟩
      have H3 : Hid (Src w3 v3 (l ++ (nbit 8 (n : Int) ++ (xs.take (i + 1)).flatMap erow)) ∧ Below w.heap.size w w3) := by
        refine ⟨?_, H2.out.2.trans (hb3.mono H2.out.2.size)⟩
        rw [HT.out]
        have e : l ++ (nbit 8 (n : Int) ++ (xs.take i).flatMap erow) ++ nbit 8 (x.length : Int) ++ x.flatMap (nbit 8) = l ++ (nbit 8 (n : Int) ++ ((xs.take i).flatMap erow ++ erow x)) := by
          show _ = l ++ (nbit 8 (n : Int) ++ ((xs.take i).flatMap erow ++ (nbit 8 (x.length : Int) ++ x.flatMap (nbit 8))))
          simp only [List.append_assoc]
        rw [e] at hs3; exact hs3
      clear hs3 hb3 hcell2
      go_wp2_with fail
      go_roundw
      case rel => exact ⟨i + 1, by omega, by go_num, H3⟩
      case measure => simp [intOf]; omega
    · have hf : xs.take i = xs := List.take_of_length_le (by have := HN.out; omega)
      have HF := Lib.hid hf; clear hf
      go_wp2
      go_ret
      refine ⟨_, rfl, ?_, HI.out.2⟩
      have := HI.out.1
      rw [HF.out] at this
      have hn := HN.out
      subst hn
      exact this

theorem at_any (x y : Nat) (a b : Int) (w : World) (h1 : Fl 0 x a) (h2 : Fl 0 y b) (ba : a.natAbs ≤ 4000000000) (bb : b.natAbs ≤ 4000000000) :
    Calls Try.prog 40 #[.complex .f64 x y] w fun e w' => e = .returned (.tuple #[.int .i64 a, .int .i64 b]) ∧ w = w' := by
  have t1 := fl_toInt h1 (by omega) (by omega)
  have t2 := fl_toInt h2 (by omega) (by omega)
  have c1 : ∀ w, (convert 48 2 (.float .f64 x)).run Try.prog w = .ok (.int .i64 a) w := fun w => run_convert_float_int w 48 2 .f64 .i64 x a (by rw [Try.underlying48]; rfl) Try.underlying2 t1
  have c2 : ∀ w, (convert 48 2 (.float .f64 y)).run Try.prog w = .ok (.int .i64 b) w := fun w => run_convert_float_int w 48 2 .f64 .i64 y b (by rw [Try.underlying48]; rfl) Try.underlying2 t2
  clear t1 t2
  go_enter Try.func40, Try.ntmps40
  go_wp2
  go_ret2
  exact ⟨rfl, rfl⟩

end Go.Proofs.Ythpfhcelmddjlaa
