/- The document's Rise: numbers, rising, each once. -/
import Derived.Test.YtkhceigfmaajdaaT11
namespace Go.Proofs.Ytkhceigfmaajdaa
open Go.RowKit
set_option maxRecDepth 100000

/-- A number put into a rising list, if it isn't there. -/
def insR (x : Int) : List Int → List Int
  | [] => [x]
  | y :: l => if x < y then x :: y :: l else if x = y then y :: l else y :: insR x l
def riseL (xs : List Int) : List Int := xs.foldr insR []
theorem insR_mem (x : Int) : ∀ (l : List Int) (z : Int), z ∈ insR x l ↔ z = x ∨ z ∈ l
  | [], z => by simp [insR]
  | y :: l, z => by
    unfold insR
    split
    · simp
    · split
      · rename_i h1 h2
        subst h2
        simp
      · rw [List.mem_cons, insR_mem x l z, List.mem_cons]
        constructor
        · rintro (h | h | h)
          · exact Or.inr (Or.inl h)
          · exact Or.inl h
          · exact Or.inr (Or.inr h)
        · rintro (h | h | h)
          · exact Or.inr (Or.inl h)
          · exact Or.inl h
          · exact Or.inr (Or.inr h)
theorem insR_sorted (x : Int) : ∀ (l : List Int), l.Pairwise (· < ·) → (insR x l).Pairwise (· < ·)
  | [], _ => by simp [insR]
  | y :: l, h => by
    have h2 := List.pairwise_cons.1 h
    unfold insR
    split
    · rename_i h1
      rw [List.pairwise_cons]
      refine ⟨fun z hz => ?_, h⟩
      rw [List.mem_cons] at hz
      rcases hz with rfl | hz
      · exact h1
      · have := h2.1 z hz; omega
    · split
      · exact h
      · rename_i h1 h3
        rw [List.pairwise_cons]
        refine ⟨fun z hz => ?_, insR_sorted x l h2.2⟩
        rw [insR_mem] at hz
        rcases hz with rfl | hz
        · omega
        · exact h2.1 z hz
theorem riseL_sorted : ∀ (xs : List Int), (riseL xs).Pairwise (· < ·)
  | [] => List.Pairwise.nil
  | x :: xs => insR_sorted x _ (riseL_sorted xs)
theorem riseL_mem : ∀ (xs : List Int) (x : Int), x ∈ riseL xs ↔ x ∈ xs
  | [], x => by simp [riseL]
  | y :: xs, x => by
    show x ∈ insR y (riseL xs) ↔ _
    rw [insR_mem, riseL_mem xs x, List.mem_cons]

theorem nodup_of_sorted {xs : List Int} (h : xs.Pairwise (· < ·)) : xs.Nodup := h.imp (by intro a b h; omega)

theorem nodup_len_le : ∀ (a b : List Int), a.Nodup → (∀ x ∈ a, x ∈ b) → a.length ≤ b.length
  | [], b, _, _ => by simp
  | x :: a, b, ha, h => by
    have ha2 := List.nodup_cons.1 ha
    have hx := h x (by simp)
    have h1 := nodup_len_le a (b.erase x) ha2.2 (fun z hz => (List.mem_erase_of_ne (fun e => ha2.1 (by rw [← e]; exact hz))).2 (h z (by simp [hz])))
    have h2 := List.length_erase_of_mem hx
    have h3 := List.length_pos_of_mem hx
    rw [List.length_cons]; omega

theorem nodup_of_len : ∀ (b a : List Int), a.Nodup → (∀ x, x ∈ a ↔ x ∈ b) → b.length ≤ a.length → b.Nodup
  | [], a, _, _, _ => by simp
  | y :: b, a, ha, h, hl => by
    rw [List.length_cons] at hl
    by_cases hy : y ∈ b
    · have := nodup_len_le a b ha (fun x hx => by
        have h1 := (h x).1 hx
        rw [List.mem_cons] at h1
        rcases h1 with e | e
        · rw [e]; exact hy
        · exact e)
      omega
    · have hya : y ∈ a := (h y).2 (by simp)
      have h2 := List.length_erase_of_mem hya
      refine List.nodup_cons.2 ⟨hy, nodup_of_len b (a.erase y) (ha.erase y) (fun x => ?_) (by omega)⟩
      rw [ha.mem_erase_iff, h x, List.mem_cons]
      constructor
      · rintro ⟨n, e | e⟩
        · exact absurd e n
        · exact e
      · intro e
        exact ⟨fun c => hy (by rw [← c]; exact e), Or.inr e⟩

/-- As long as before: none stands twice. -/
theorem riseL_len (xs : List Int) : (riseL xs).length = xs.length ↔ xs.Nodup := by
  constructor
  · intro h
    have h1 := nodup_of_sorted (riseL_sorted xs)
    exact nodup_of_len xs (riseL xs) h1 (fun x => riseL_mem xs x) (by omega)
  · intro h
    have h1 := nodup_of_sorted (riseL_sorted xs)
    have hp : (riseL xs).Perm xs := (List.perm_ext_iff_of_nodup h1 h).2 (fun x => riseL_mem xs x)
    exact hp.length_eq

theorem riseL_le (xs : List Int) : (riseL xs).length ≤ xs.length := nodup_len_le _ _ (nodup_of_sorted (riseL_sorted xs)) fun x hx => (riseL_mem xs x).1 hx

/-- Is a number behind the first 'm' of a rising list? -/
def beyond (R : List Int) (m : Nat) (x : Int) : Prop := m = 0 ∨ R.getD (m - 1) 0 < x

/-- The place of the least number that is behind, of the first 'i'. -/
def Best (xs R : List Int) (m i : Nat) : Option Nat → Prop
  | none => ∀ j (_ : j < xs.length), j < i → ¬ beyond R m xs[j]
  | some b => ∃ hb : b < xs.length, b < i ∧ beyond R m xs[b] ∧ ∀ j (_ : j < xs.length), j < i → beyond R m xs[j] → xs[b] ≤ xs[j]

theorem Best.start (xs R : List Int) (m : Nat) : Best xs R m 0 none := fun _ _ h => absurd h (by omega)

theorem Best.skip {xs R : List Int} {m i : Nat} {o : Option Nat} (h : Best xs R m i o) (hi : i < xs.length) (hn : ¬ beyond R m xs[i]) : Best xs R m (i + 1) o := by
  cases o with
  | none =>
    intro j hj hji
    rcases Nat.lt_or_ge j i with c | c
    · exact h j hj c
    · obtain rfl : j = i := by omega
      exact hn
  | some b =>
    obtain ⟨hb, h1, h2, h3⟩ := h
    refine ⟨hb, by omega, h2, fun j hj hji hbj => ?_⟩
    rcases Nat.lt_or_ge j i with c | c
    · exact h3 j hj c hbj
    · obtain rfl : j = i := by omega
      exact absurd hbj hn

theorem Best.keep {xs R : List Int} {m i b : Nat} (h : Best xs R m i (some b)) (hi : i < xs.length) (hn : ¬ xs[i] < xs.getD b 0) : Best xs R m (i + 1) (some b) := by
  obtain ⟨hb, h1, h2, h3⟩ := h
  have e : xs.getD b 0 = xs[b] := by simp [List.getD, hb]
  rw [e] at hn
  refine ⟨hb, by omega, h2, fun j hj hji hbj => ?_⟩
  rcases Nat.lt_or_ge j i with c | c
  · exact h3 j hj c hbj
  · obtain rfl : j = i := by omega
    omega

theorem Best.take0 {xs R : List Int} {m i : Nat} (h : Best xs R m i none) (hi : i < xs.length) (hb : beyond R m xs[i]) : Best xs R m (i + 1) (some i) := by
  refine ⟨hi, by omega, hb, fun j hj hji hbj => ?_⟩
  rcases Nat.lt_or_ge j i with c | c
  · exact absurd hbj (h j hj c)
  · obtain rfl : j = i := by omega
    exact Int.le_refl _

theorem Best.take1 {xs R : List Int} {m i b : Nat} (h : Best xs R m i (some b)) (hi : i < xs.length) (hb : beyond R m xs[i]) (hl : xs[i] < xs.getD b 0) : Best xs R m (i + 1) (some i) := by
  obtain ⟨hb', h1, h2, h3⟩ := h
  have e : xs.getD b 0 = xs[b] := by simp [List.getD, hb']
  rw [e] at hl
  refine ⟨hi, by omega, hb, fun j hj hji hbj => ?_⟩
  rcases Nat.lt_or_ge j i with c | c
  · have := h3 j hj c hbj; omega
  · obtain rfl : j = i := by omega
    exact Int.le_refl _

theorem sorted_lt {R : List Int} (hs : R.Pairwise (· < ·)) (i j : Nat) (hij : i < j) (hj : j < R.length) : R[i] < R[j] := List.pairwise_iff_getElem.1 hs i j (by omega) hj hij

/-- There is none behind: the list is whole. -/
theorem best_none {xs : List Int} {m : Nat} (h : Best xs (riseL xs) m xs.length none) : (riseL xs).take m = riseL xs := by
  apply List.take_of_length_le
  refine Nat.le_of_not_lt fun c => ?_
  have hx : (riseL xs)[m] ∈ xs := (riseL_mem xs _).1 (List.getElem_mem _)
  obtain ⟨j, hj, e⟩ := List.getElem_of_mem hx
  refine h j hj hj ?_
  rw [e]
  rcases Nat.eq_zero_or_pos m with c0 | c0
  · exact Or.inl c0
  · right
    have hlt : m - 1 < (riseL xs).length := by omega
    have e2 : (riseL xs).getD (m - 1) 0 = (riseL xs)[m - 1] := by simp [List.getD, hlt]
    rw [e2]
    exact sorted_lt (riseL_sorted xs) (m - 1) m (by omega) c

/-- The least that is behind is the next. -/
theorem best_some {xs : List Int} {m b : Nat} (hm : m ≤ (riseL xs).length) (h : Best xs (riseL xs) m xs.length (some b)) : m < (riseL xs).length ∧ (riseL xs).take m ++ [xs.getD b 0] = (riseL xs).take (m + 1) := by
  obtain ⟨hb, _, h2, h3⟩ := h
  have e : xs.getD b 0 = xs[b] := by simp [List.getD, hb]
  have hs := riseL_sorted xs
  have hx : xs[b] ∈ riseL xs := (riseL_mem xs _).2 (List.getElem_mem _)
  obtain ⟨j, hj, ej⟩ := List.getElem_of_mem hx
  have hjm : m ≤ j := by
    rcases h2 with c | c
    · omega
    · refine Nat.le_of_not_lt fun c2 => ?_
      have hlt : m - 1 < (riseL xs).length := by omega
      have e2 : (riseL xs).getD (m - 1) 0 = (riseL xs)[m - 1] := by simp [List.getD, hlt]
      rw [e2, ← ej] at c
      rcases Nat.lt_or_ge j (m - 1) with c3 | c3
      · have := sorted_lt hs j (m - 1) c3 hlt; omega
      · have e3 : j = m - 1 := by omega
        subst e3; omega
  have hml : m < (riseL xs).length := by omega
  refine ⟨hml, ?_⟩
  rw [List.take_succ_eq_append_getElem hml, e]
  congr 2
  have hx2 : (riseL xs)[m] ∈ xs := (riseL_mem xs _).1 (List.getElem_mem _)
  obtain ⟨q, hq, eq⟩ := List.getElem_of_mem hx2
  have hbq : beyond (riseL xs) m xs[q] := by
    rw [eq]
    rcases Nat.eq_zero_or_pos m with c0 | c0
    · exact Or.inl c0
    · right
      have hlt : m - 1 < (riseL xs).length := by omega
      have e2 : (riseL xs).getD (m - 1) 0 = (riseL xs)[m - 1] := by simp [List.getD, hlt]
      rw [e2]
      exact sorted_lt hs (m - 1) m (by omega) hml
  have h5 := h3 q hq hq hbq
  rw [eq] at h5
  rcases Nat.lt_or_ge m j with c | c
  · have := sorted_lt hs m j c hj; rw [ej] at this; omega
  · have e3 : j = m := by omega
    subst e3; rw [← ej]

def idxI : Option Nat → Int
  | some b => (b : Int)
  | none => -1

def RetOwn (B : Nat) (xs : List Int) (w : World) (e : Ending) (w' : World) : Prop := ∃ v, e = .returned v ∧ w'.ownsRow B 3 1 v xs.length (ivals xs) ∧ Below B w w'

set_option maxHeartbeats 8000000 in
theorem refRise_any (w : World) (v : Value) (xs : List Int) (h : Rd w w.heap.size v (ivals xs)) (hl : xs.length ≤ 1000) : Calls Try.prog 21 #[v] w (RetOwn w.heap.size (riseL xs) w) := by
  obtain ⟨A, c, rfl, -, hx⟩ := h
  have hvl : (ivals xs).length = xs.length := by simp [ivals]
  rw [hvl] at hx ⊢
  have HX := Lib.hid hx
  clear hx hvl
  obtain ⟨B0, hB0⟩ : ∃ n, n = w.heap.size := ⟨_, rfl⟩
  rw [← hB0] at HX ⊢
  have HB0 := Lib.hid hB0
  have hB1 : B0 ≤ w.heap.size := by omega
  clear hB0
  have hrl := riseL_le xs
  obtain ⟨i3, hi3, hz30, hz31, hz32⟩ := info_parts Try.info3n
  go_enter Try.func21, Try.ntmps21
  go_wp2_with fail
  go_loopw [3] (fun t wr => ∃ (m : Nat) (out : List Int), m ≤ (riseL xs).length ∧ Hid (out.length = m) ∧ Hid (out = (riseL xs).take m ∧ wr.ownsRow B0 3 1 t m (ivals out) ∧ Below B0 w wr)) (fun t _ => (riseL xs).length - (match t with | .slice _ n _ => n | _ => 0))
  case atStart => exact ⟨0, [], Nat.zero_le _, rfl, rfl, World.ownsRow_nil _ _ _ _, Below.refl _ _⟩
  case round =>
    obtain ⟨m, out, hm, HOL, HK⟩ := hrel
    obtain ⟨Ao, co, hvo⟩ := own_slice HK.out.2.1
    subst hvo
    have HK0 : Hid (wr.ownsRow B0 3 1 (.slice Ao m co) m (ivals out) ∧ Below B0 w wr) := ⟨HK.out.2.1, HK.out.2.2⟩
    have HOE := Lib.hid HK.out.1
    obtain ⟨wK, hwK⟩ : ∃ x, x = wr := ⟨_, rfl⟩
    subst hwK
    clear HK
    go_wp2_with fail
    go_loopw [4, 5] (fun b k wr => ∃ (i : Nat) (bo : Option Nat), i ≤ xs.length ∧ k = .int .i64 i ∧ b = .int .i64 (idxI bo) ∧ Hid (Best xs (riseL xs) m i bo) ∧ Hid (wr.ownsRow B0 3 1 (.slice Ao m co) m (ivals out) ∧ Below B0 w wr)) (fun _ k _ => xs.length - (intOf k).toNat)
    case atStart => exact ⟨0, none, Nat.zero_le _, rfl, rfl, Best.start _ _ _, HK0⟩
    case round =>
      obtain ⟨i, bo, hi, rfl, rfl, HB, HJ⟩ := hrel
      by_cases hlt : i < xs.length
      · obtain ⟨bx, ox, hA, hbx, hcc⟩ := HX.out (by simpa [ivals] using (by omega : 0 < xs.length))
        have HXC : Hid (∀ j (hj : j < xs.length), w.cell? ⟨bx, ox + j, none⟩ = some (.int .i64 xs[j])) := fun j hj => hcc j _ (by simp [ivals, hj])
        have HBX := Lib.hid hbx
        obtain ⟨x, hxe⟩ : ∃ x, xs[i] = x := ⟨_, rfl⟩
        have q0 : wr.cell? ⟨bx, ox + i, none⟩ = some (.int .i64 x) := (HJ.out.2.cell (p := ⟨bx, ox + i, none⟩) hbx).trans (by rw [← hxe]; exact HXC.out i hlt)
        have HXE := Lib.hid hxe
        clear hcc hbx hxe
        subst hA
        rcases Nat.eq_zero_or_pos m with hm0 | hm0
        · have HYB : Hid (beyond (riseL xs) m xs[i]) := Or.inl hm0
          have hol1 : (m : Int) = 0 := by omega
          have hd1 : ((m : Int) == 0) = true := by rw [hol1]; rfl
          clear hm0 hol1
          cases bo with
          | none =>
            simp only [idxI] at *
            have HBN : Hid (Best xs (riseL xs) m (i + 1) (some i)) := HB.out.take0 hlt HYB.out
            go_upto_region 6 with (fail)
            go_quiet (fail)
            have HN6 : Hid (∀ n, (wr.drewN n).ownsRow B0 3 1 (.slice Ao m co) m (ivals out) ∧ Below B0 w (wr.drewN n)) := fun n => ⟨HJ.out.1, Below.drewN HJ.out.2 n⟩
            go_wp2_with fail
            go_roundw
            case rel => exact ⟨i + 1, some i, by omega, by go_num, rfl, HBN, HN6.out _⟩
            case measure => simp [intOf]; omega
          | some b =>
            obtain ⟨y, HYE, q1⟩ : ∃ y, Hid (xs.getD b 0 = y) ∧ w.cell? ⟨bx, ox + b, none⟩ = some (.int .i64 y) := by
              obtain ⟨hb, _⟩ := HB.out
              exact ⟨_, rfl, by have := HXC.out b hb; simpa [List.getD, hb] using this⟩
            have q2 : wr.cell? ⟨bx, ox + b, none⟩ = some (.int .i64 y) := (HJ.out.2.cell (p := ⟨bx, ox + b, none⟩) HBX.out).trans q1
            have hbl : b < xs.length := by obtain ⟨hb, _⟩ := HB.out; exact hb
            have hbn : ¬ (b : Int) < 0 := by omega
            have hd5 : decide ((b : Int) < 0) = false := decide_eq_false hbn
            clear q1
            simp only [idxI] at *
            by_cases hlb : x < y
            · have hd3 : decide (x < y) = true := decide_eq_true hlb
              have HBN : Hid (Best xs (riseL xs) m (i + 1) (some i)) := HB.out.take1 hlt HYB.out (by rw [HXE.out, HYE.out]; exact hlb)
              go_upto_region 6 with (fail)
              go_quiet (fail)
              have HN6 : Hid (∀ n, (wr.drewN n).ownsRow B0 3 1 (.slice Ao m co) m (ivals out) ∧ Below B0 w (wr.drewN n)) := fun n => ⟨HJ.out.1, Below.drewN HJ.out.2 n⟩
              go_wp2_with fail
              go_roundw
              case rel => exact ⟨i + 1, some i, by omega, by go_num, rfl, HBN, HN6.out _⟩
              case measure => simp [intOf]; omega
            · have hd3 : decide (x < y) = false := decide_eq_false hlb
              have HBN : Hid (Best xs (riseL xs) m (i + 1) (some b)) := HB.out.keep hlt (by rw [HXE.out, HYE.out]; exact hlb)
              go_upto_region 6 with (fail)
              go_quiet (fail)
              have HN6 : Hid (∀ n, (wr.drewN n).ownsRow B0 3 1 (.slice Ao m co) m (ivals out) ∧ Below B0 w (wr.drewN n)) := fun n => ⟨HJ.out.1, Below.drewN HJ.out.2 n⟩
              go_wp2_with fail
              go_roundw
              case rel => exact ⟨i + 1, some b, by omega, by go_num, rfl, HBN, HN6.out _⟩
              case measure => simp [intOf]; omega
        · have hol1 : ¬ (m : Int) = 0 := by omega
          have hd1 : ((m : Int) == 0) = false := by rw [beq_eq_false_iff_ne]; exact hol1
          obtain ⟨r, hre⟩ : ∃ r, out.getD (m - 1) 0 = r := ⟨_, rfl⟩
          have HRE : Hid ((riseL xs).getD (m - 1) 0 = r) := by
            show _ = _
            rw [← hre, HOE.out]
            simp [List.getD, show m - 1 < m by omega]
          obtain ⟨br, or, hAr, -, u0⟩ := (Rd.of_own HJ.out.1).at (i := m - 1) (u := .int .i64 r) (by rw [← hre]; simp [ivals, List.getD, show m - 1 < out.length by have := HOL.out; omega])
          subst hAr
          obtain ⟨mm, HMM⟩ : ∃ mm, Hid (m = mm + 1) := ⟨m - 1, by show _ = _; omega⟩
          have hoi : (m : Int) - 1 = (mm : Int) := by have := HMM.out; omega
          have hml : mm < m := by have := HMM.out; omega
          have hwm : IntKind.i64.wrap ((m : Int) - 1) = (mm : Int) := by rw [hoi]; exact IntWalk.i64_in _ (by omega)
          rw [show m - 1 = mm by have := HMM.out; omega] at u0
          clear hre hol1
          by_cases hgt : r < x
          · have hd2 : decide (r < x) = true := decide_eq_true hgt
            have HYB : Hid (beyond (riseL xs) m xs[i]) := Or.inr (by rw [HRE.out, HXE.out]; exact hgt)
            cases bo with
            | none =>
              simp only [idxI] at *
              have HBN : Hid (Best xs (riseL xs) m (i + 1) (some i)) := HB.out.take0 hlt HYB.out
              go_upto_region 6 with (fail)
              go_quiet (fail)
              have HN6 : Hid (∀ n, (wr.drewN n).ownsRow B0 3 1 (.slice (some ⟨br, or, none⟩) m co) m (ivals out) ∧ Below B0 w (wr.drewN n)) := fun n => ⟨HJ.out.1, Below.drewN HJ.out.2 n⟩
              go_wp2_with fail
              go_roundw
              case rel => exact ⟨i + 1, some i, by omega, by go_num, rfl, HBN, HN6.out _⟩
              case measure => simp [intOf]; omega
            | some b =>
              obtain ⟨y, HYE, q1⟩ : ∃ y, Hid (xs.getD b 0 = y) ∧ w.cell? ⟨bx, ox + b, none⟩ = some (.int .i64 y) := by
                obtain ⟨hb, _⟩ := HB.out
                exact ⟨_, rfl, by have := HXC.out b hb; simpa [List.getD, hb] using this⟩
              have q2 : wr.cell? ⟨bx, ox + b, none⟩ = some (.int .i64 y) := (HJ.out.2.cell (p := ⟨bx, ox + b, none⟩) HBX.out).trans q1
              have hbl : b < xs.length := by obtain ⟨hb, _⟩ := HB.out; exact hb
              have hbn : ¬ (b : Int) < 0 := by omega
              have hd5 : decide ((b : Int) < 0) = false := decide_eq_false hbn
              clear q1
              simp only [idxI] at *
              by_cases hlb : x < y
              · have hd3 : decide (x < y) = true := decide_eq_true hlb
                have HBN : Hid (Best xs (riseL xs) m (i + 1) (some i)) := HB.out.take1 hlt HYB.out (by rw [HXE.out, HYE.out]; exact hlb)
                go_upto_region 6 with (fail)
                go_quiet (fail)
                have HN6 : Hid (∀ n, (wr.drewN n).ownsRow B0 3 1 (.slice (some ⟨br, or, none⟩) m co) m (ivals out) ∧ Below B0 w (wr.drewN n)) := fun n => ⟨HJ.out.1, Below.drewN HJ.out.2 n⟩
                go_wp2_with fail
                go_roundw
                case rel => exact ⟨i + 1, some i, by omega, by go_num, rfl, HBN, HN6.out _⟩
                case measure => simp [intOf]; omega
              · have hd3 : decide (x < y) = false := decide_eq_false hlb
                have HBN : Hid (Best xs (riseL xs) m (i + 1) (some b)) := HB.out.keep hlt (by rw [HXE.out, HYE.out]; exact hlb)
                go_upto_region 6 with (fail)
                go_quiet (fail)
                have HN6 : Hid (∀ n, (wr.drewN n).ownsRow B0 3 1 (.slice (some ⟨br, or, none⟩) m co) m (ivals out) ∧ Below B0 w (wr.drewN n)) := fun n => ⟨HJ.out.1, Below.drewN HJ.out.2 n⟩
                go_wp2_with fail
                go_roundw
                case rel => exact ⟨i + 1, some b, by omega, by go_num, rfl, HBN, HN6.out _⟩
                case measure => simp [intOf]; omega
          · have hd2 : decide (r < x) = false := decide_eq_false hgt
            have HNB : Hid (¬ beyond (riseL xs) m xs[i]) := fun hb => by
              rcases hb with hb | hb
              · have := HMM.out; omega
              · rw [HRE.out, HXE.out] at hb; exact hgt hb
            cases bo with
            | none =>
              simp only [idxI] at *
              have HBN : Hid (Best xs (riseL xs) m (i + 1) none) := HB.out.skip hlt HNB.out
              go_upto_region 6 with (fail)
              go_quiet (fail)
              have HN6 : Hid (∀ n, (wr.drewN n).ownsRow B0 3 1 (.slice (some ⟨br, or, none⟩) m co) m (ivals out) ∧ Below B0 w (wr.drewN n)) := fun n => ⟨HJ.out.1, Below.drewN HJ.out.2 n⟩
              go_wp2_with fail
              go_roundw
              case rel => exact ⟨i + 1, none, by omega, by go_num, rfl, HBN, HN6.out _⟩
              case measure => simp [intOf]; omega
            | some b =>
              obtain ⟨y, HYE, q1⟩ : ∃ y, Hid (xs.getD b 0 = y) ∧ w.cell? ⟨bx, ox + b, none⟩ = some (.int .i64 y) := by
                obtain ⟨hb, _⟩ := HB.out
                exact ⟨_, rfl, by have := HXC.out b hb; simpa [List.getD, hb] using this⟩
              have q2 : wr.cell? ⟨bx, ox + b, none⟩ = some (.int .i64 y) := (HJ.out.2.cell (p := ⟨bx, ox + b, none⟩) HBX.out).trans q1
              have hbl : b < xs.length := by obtain ⟨hb, _⟩ := HB.out; exact hb
              have hbn : ¬ (b : Int) < 0 := by omega
              have hd5 : decide ((b : Int) < 0) = false := decide_eq_false hbn
              clear q1
              simp only [idxI] at *
              have HBN : Hid (Best xs (riseL xs) m (i + 1) (some b)) := HB.out.skip hlt HNB.out
              go_upto_region 6 with (fail)
              go_quiet (fail)
              have HN6 : Hid (∀ n, (wr.drewN n).ownsRow B0 3 1 (.slice (some ⟨br, or, none⟩) m co) m (ivals out) ∧ Below B0 w (wr.drewN n)) := fun n => ⟨HJ.out.1, Below.drewN HJ.out.2 n⟩
              go_wp2_with fail
              go_roundw
              case rel => exact ⟨i + 1, some b, by omega, by go_num, rfl, HBN, HN6.out _⟩
              case measure => simp [intOf]; omega
      · have HIE : Hid (Best xs (riseL xs) m xs.length bo) := by have e : i = xs.length := by omega
                                                                 rw [← e]; exact HB.out
        cases bo with
        | none =>
          have HRS : Hid (out = riseL xs) := by show _ = _; rw [HOE.out]; exact best_none HIE.out
          simp only [idxI] at *
          go_wp2_with fail
          go_ret
          rw [← HRS.out]
          exact ⟨_, rfl, by rw [HOL.out]; exact HJ.out.1, HJ.out.2⟩
        | some b =>
          have HBS := Lib.hid (best_some hm HIE.out)
          obtain ⟨hbl, _⟩ := id HIE.out
          obtain ⟨bx, ox, hA, hbx, hcc⟩ := HX.out (by simpa [ivals] using (by omega : 0 < xs.length))
          have q0 : wr.cell? ⟨bx, ox + b, none⟩ = some (.int .i64 (xs.getD b 0)) := (HJ.out.2.cell (p := ⟨bx, ox + b, none⟩) hbx).trans (hcc b _ (by simp [ivals, List.getD, hbl]))
          generalize xs.getD b 0 = y at *
          subst hA
          simp only [idxI] at *
          have hbn : ¬ (b : Int) < 0 := by omega
          have HSN : Hid (ivals out ++ [.int .i64 y] = ivals (out ++ [y]) ∧ (out ++ [y]).length = m + 1) := ⟨ivals_snoc' _ _, by have := HOL.out; simp; omega⟩
          clear hcc
          go_wp2_with (at_builtin; refine wpList_append_own _ rfl (.tmp 47) (.tmp 52) 37 rfl B0 3 i3 (.int .i64 0) 1 8 Try.underlying37 hi3 hz30 hz31 hz32 rfl (by decide) _ _ _ rfl (HJ.out.1.alloc _) ⟨wr.heap.size, 0, none⟩ 1 1 [.int .i64 y] rfl rfl (one_new wr 3 _) (one_cell rfl) (by unfold maxLen; omega) (by omega) (by have := HJ.out.2.size; simp; omega) ?_)
          intro v7 w7 hown7 hgrow7 _
          rw [HSN.out.1] at hown7
          have HBX : Hid (out ++ [y] = (riseL xs).take (m + 1)) := by show _ = _; rw [← HBS.out.2, ← HOE.out]
          have hba : Below B0 w (wr.alloc (.cells #[.int .i64 y] 3)) := HJ.out.2.alloc (by have := HJ.out.2.size; omega) _
          have HNX : Hid (out ++ [y] = (riseL xs).take (m + 1) ∧ w7.ownsRow B0 3 1 v7 (m + 1) (ivals (out ++ [y])) ∧ Below B0 w w7) := ⟨HBX.out, hown7, hba.grown hgrow7 (by have := hba.size; omega) (fun kk hk => (HJ.out.1.lt kk hk).1)⟩
          obtain ⟨A8, c8, hv8⟩ := own_slice hown7
          subst hv8
          have hlm := HBS.out.1
          clear hown7 hgrow7 hba q0
          go_wp2_with fail
          go_roundw
          case rel => exact ⟨m + 1, out ++ [y], hlm, HSN.out.2, HNX⟩
          case measure => simp; omega

end Go.Proofs.Ytkhceigfmaajdaa
