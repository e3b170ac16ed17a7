/- What is known of a draft that came in; contract: Small. Pure: the layout of a draft; complex numbers whose parts are whole. -/
import Derived.Test.YthpfhcelmddjlaaBare
import Derived.Laws.ComplexQuo
namespace Go.Proofs.Ythpfhcelmddjlaa
open Go.RowKit Fl
set_option maxRecDepth 100000

/-- A draft: its numbers, its routes. -/
structure Dr where
  form : Nat
  len : Nat
  speed : Nat
  mute : Nat
  wait : Nat
  cancel : Nat
  stay : Nat
  join : Nat
  routes : List (List Nat)

/-- Lists of bytes, in blocks below 'D'. -/
def BRows (w : World) (D : Nat) (v : Value) (rows : List (List Nat)) : Prop :=
  ∃ vs : List Value, Rd w D v vs ∧ vs.length = rows.length ∧ ∀ i (h1 : i < vs.length) (h2 : i < rows.length), Rd w D vs[i] (bvals rows[i])

theorem BRows.mono {w w' : World} {D D' : Nat} {v : Value} {xs : List (List Nat)} (h : BRows w D v xs) (hD : D ≤ D') (hc : ∀ p : Addr, p.block < D → w'.cell? p = w.cell? p) : BRows w' D' v xs := by
  obtain ⟨vs, h1, h2, h3⟩ := h
  exact ⟨vs, h1.mono hD hc, h2, fun i a b => (h3 i a b).mono hD hc⟩

/-- The draft's own value. -/
def drV (d : Dr) (vr : Value) : Value := .agg #[.int .u8 (d.form : Int), .int .u8 (d.len : Int), .int .u8 (d.speed : Int), .int .u16 (d.mute : Int), .int .u16 (d.wait : Int), .int .u8 (d.cancel : Int), .int .u8 (d.stay : Int), .int .u8 (d.join : Int), vr]

structure DrOk (d : Dr) : Prop where
  form : d.form < 256
  len : d.len < 256
  speed : d.speed < 256
  mute : d.mute < 65536
  wait : d.wait < 65536
  cancel : d.cancel < 256
  stay : d.stay < 256
  join : d.join < 256
  bytes : ∀ r ∈ d.routes, ∀ x ∈ r, x < 256

/-- Has a draft not too much? -/
def small (d : Dr) : Bool := decide (d.routes.length ≤ 20) && d.routes.all fun r => decide (r.length ≤ 10)

set_option maxHeartbeats 2000000 in
theorem small_any (w : World) (d : Dr) (vr : Value) (h : BRows w w.heap.size vr d.routes) (hl : d.routes.length ≤ 9223372036854775807) (hrl : ∀ r ∈ d.routes, r.length ≤ 9223372036854775807) : Calls Try.prog 10 #[drV d vr] w (RetL (small d) w) := by
  unfold drV
  obtain ⟨vs, hv, hvl, hve⟩ := h
  obtain ⟨A, c, rfl, h0, hx⟩ := hv
  have HVL := Lib.hid hvl
  rw [hvl] at hx ⊢
  obtain ⟨n, hn⟩ : ∃ n, n = d.routes.length := ⟨_, rfl⟩
  rw [← hn] at hx hl ⊢
  have HN := Lib.hid hn; have HX := Lib.hid hx; have HVE := Lib.hid hve; have HRL := Lib.hid hrl
  clear hn hx hve hvl h0 hrl
  obtain ⟨C, hC⟩ : ∃ C : Array Value, C = #[.int .u8 (d.form : Int), .int .u8 (d.len : Int), .int .u8 (d.speed : Int), .int .u16 (d.mute : Int), .int .u16 (d.wait : Int), .int .u8 (d.cancel : Int), .int .u8 (d.stay : Int), .int .u8 (d.join : Int), .slice A n c] := ⟨_, rfl⟩
  have HB := Lib.hid ((Below.refl w.heap.size w).alloc (Nat.le_refl _) (.cells #[.int .u8 (d.form : Int), .int .u8 (d.len : Int), .int .u8 (d.speed : Int), .int .u16 (d.mute : Int), .int .u16 (d.wait : Int), .int .u8 (d.cancel : Int), .int .u8 (d.stay : Int), .int .u8 (d.join : Int), .slice A n c] 25))
  have HR := Lib.hid (Row.new w 25 #[.int .u8 (d.form : Int), .int .u8 (d.len : Int), .int .u8 (d.speed : Int), .int .u16 (d.mute : Int), .int .u16 (d.wait : Int), .int .u8 (d.cancel : Int), .int .u8 (d.stay : Int), .int .u8 (d.join : Int), .slice A n c])
  clear hC C
  go_enter Try.func10, Try.ntmps10
  go_upto_region 1 with (fail)
  generalize w.alloc (.cells #[.int .u8 (d.form : Int), .int .u8 (d.len : Int), .int .u8 (d.speed : Int), .int .u16 (d.mute : Int), .int .u16 (d.wait : Int), .int .u8 (d.cancel : Int), .int .u8 (d.stay : Int), .int .u8 (d.join : Int), .slice A n c] 25) = W at *
  obtain ⟨n0, hn0⟩ : ∃ n, n = w.heap.size := ⟨_, rfl⟩
  rw [← hn0] at HR HB HX HVE ⊢
  have HN0 := Lib.hid hn0; clear hn0
  have f8 := HR.out.cell 8
  simp only [List.getElem?_toArray, List.getElem?_cons_zero, List.getElem?_cons_succ] at f8
  go_wp2_with fail
  go_loop [3] (fun k => ∃ i : Nat, i ≤ n ∧ k = .int .i64 i ∧ Hid (∀ j (h : j < d.routes.length), j < i → d.routes[j].length ≤ 10)) (fun k => n - (intOf k).toNat)
  case atStart => exact ⟨0, Nat.zero_le _, rfl, fun j _ hj => absurd hj (by omega)⟩
  case round =>
    obtain ⟨i, hi, rfl, HI⟩ := hrel
    by_cases hlt : i < n
    · have hiq : i < d.routes.length := by have := HN.out; omega
      have hiv : i < vs.length := by have := HVL.out; omega
      obtain ⟨b, o, rfl, hb, hc⟩ := HX.out (by omega)
      have hcell : W.cell? ⟨b, o + i, none⟩ = some vs[i] := (HB.out.cell (p := ⟨b, o + i, none⟩) hb).trans (hc i _ (List.getElem?_eq_getElem hiv))
      have he := HVE.out i hiv hiq
      have hrl := HRL.out d.routes[i] (List.getElem_mem _)
      have HD : Hid (¬ d.routes[i].length ≤ 10 → small d = false) := fun hbig => by
        unfold small
        rw [Bool.and_eq_false_iff]
        refine Or.inr (Bool.eq_false_iff.2 fun hall => hbig ?_)
        have := List.all_eq_true.1 hall d.routes[i] (List.getElem_mem _)
        simpa using this
      have HS : Hid (d.routes[i].length ≤ 10 → ∀ j (h : j < d.routes.length), j < i + 1 → d.routes[j].length ≤ 10) := fun hs j h hj => by
        rcases Nat.lt_or_ge j i with c | c
        · exact HI.out j h c
        · obtain rfl : j = i := by omega
          exact hs
      clear hc
      generalize vs[i] = z at *
      generalize d.routes[i] = r at *
      obtain ⟨B, cc, rfl, -, -⟩ := he
      simp only [bvals_length] at *
      by_cases hbig : r.length ≤ 10
      · have HS2 := Lib.hid (HS.out hbig)
        clear HD HS
        go_wp2
        go_round
        case rel => exact ⟨i + 1, by omega, by go_num, HS2⟩
        case measure => simp [intOf]; omega
      · have HF := Lib.hid (HD.out hbig)
        clear HD HS
        go_wp2
        go_ret
        exact ⟨ret_bool HF.out.symm, by rw [← HN0.out]; exact HB.out⟩
    · have HF : Hid (small d = decide (n ≤ 20)) := by
        show _ = _
        unfold small
        rw [HN.out]
        have : (d.routes.all fun r => decide (r.length ≤ 10)) = true := by
          refine List.all_eq_true.2 fun r hr => ?_
          obtain ⟨j, hj, rfl⟩ := List.getElem_of_mem hr
          rw [decide_eq_true]; exact HI.out j hj (by have := HN.out; omega)
        rw [this, Bool.and_true]
      have HF2 : Hid (decide ((n : Int) ≤ 20) = small d) := by
        show _ = _
        rw [HF.out]
        by_cases h20 : n ≤ 20
        · rw [decide_eq_true h20, decide_eq_true (by omega)]
        · rw [decide_eq_false h20, decide_eq_false (by omega)]
      go_wp2
      go_ret
      exact ⟨ret_bool HF2.out, by rw [← HN0.out]; exact HB.out⟩

end Go.Proofs.Ythpfhcelmddjlaa

namespace Go.Proofs.Ythpfhcelmddjlaa
open Go.RowKit Fl
set_option maxRecDepth 100000

def unit (d : Dr) : Nat := 10 * (1 + d.len % 20)

theorem unit_bounds (d : Dr) : 10 ≤ unit d ∧ unit d ≤ 200 := by unfold unit; omega

theorem fl_two : Fl 0 4611686018427387904 2 := by have := fl_ofInt 2 (by decide); rwa [show floatOfInt .f64 2 = 4611686018427387904 from by decide +kernel] at this
theorem fl_three : Fl 0 4613937818241073152 3 := by have := fl_ofInt 3 (by decide); rwa [show floatOfInt .f64 3 = 4613937818241073152 from by decide +kernel] at this
theorem fl_four : Fl 0 4616189618054758400 4 := by have := fl_ofInt 4 (by decide); rwa [show floatOfInt .f64 4 = 4616189618054758400 from by decide +kernel] at this
theorem fl_five : Fl 0 4617315517961601024 5 := by have := fl_ofInt 5 (by decide); rwa [show floatOfInt .f64 5 = 4617315517961601024 from by decide +kernel] at this
theorem fl_six : Fl 0 4618441417868443648 6 := by have := fl_ofInt 6 (by decide); rwa [show floatOfInt .f64 6 = 4618441417868443648 from by decide +kernel] at this

/-- A whole number times one along the same line. -/
theorem cmul_real {k x : Nat} {K U : Int} (hk : Fl 0 k K) (hx : Fl 0 x U) (h0 : 0 ≤ K) (h1 : K ≤ 10) (h2 : 0 ≤ U) (h3 : U ≤ 1000) :
    ∃ re im, cMulBits k 0 x 0 = some (re, im) ∧ Fl 0 re (K * U) ∧ Fl 0 im 0 := by
  have hb : (K * U).natAbs < 2 ^ 53 := by
    rw [Int.natAbs_mul]
    have : K.natAbs * U.natAbs ≤ 10 * 1000 := Nat.mul_le_mul (by omega) (by omega)
    omega
  obtain ⟨ac, e1, f1⟩ := fl_mul hk hx hb
  obtain ⟨bd, e2, f2⟩ := fl_mul fl_zero fl_zero (by decide)
  obtain ⟨re, e3, f3⟩ := fl_sub (by omega) f1 f2 (by simpa using hb)
  obtain ⟨ad, e4, f4⟩ := fl_mul hk fl_zero (by simp)
  obtain ⟨bc, e5, f5⟩ := fl_mul fl_zero hx (by simp)
  obtain ⟨im, e6, f6⟩ := fl_add (by omega) f4 f5 (by simp)
  refine ⟨re, im, ?_, by simpa using f3, by simpa using f6⟩
  simp [cMulBits, e1, e2, e3, e4, e5, e6]

theorem cadd_any {a b c d : Nat} {A B C D : Int} (ha : Fl 0 a A) (hb : Fl 0 b B) (hc : Fl 0 c C) (hd : Fl 0 d D) (h1 : (A + C).natAbs < 2 ^ 53) (h2 : (B + D).natAbs < 2 ^ 53) :
    ∃ re im, cSumBits .add .f64 a b c d = some (re, im) ∧ Fl 0 re (A + C) ∧ Fl 0 im (B + D) := by
  obtain ⟨re, e1, f1⟩ := fl_add (by omega) ha hc h1
  obtain ⟨im, e2, f2⟩ := fl_add (by omega) hb hd h2
  exact ⟨re, im, by simp [cSumBits, e1, e2], f1, f2⟩

theorem csub_any {a b c d : Nat} {A B C D : Int} (ha : Fl 0 a A) (hb : Fl 0 b B) (hc : Fl 0 c C) (hd : Fl 0 d D) (h1 : (A - C).natAbs < 2 ^ 53) (h2 : (B - D).natAbs < 2 ^ 53) :
    ∃ re im, cSumBits .sub .f64 a b c d = some (re, im) ∧ Fl 0 re (A - C) ∧ Fl 0 im (B - D) := by
  obtain ⟨re, e1, f1⟩ := fl_sub (by omega) ha hc h1
  obtain ⟨im, e2, f2⟩ := fl_sub (by omega) hb hd h2
  exact ⟨re, im, by simp [cSumBits, e1, e2], f1, f2⟩

theorem half_words : ∀ m : Fin 20, cQuoBits 0 (floatOfInt .f64 ((10 * (1 + m.val) : Nat) : Int)) 4611686018427387904 0 = some (0, floatOfInt .f64 ((5 * (1 + m.val) : Nat) : Int)) := by decide +kernel

/-- Half of the way to the north. -/
theorem chalf (d : Dr) : ∃ im, cQuoBits 0 (floatOfInt .f64 (unit d : Int)) 4611686018427387904 0 = some (0, im) ∧ Fl 0 im ((5 * (1 + d.len % 20) : Nat) : Int) := by
  have h := half_words ⟨d.len % 20, Nat.mod_lt _ (by omega)⟩
  exact ⟨_, h, fl_ofInt _ (by omega)⟩

/-- How many sections a draft has. -/
def rowLen (d : Dr) : Nat := 3 + d.form / 4 % 6

def makeNodes (d : Dr) : List (Int × Int) :=
  let U : Int := (unit d : Int)
  let H : Int := ((5 * (1 + d.len % 20) : Nat) : Int)
  match d.form % 4 with
  | 0 => (List.range (rowLen d + 1)).map fun (i : Nat) => (((unit d * i : Nat) : Int), 0)
  | 1 => [(0, 0), (U, 0), (2 * U, U), (2 * U, -U)]
  | 2 => [(0, 0), (U, 0), (2 * U, 0), (3 * U, H), (3 * U, -H), (4 * U, 0), (5 * U, 0), (6 * U, 0)]
  | _ => [(0, 0), (U, 0), (2 * U, 0), (3 * U, U), (3 * U, -U), (4 * U, U), (4 * U, -U)]

def makeEnds (d : Dr) : List (Int × Int) :=
  match d.form % 4 with
  | 0 => (List.range (rowLen d)).map fun (i : Nat) => ((i : Int), (i : Int) + 1)
  | 1 => [(0, 1), (1, 2), (3, 1)]
  | 2 => [(0, 1), (1, 2), (2, 3), (2, 4), (5, 3), (4, 5), (5, 6), (6, 7)]
  | _ => [(0, 1), (2, 1), (2, 3), (2, 4), (3, 5), (4, 6)]

def makePoints (d : Dr) : List (Int × Int × Int × Int) :=
  match d.form % 4 with
  | 0 => []
  | 1 => [(1, 0, 1, 2)]
  | 2 => [(2, 1, 2, 3), (5, 6, 4, 5)]
  | _ => [(2, 1, 3, 2)]

/-- The first 'i' sections. -/
def makeSecs (d : Dr) (es : List (Int × Int)) : Nat → List (Int × Int × Int)
  | 0 => []
  | i + 1 => makeSecs d es i ++ [(2 * (unit d : Int) + ((i % 3 : Nat) : Int), (es.getD i (0, 0)).1, (es.getD i (0, 0)).2)]

/-- Is section 'i' put to the part of the one before? -/
def joins (d : Dr) (i : Nat) : Bool := decide (0 < i) && (d.join.testBit (i % 8))

def putLast (l : List (List Int)) (x : Int) : List (List Int) := l.dropLast ++ [(l.getLast?.getD []) ++ [x]]

/-- The parts of the first 'i' sections. -/
def makeParts (d : Dr) : Nat → List (List Int)
  | 0 => []
  | i + 1 => if joins d i then putLast (makeParts d i) (i : Int) else makeParts d i ++ [[(i : Int)]]

def makeL (d : Dr) : Lay :=
  ⟨makeNodes d, makeSecs d (makeEnds d) (makeEnds d).length, makeParts d (makeEnds d).length, makePoints d, [],
    1 + ((d.speed % (2 * unit d) : Nat) : Int), 1 + ((d.mute % 1000 : Nat) : Int), 1 + ((d.wait % 1000 : Nat) : Int), 1 + (d.cancel : Int), ((d.stay % 4 : Nat) : Int)⟩

def roughL (d : Dr) : Lay := { makeL d with routes := d.routes.map fun (r : List Nat) => r.map fun (x : Nat) => (x : Int) }

theorem makeEnds_len (d : Dr) : 3 ≤ (makeEnds d).length ∧ (makeEnds d).length ≤ 8 := by
  unfold makeEnds
  split <;> simp
  unfold rowLen; omega

theorem makeEnds_in (d : Dr) : ∀ e ∈ makeEnds d, (0 ≤ e.1 ∧ e.1 ≤ 8) ∧ (0 ≤ e.2 ∧ e.2 ≤ 8) := by
  intro e he
  unfold makeEnds at he
  split at he
  · simp only [List.mem_map, List.mem_range] at he
    obtain ⟨i, hi, rfl⟩ := he
    unfold rowLen at hi
    simp only; omega
  · simp only [List.mem_cons, List.not_mem_nil, or_false] at he
    rcases he with rfl | rfl | rfl <;> decide
  · simp only [List.mem_cons, List.not_mem_nil, or_false] at he
    rcases he with rfl | rfl | rfl | rfl | rfl | rfl | rfl | rfl <;> decide
  · simp only [List.mem_cons, List.not_mem_nil, or_false] at he
    rcases he with rfl | rfl | rfl | rfl | rfl | rfl <;> decide

end Go.Proofs.Ythpfhcelmddjlaa
