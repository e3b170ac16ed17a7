/- Pure: how numbers are laid as bits, and read from bits. -/
import Derived.Test.YtcfnaajnkloobaaBackMath
import Derived.Test.YtcfnaajnkloobaaIn
namespace Go.Proofs.Ytcfnaajnkloobaa
open Go.RowKit
set_option maxRecDepth 100000

/-- The bits that aren't read yet; none: it has failed. -/
abbrev St := Option (List Bool)

def tget (W : Nat) (s : St) : Nat × St :=
  match s with
  | none => (0, none)
  | some l => if l.length < W then (0, none) else (hor l 0 W, some (l.drop W))

theorem tget_none (W : Nat) : tget W none = (0, none) := rfl

theorem tget_short {W : Nat} {l : List Bool} (h : l.length < W) : tget W (some l) = (0, none) := by simp [tget, h]

theorem tget_long {W : Nat} {l : List Bool} (h : W ≤ l.length) : tget W (some l) = (hor l 0 W, some (l.drop W)) := by simp [tget, show ¬ l.length < W by omega]

theorem tget_lt (W : Nat) (s : St) : (tget W s).1 < 2 ^ W := by
  cases s with
  | none => exact Nat.two_pow_pos W
  | some l =>
    by_cases h : l.length < W
    · rw [tget_short h]; exact Nat.two_pow_pos W
    · rw [tget_long (by omega)]; exact hor_lt l 0 W

def tbind {α β : Type} (p : St → α × St) (f : α → St → β × St) (s : St) : β × St := f (p s).1 (p s).2

def tret {α : Type} (x : α) (s : St) : α × St := (x, s)

def tmany {α : Type} (one : St → α × St) : Nat → St → List α × St
  | 0, s => ([], s)
  | n + 1, s => ((tmany one n s).1 ++ [(one (tmany one n s).2).1], (one (tmany one n s).2).2)

theorem tmany_length {α : Type} (one : St → α × St) (n : Nat) (s : St) : (tmany one n s).1.length = n := by
  induction n with
  | zero => rfl
  | succ n ih => simp [tmany, ih]

/-- What has failed stays so. -/
def Strict {α : Type} (p : St → α × St) : Prop := (p none).2 = none

theorem strict_get (W : Nat) : Strict (tget W) := rfl

theorem strict_ret {α : Type} (x : α) : Strict (tret x) := rfl

theorem strict_bind {α β : Type} {p : St → α × St} {f : α → St → β × St} (hp : Strict p) (hf : ∀ a, Strict (f a)) : Strict (tbind p f) := by
  show (f (p none).1 (p none).2).2 = none
  rw [show (p none).2 = none from hp]; exact hf _

theorem strict_many {α : Type} {one : St → α × St} (h : Strict one) (n : Nat) : Strict (tmany one n) := by
  induction n with
  | zero => rfl
  | succ n ih =>
    show (one (tmany one n none).2).2 = none
    rw [show (tmany one n none).2 = none from ih]; exact h

/-- Once failed, however many follow. -/
theorem many_none {α : Type} {one : St → α × St} (h : Strict one) {s : St} {i n : Nat} (hi : i ≤ n) (hn : (tmany one i s).2 = none) : (tmany one n s).2 = none := by
  induction n with
  | zero => obtain rfl : i = 0 := by omega
            exact hn
  | succ n ih =>
    rcases Nat.lt_or_ge i (n + 1) with c | c
    · show (one (tmany one n s).2).2 = none
      rw [ih (by omega)]; exact h
    · obtain rfl : i = n + 1 := by omega
      exact hn

/-- 'c' is read as 'x', whatever is behind it; cut anywhere, it fails. -/
structure Enc {α : Type} (p : St → α × St) (x : α) (c : List Bool) : Prop where
  back : ∀ r, p (some (c ++ r)) = (x, some r)
  cut : ∀ k, k < c.length → (p (some (c.take k))).2 = none

theorem Enc.bind {α β : Type} {p : St → α × St} {f : α → St → β × St} {x : α} {y : β} {c d : List Bool} (h : Enc p x c) (hf : Enc (f x) y d) (hs : ∀ a, Strict (f a)) : Enc (tbind p f) y (c ++ d) := by
  constructor
  · intro r
    show f (p (some (c ++ d ++ r))).1 (p (some (c ++ d ++ r))).2 = _
    rw [List.append_assoc, h.back (d ++ r)]; exact hf.back r
  · intro k hk
    show (f (p (some ((c ++ d).take k))).1 (p (some ((c ++ d).take k))).2).2 = none
    by_cases hc : k < c.length
    · rw [List.take_append_of_le_length (by omega), h.cut k hc]; exact hs _
    · have e : (c ++ d).take k = c ++ d.take (k - c.length) := by
        rw [List.take_append, List.take_of_length_le (by omega)]
      rw [e, h.back]
      refine hf.cut _ ?_
      rw [List.length_append] at hk; omega

theorem Enc.ret {α : Type} (x : α) : Enc (tret x) x [] := ⟨fun _ => rfl, fun k hk => absurd hk (by simp)⟩

theorem Enc.mono {α : Type} {p : St → α × St} {x y : α} {c d : List Bool} (h : Enc p x c) (hx : x = y) (hc : c = d) : Enc p y d := by subst hx; subst hc; exact h

theorem Enc.many {α β : Type} {one : St → α × St} {f : β → List Bool} {g : β → α} (hs : Strict one) (xs : List β) (h : ∀ x ∈ xs, Enc one (g x) (f x)) : ∀ k, k ≤ xs.length → Enc (tmany one k) ((xs.take k).map g) ((xs.take k).flatMap f) := by
  intro k
  induction k with
  | zero => intro _; exact ⟨fun _ => rfl, fun k hk => absurd hk (by simp)⟩
  | succ k ih =>
    intro hk
    have hb := (ih (by omega)).bind (f := fun l => tbind one fun x => tret (l ++ [x])) ((h _ (List.getElem_mem (show k < xs.length by omega))).bind (Enc.ret _) (fun _ => rfl)) (fun a => strict_bind hs fun _ => rfl)
    rw [List.append_nil] at hb
    refine Enc.mono (p := tmany one (k + 1)) ⟨hb.back, hb.cut⟩ ?_ ?_
    · rw [List.take_succ_eq_append_getElem (by omega), List.map_append]; rfl
    · rw [List.take_succ_eq_append_getElem (by omega), List.flatMap_append]; simp

/-- The lowest bits of a number. -/
def u (n : Int) : Nat := (n % 18446744073709551616).toNat

def nbit (W : Nat) (n : Int) : List Bool := numBits (u n) W

theorem hor_numBits (N W : Nat) (r : List Bool) : ∀ i, i ≤ W → hor (numBits N W ++ r) 0 i = N / 2 ^ (W - i) % 2 ^ i := by
  intro i
  induction i with
  | zero => intro _; simp [hor, Nat.mod_one]
  | succ i ih =>
    intro hi
    have hg : get (numBits N W ++ r) (0 + i) = N.testBit (W - 1 - i) := by
      unfold get
      rw [Nat.zero_add, List.getD, List.getElem?_append_left (by rw [numBits_length]; omega)]
      simp [numBits, show i < W by omega]
    show 2 * hor _ 0 i + (get _ (0 + i)).toNat = _
    rw [ih (by omega), hg, Nat.testBit_eq_decide_div_mod_eq, show W - 1 - i = W - (i + 1) from by omega]
    have e : W - i = (W - (i + 1)) + 1 := by omega
    rw [e, Nat.pow_succ, ← Nat.div_div_eq_div_mul]
    generalize N / 2 ^ (W - (i + 1)) = M
    rw [Nat.pow_succ]
    have h1 : M % (2 ^ i * 2) = M % 2 + 2 * (M / 2 % 2 ^ i) := by rw [Nat.mul_comm, Nat.mod_mul]
    rw [h1]
    rcases Nat.mod_two_eq_zero_or_one M with c | c <;> simp [c] <;> omega

theorem enc_num (N W : Nat) : Enc (tget W) (N % 2 ^ W) (numBits N W) := by
  constructor
  · intro r
    rw [tget_long (by rw [List.length_append, numBits_length]; omega), hor_numBits N W r W (Nat.le_refl _)]
    rw [Nat.sub_self, Nat.pow_zero, Nat.div_one]
    congr 2
    rw [List.drop_append_of_le_length (by rw [numBits_length]; omega), List.drop_of_length_le (by rw [numBits_length]; omega)]; rfl
  · intro k hk
    rw [tget_short]
    rw [List.length_take]; rw [numBits_length] at hk ⊢; omega

def low (W : Nat) (n : Int) : Int := n % 2 ^ W

theorem u_low (W : Nat) (n : Int) (hW : W ≤ 64) : ((u n % 2 ^ W : Nat) : Int) = low W n := by
  unfold u low
  have h0 : (0 : Int) ≤ n % 18446744073709551616 := Int.emod_nonneg _ (by decide)
  rw [Int.natCast_emod, Int.toNat_of_nonneg h0]
  have hd : ((2 ^ W : Nat) : Int) ∣ 18446744073709551616 := by
    have : (2 : Nat) ^ W ∣ 2 ^ 64 := Nat.pow_dvd_pow 2 hW
    exact Int.natCast_dvd_natCast.2 this
  rw [Int.emod_emod_of_dvd _ hd]
  simp

theorem low_id (W : Nat) (n : Int) (h0 : 0 ≤ n) (h1 : n < 2 ^ W) : low W n = n := Int.emod_eq_of_lt h0 h1

theorem enc_nbit (W : Nat) (n : Int) : Enc (tget W) (u n % 2 ^ W) (nbit W n) := enc_num (u n) W

theorem nbit_length (W : Nat) (n : Int) : (nbit W n).length = W := numBits_length _ _

theorem flat_length (W : Nat) (xs : List Int) : (xs.flatMap (nbit W)).length = xs.length * W := by
  induction xs with
  | nil => simp
  | cons a r ih => rw [List.flatMap_cons, List.length_append, ih, nbit_length, List.length_cons]; rw [Nat.add_mul]; omega

theorem flat_take (W : Nat) (xs : List Int) (i : Nat) (h : i < xs.length) : (xs.take (i + 1)).flatMap (nbit W) = (xs.take i).flatMap (nbit W) ++ nbit W xs[i] := by
  rw [List.take_succ_eq_append_getElem h, List.flatMap_append]; simp

def body (o : List Nat) : St := some (upto o o.length)

theorem upto_take (q : List Nat) (k : Nat) (h : k ≤ q.length) : upto (q.take k) (q.take k).length = (upto q q.length).take (8 * k) := by
  have hl : (q.take k).length = k := by rw [List.length_take]; omega
  rw [hl]
  apply List.ext_getElem
  · rw [upto_length, List.length_take, upto_length]; omega
  · intro i h1 h2
    rw [upto_length] at h1
    simp only [upto, List.getElem_take, List.getElem_map, List.getElem_range]
    unfold bitQ
    have : (q.take k).getD (i / 8) 0 = q.getD (i / 8) 0 := by
      unfold List.getD
      rw [List.getElem?_take, if_pos (by omega)]
    rw [this]

theorem back {α : Type} {p : St → α × St} (hs : Strict p) {s : St} (h : (p s).2 ≠ none) : s ≠ none := by rintro rfl; exact h hs

end Go.Proofs.Ytcfnaajnkloobaa
