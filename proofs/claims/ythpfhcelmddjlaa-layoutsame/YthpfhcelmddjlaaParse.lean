/- Pure: how a layout is laid as bits, and read from bits. -/
import Derived.Test.YthpfhcelmddjlaaBackMath
import Derived.Test.YthpfhcelmddjlaaIn
namespace Go.Proofs.Ythpfhcelmddjlaa
open Go.RowKit

/-- The bits that aren't read yet; none: it has failed. -/
abbrev St := Option (List Bool)

def tget (W : Nat) (s : St) : Nat × St :=
  match s with
  | none => (0, none)
  | some l => if l.length < W then (0, none) else (hor l 0 W, some (l.drop W))

theorem tget_none (W : Nat) : tget W none = (0, none) := rfl
theorem tget_short {W : Nat} {l : List Bool} (h : l.length < W) : tget W (some l) = (0, none) := by simp [tget, h]
theorem tget_long {W : Nat} {l : List Bool} (h : W ≤ l.length) : tget W (some l) = (hor l 0 W, some (l.drop W)) := by simp [tget, show ¬ l.length < W by omega]

theorem tget_lt (W : Nat) (s : St) : (tget W s).1 < 2 ^ W := by
  cases s with
  | none => exact Nat.two_pow_pos W
  | some l =>
    by_cases h : l.length < W
    · rw [tget_short h]; exact Nat.two_pow_pos W
    · rw [tget_long (by omega)]; exact hor_lt l 0 W

def tbind {α β : Type} (p : St → α × St) (f : α → St → β × St) (s : St) : β × St := f (p s).1 (p s).2
def tret {α : Type} (x : α) (s : St) : α × St := (x, s)

def tmany {α : Type} (one : St → α × St) : Nat → St → List α × St
  | 0, s => ([], s)
  | n + 1, s => ((tmany one n s).1 ++ [(one (tmany one n s).2).1], (one (tmany one n s).2).2)

theorem tmany_length {α : Type} (one : St → α × St) (n : Nat) (s : St) : (tmany one n s).1.length = n := by
  induction n with
  | zero => rfl
  | succ n ih => simp [tmany, ih]

def tlist {α : Type} (one : St → α × St) : St → List α × St := tbind (tget 8) fun n => tmany one n

def sgn (n : Nat) : Int := if n < 2147483648 then (n : Int) else (n : Int) - 4294967296

def tint : St → Int × St := tbind (tget 8) fun n => tret (n : Int)
def tnode : St → (Int × Int) × St := tbind (tget 32) fun x => tbind (tget 32) fun y => tret (sgn x, sgn y)
def tsec : St → (Int × Int × Int) × St := tbind (tget 16) fun n => tbind (tget 8) fun a => tbind (tget 8) fun b => tret ((n : Int), (a : Int), (b : Int))
def tpoint : St → (Int × Int × Int × Int) × St := tbind (tget 8) fun n => tbind (tget 8) fun a => tbind (tget 8) fun b => tbind (tget 8) fun c => tret ((n : Int), (a : Int), (b : Int), (c : Int))
def trow : St → List Int × St := tlist tint
def trows : St → List (List Int) × St := tlist trow

/-- A layout, in whole numbers. -/
structure Lay where
  nodes : List (Int × Int)
  secs : List (Int × Int × Int)
  parts : List (List Int)
  points : List (Int × Int × Int × Int)
  routes : List (List Int)
  speed : Int
  mute : Int
  wait : Int
  cancel : Int
  stay : Int

def tlay : St → Lay × St :=
  tbind (tlist tnode) fun n => tbind (tlist tsec) fun c => tbind trows fun p => tbind (tlist tpoint) fun q => tbind trows fun r =>
    tbind (tget 16) fun v => tbind (tget 16) fun m => tbind (tget 16) fun w => tbind (tget 16) fun x => tbind (tget 16) fun y =>
      tret ⟨n, c, p, q, r, v, m, w, x, y⟩

/-- What has failed stays so. -/
def Strict {α : Type} (p : St → α × St) : Prop := (p none).2 = none

theorem strict_get (W : Nat) : Strict (tget W) := rfl
theorem strict_ret {α : Type} (x : α) : Strict (tret x) := rfl
theorem strict_bind {α β : Type} {p : St → α × St} {f : α → St → β × St} (hp : Strict p) (hf : ∀ a, Strict (f a)) : Strict (tbind p f) := by
  show (f (p none).1 (p none).2).2 = none
  rw [show (p none).2 = none from hp]; exact hf _
theorem strict_many {α : Type} {one : St → α × St} (h : Strict one) (n : Nat) : Strict (tmany one n) := by
  induction n with
  | zero => rfl
  | succ n ih =>
    show (one (tmany one n none).2).2 = none
    rw [show (tmany one n none).2 = none from ih]; exact h
theorem strict_list {α : Type} {one : St → α × St} (h : Strict one) : Strict (tlist one) := strict_bind (strict_get 8) fun n => strict_many h n
theorem strict_int : Strict tint := rfl
theorem strict_node : Strict tnode := rfl
theorem strict_sec : Strict tsec := rfl
theorem strict_point : Strict tpoint := rfl
theorem strict_row : Strict trow := strict_list strict_int
theorem strict_rows : Strict trows := strict_list strict_row

/-- Once failed, however many follow. -/
theorem many_none {α : Type} {one : St → α × St} (h : Strict one) {s : St} {i n : Nat} (hi : i ≤ n) (hn : (tmany one i s).2 = none) : (tmany one n s).2 = none := by
  induction n with
  | zero => obtain rfl : i = 0 := by omega
            exact hn
  | succ n ih =>
    rcases Nat.lt_or_ge i (n + 1) with c | c
    · show (one (tmany one n s).2).2 = none
      rw [ih (by omega)]; exact h
    · obtain rfl : i = n + 1 := by omega
      exact hn

/-- 'c' is read as 'x', whatever is behind it; cut anywhere, it fails. -/
structure Enc {α : Type} (p : St → α × St) (x : α) (c : List Bool) : Prop where
  back : ∀ r, p (some (c ++ r)) = (x, some r)
  cut : ∀ k, k < c.length → (p (some (c.take k))).2 = none

theorem Enc.bind {α β : Type} {p : St → α × St} {f : α → St → β × St} {x : α} {y : β} {c d : List Bool} (h : Enc p x c) (hf : Enc (f x) y d) (hs : ∀ a, Strict (f a)) : Enc (tbind p f) y (c ++ d) := by
  constructor
  · intro r
    show f (p (some (c ++ d ++ r))).1 (p (some (c ++ d ++ r))).2 = _
    rw [List.append_assoc, h.back (d ++ r)]; exact hf.back r
  · intro k hk
    show (f (p (some ((c ++ d).take k))).1 (p (some ((c ++ d).take k))).2).2 = none
    by_cases hc : k < c.length
    · rw [List.take_append_of_le_length (by omega), h.cut k hc]; exact hs _
    · have e : (c ++ d).take k = c ++ d.take (k - c.length) := by
        rw [List.take_append, List.take_of_length_le (by omega)]
      rw [e, h.back]
      refine hf.cut _ ?_
      rw [List.length_append] at hk; omega

theorem Enc.ret {α : Type} (x : α) : Enc (tret x) x [] := ⟨fun _ => rfl, fun k hk => absurd hk (by simp)⟩

theorem Enc.mono {α : Type} {p : St → α × St} {x y : α} {c d : List Bool} (h : Enc p x c) (hx : x = y) (hc : c = d) : Enc p y d := by subst hx; subst hc; exact h

theorem Enc.many {α β : Type} {one : St → α × St} {f : β → List Bool} {g : β → α} (hs : Strict one) (xs : List β) (h : ∀ x ∈ xs, Enc one (g x) (f x)) : ∀ k, k ≤ xs.length → Enc (tmany one k) ((xs.take k).map g) ((xs.take k).flatMap f) := by
  intro k
  induction k with
  | zero => intro _; exact ⟨fun _ => rfl, fun k hk => absurd hk (by simp)⟩
  | succ k ih =>
    intro hk
    have hb := (ih (by omega)).bind (f := fun l => tbind one fun x => tret (l ++ [x])) ((h _ (List.getElem_mem (show k < xs.length by omega))).bind (Enc.ret _) (fun _ => rfl)) (fun a => strict_bind hs fun _ => rfl)
    rw [List.append_nil] at hb
    refine Enc.mono (p := tmany one (k + 1)) ⟨hb.back, hb.cut⟩ ?_ ?_
    · rw [List.take_succ_eq_append_getElem (by omega), List.map_append]; rfl
    · rw [List.take_succ_eq_append_getElem (by omega), List.flatMap_append]; simp

/-- The lowest bits of a number. -/
def u (n : Int) : Nat := (n % 18446744073709551616).toNat
def nbit (W : Nat) (n : Int) : List Bool := numBits (u n) W

theorem hor_numBits (N W : Nat) (r : List Bool) : ∀ i, i ≤ W → hor (numBits N W ++ r) 0 i = N / 2 ^ (W - i) % 2 ^ i := by
  intro i
  induction i with
  | zero => intro _; simp [hor, Nat.mod_one]
  | succ i ih =>
    intro hi
    have hg : get (numBits N W ++ r) (0 + i) = N.testBit (W - 1 - i) := by
      unfold get
      rw [Nat.zero_add, List.getD, List.getElem?_append_left (by rw [numBits_length]; omega)]
      simp [numBits, show i < W by omega]
    show 2 * hor _ 0 i + (get _ (0 + i)).toNat = _
    rw [ih (by omega), hg, Nat.testBit_eq_decide_div_mod_eq, show W - 1 - i = W - (i + 1) from by omega]
    have e : W - i = (W - (i + 1)) + 1 := by omega
    rw [e, Nat.pow_succ, ← Nat.div_div_eq_div_mul]
    generalize N / 2 ^ (W - (i + 1)) = M
    rw [Nat.pow_succ]
    have h1 : M % (2 ^ i * 2) = M % 2 + 2 * (M / 2 % 2 ^ i) := by rw [Nat.mul_comm, Nat.mod_mul]
    rw [h1]
    rcases Nat.mod_two_eq_zero_or_one M with c | c <;> simp [c] <;> omega

theorem enc_num (N W : Nat) : Enc (tget W) (N % 2 ^ W) (numBits N W) := by
  constructor
  · intro r
    rw [tget_long (by rw [List.length_append, numBits_length]; omega), hor_numBits N W r W (Nat.le_refl _)]
    rw [Nat.sub_self, Nat.pow_zero, Nat.div_one]
    congr 2
    rw [List.drop_append_of_le_length (by rw [numBits_length]; omega), List.drop_of_length_le (by rw [numBits_length]; omega)]; rfl
  · intro k hk
    rw [tget_short]
    rw [List.length_take]; rw [numBits_length] at hk ⊢; omega

def low (W : Nat) (n : Int) : Int := n % 2 ^ W

theorem u_low (W : Nat) (n : Int) (hW : W ≤ 64) : ((u n % 2 ^ W : Nat) : Int) = low W n := by
  unfold u low
  have h0 : (0 : Int) ≤ n % 18446744073709551616 := Int.emod_nonneg _ (by decide)
  rw [Int.natCast_emod, Int.toNat_of_nonneg h0]
  have hd : ((2 ^ W : Nat) : Int) ∣ 18446744073709551616 := by
    have : (2 : Nat) ^ W ∣ 2 ^ 64 := Nat.pow_dvd_pow 2 hW
    exact Int.natCast_dvd_natCast.2 this
  rw [Int.emod_emod_of_dvd _ hd]
  simp

theorem low_id (W : Nat) (n : Int) (h0 : 0 ≤ n) (h1 : n < 2 ^ W) : low W n = n := Int.emod_eq_of_lt h0 h1

theorem sgn_u (n : Int) (h0 : -2147483648 ≤ n) (h1 : n < 2147483648) : sgn (u n % 2 ^ 32) = n := by
  unfold sgn u
  omega

def eint (n : Int) : List Bool := nbit 8 n
def enode (p : Int × Int) : List Bool := nbit 32 p.1 ++ nbit 32 p.2
def esec (s : Int × Int × Int) : List Bool := nbit 16 s.1 ++ (nbit 8 s.2.1 ++ nbit 8 s.2.2)
def epoint (s : Int × Int × Int × Int) : List Bool := nbit 8 s.1 ++ (nbit 8 s.2.1 ++ (nbit 8 s.2.2.1 ++ nbit 8 s.2.2.2))
def elist {α : Type} (f : α → List Bool) (l : List α) : List Bool := nbit 8 (l.length : Int) ++ l.flatMap f
def erow (l : List Int) : List Bool := elist eint l
def erows (l : List (List Int)) : List Bool := elist erow l
def etimes (L : Lay) : List Bool := nbit 16 L.speed ++ (nbit 16 L.mute ++ (nbit 16 L.wait ++ (nbit 16 L.cancel ++ nbit 16 L.stay)))
/-- What is behind the letters. -/
def ebody (L : Lay) : List Bool := elist enode L.nodes ++ (elist esec L.secs ++ (erows L.parts ++ (elist epoint L.points ++ (erows L.routes ++ etimes L))))
def enc (L : Lay) : List Bool := nbit 8 66 ++ (nbit 8 76 ++ ebody L)

/-- Not too many of anything; nodes whose parts have room. -/
structure Room (L : Lay) : Prop where
  nodes : L.nodes.length ≤ 255
  secs : L.secs.length ≤ 255
  parts : L.parts.length ≤ 255
  points : L.points.length ≤ 255
  routes : L.routes.length ≤ 255
  part : ∀ r ∈ L.parts, r.length ≤ 255
  route : ∀ r ∈ L.routes, r.length ≤ 255
  node : ∀ p ∈ L.nodes, (-2147483648 ≤ p.1 ∧ p.1 < 2147483648) ∧ (-2147483648 ≤ p.2 ∧ p.2 < 2147483648)

/-- The lowest bits of each number. -/
def lows (L : Lay) : Lay :=
  ⟨L.nodes, L.secs.map (fun s => (low 16 s.1, low 8 s.2.1, low 8 s.2.2)), L.parts.map (fun r => r.map (low 8)), L.points.map (fun s => (low 8 s.1, low 8 s.2.1, low 8 s.2.2.1, low 8 s.2.2.2)), L.routes.map (fun r => r.map (low 8)),
    low 16 L.speed, low 16 L.mute, low 16 L.wait, low 16 L.cancel, low 16 L.stay⟩

theorem enc_nbit (W : Nat) (n : Int) : Enc (tget W) (u n % 2 ^ W) (nbit W n) := enc_num (u n) W

theorem u_len (n : Nat) (h : n ≤ 255) : u (n : Int) % 2 ^ 8 = n := by unfold u; omega

theorem Enc.list {α β : Type} {one : St → α × St} {f : β → List Bool} {g : β → α} (hs : Strict one) (xs : List β) (hl : xs.length ≤ 255) (h : ∀ x ∈ xs, Enc one (g x) (f x)) : Enc (tlist one) (xs.map g) (elist f xs) := by
  have hb := Enc.many hs xs h xs.length (Nat.le_refl _)
  rw [List.take_of_length_le (Nat.le_refl _)] at hb
  refine (enc_nbit 8 (xs.length : Int)).bind (f := fun n => tmany one n) ?_ (fun n => strict_many hs n)
  rw [u_len _ hl]; exact hb

theorem enc_int (n : Int) : Enc tint (low 8 n) (eint n) := by
  have h := (enc_nbit 8 n).bind (f := fun (n : Nat) => tret (n : Int)) (Enc.ret _) (fun _ => rfl)
  exact h.mono (u_low 8 n (by omega)) (by simp [eint])

theorem enc_node (p : Int × Int) (h : (-2147483648 ≤ p.1 ∧ p.1 < 2147483648) ∧ (-2147483648 ≤ p.2 ∧ p.2 < 2147483648)) : Enc tnode p (enode p) := by
  have e := (enc_nbit 32 p.1).bind (f := fun x => tbind (tget 32) fun y => tret (sgn x, sgn y)) ((enc_nbit 32 p.2).bind (Enc.ret _) (fun _ => rfl)) (fun _ => rfl)
  refine e.mono ?_ (by simp [enode])
  rw [sgn_u _ h.1.1 h.1.2, sgn_u _ h.2.1 h.2.2]

theorem enc_sec (s : Int × Int × Int) : Enc tsec (low 16 s.1, low 8 s.2.1, low 8 s.2.2) (esec s) := by
  have e := (enc_nbit 16 s.1).bind (f := fun (n : Nat) => tbind (tget 8) fun (a : Nat) => tbind (tget 8) fun (b : Nat) => tret ((n : Int), (a : Int), (b : Int))) ((enc_nbit 8 s.2.1).bind ((enc_nbit 8 s.2.2).bind (Enc.ret _) (fun _ => rfl)) (fun _ => rfl)) (fun _ => rfl)
  refine e.mono ?_ (by simp [esec])
  rw [u_low 16 _ (by omega), u_low 8 _ (by omega), u_low 8 _ (by omega)]

theorem enc_point (s : Int × Int × Int × Int) : Enc tpoint (low 8 s.1, low 8 s.2.1, low 8 s.2.2.1, low 8 s.2.2.2) (epoint s) := by
  have e := (enc_nbit 8 s.1).bind (f := fun (n : Nat) => tbind (tget 8) fun (a : Nat) => tbind (tget 8) fun (b : Nat) => tbind (tget 8) fun (c : Nat) => tret ((n : Int), (a : Int), (b : Int), (c : Int))) ((enc_nbit 8 s.2.1).bind ((enc_nbit 8 s.2.2.1).bind ((enc_nbit 8 s.2.2.2).bind (Enc.ret _) (fun _ => rfl)) (fun _ => rfl)) (fun _ => rfl)) (fun _ => rfl)
  refine e.mono ?_ (by simp [epoint])
  rw [u_low 8 _ (by omega), u_low 8 _ (by omega), u_low 8 _ (by omega), u_low 8 _ (by omega)]

theorem enc_row (r : List Int) (h : r.length ≤ 255) : Enc trow (r.map (low 8)) (erow r) := Enc.list strict_int r h fun n _ => enc_int n
theorem enc_rows (l : List (List Int)) (h : l.length ≤ 255) (hr : ∀ r ∈ l, r.length ≤ 255) : Enc trows (l.map fun r => r.map (low 8)) (erows l) := Enc.list strict_row l h fun r hr' => enc_row r (hr r hr')

theorem enc_lay (L : Lay) (h : Room L) : Enc tlay (lows L) (ebody L) := by
  have hn := (Enc.list (g := id) strict_node L.nodes h.nodes fun p hp => enc_node p (h.node p hp)).mono (List.map_id _) rfl
  have hs := Enc.list strict_sec L.secs h.secs fun s _ => enc_sec s
  have hp := enc_rows L.parts h.parts h.part
  have hq := Enc.list strict_point L.points h.points fun s _ => enc_point s
  have hr := enc_rows L.routes h.routes h.route
  refine Enc.mono (x := ⟨L.nodes, (lows L).secs, (lows L).parts, (lows L).points, (lows L).routes, ((u L.speed % 2 ^ 16 : Nat) : Int), ((u L.mute % 2 ^ 16 : Nat) : Int), ((u L.wait % 2 ^ 16 : Nat) : Int), ((u L.cancel % 2 ^ 16 : Nat) : Int), ((u L.stay % 2 ^ 16 : Nat) : Int)⟩)
    (c := elist enode L.nodes ++ (elist esec L.secs ++ (erows L.parts ++ (elist epoint L.points ++ (erows L.routes ++ (nbit 16 L.speed ++ (nbit 16 L.mute ++ (nbit 16 L.wait ++ (nbit 16 L.cancel ++ (nbit 16 L.stay ++ [])))))))))) ?_ ?_ ?_
  rotate_left
  · unfold lows
    rw [u_low 16 _ (by omega), u_low 16 _ (by omega), u_low 16 _ (by omega), u_low 16 _ (by omega), u_low 16 _ (by omega)]
  · simp [ebody, etimes]
  · unfold tlay
    refine hn.bind (hs.bind (hp.bind (hq.bind (hr.bind ((enc_nbit 16 L.speed).bind ((enc_nbit 16 L.mute).bind ((enc_nbit 16 L.wait).bind ((enc_nbit 16 L.cancel).bind ((enc_nbit 16 L.stay).bind (Enc.ret _) (fun _ => rfl)) (fun _ => rfl)) (fun _ => rfl)) (fun _ => rfl)) (fun _ => rfl)) (fun _ => rfl))
        (fun _ => strict_bind strict_rows fun _ => rfl)) (fun _ => strict_bind (strict_list strict_point) fun _ => strict_bind strict_rows fun _ => rfl))
        (fun _ => strict_bind strict_rows fun _ => strict_bind (strict_list strict_point) fun _ => strict_bind strict_rows fun _ => rfl))
        (fun _ => strict_bind (strict_list strict_sec) fun _ => strict_bind strict_rows fun _ => strict_bind (strict_list strict_point) fun _ => strict_bind strict_rows fun _ => rfl)

end Go.Proofs.Ythpfhcelmddjlaa
