/- Pure: a message as bits, and back. -/
import Derived.Test.YtcfnaajnkloobaaK1
import Derived.Test.YtcfnaajnkloobaaKnown
namespace Go.Proofs.Ytcfnaajnkloobaa
open Go.RowKit
set_option maxRecDepth 100000

/-- A message, in numbers. -/
structure Msg where
  kind : Nat
  train : Int
  time : Int
  dir : Int
  ahead : Int
  whole : Bool
  trail : List Int

def M0 : Msg := ⟨0, 0, 0, 0, 0, false, []⟩

def Alike (a b : Msg) : Prop := a.kind = b.kind ∧ a.train = b.train ∧ a.time = b.time ∧ a.dir = b.dir ∧ a.ahead = b.ahead ∧ a.whole = b.whole ∧ a.trail = b.trail
instance alikeDec (a b : Msg) : Decidable (Alike a b) := by unfold Alike; infer_instance
theorem alike_refl (a : Msg) : Alike a a := ⟨rfl, rfl, rfl, rfl, rfl, rfl, rfl⟩

/-- Has a message of that kind a trail? -/
def hasT (k : Nat) : Bool := decide (k = 3) || decide (k = 6)

def erep (m : Msg) : List Bool := nbit 1 m.dir ++ (nbit 14 m.ahead ++ [m.whole])
def etrail (l : List Int) : List Bool := nbit 4 (l.length : Int) ++ l.flatMap (nbit 6)
def erest (m : Msg) : List Bool := nbit 6 m.train ++ (nbit 25 m.time ++ ((if m.kind = 3 then erep m else []) ++ (if hasT m.kind = true then etrail m.trail else [])))
def enc (m : Msg) : List Bool := nbit 3 (m.kind : Int) ++ erest m

def tone : St → Int × St := tbind (tget 6) fun n => tret (n : Int)
def trep (k : Nat) : St → (Int × Int × Bool) × St :=
  if k = 3 then tbind (tget 1) fun d => tbind (tget 14) fun a => tbind (tget 1) fun b => tret ((d : Int), (a : Int), decide (b = 1)) else tret (0, 0, false)
def ttrail (k : Nat) : St → List Int × St := if hasT k = true then tbind (tget 4) fun n => tmany tone n else tret []
def trest (k : Nat) : St → Msg × St :=
  tbind (tget 6) fun t => tbind (tget 25) fun m => tbind (trep k) fun x => tbind (ttrail k) fun l => tret ⟨k, (t : Int), (m : Int), x.1, x.2.1, x.2.2, l⟩

theorem strict_one : Strict tone := rfl
theorem strict_rep (k : Nat) : Strict (trep k) := by unfold trep; split <;> rfl
theorem strict_trail (k : Nat) : Strict (ttrail k) := by
  unfold ttrail
  split
  · exact strict_bind (strict_get 4) fun n => strict_many strict_one n
  · rfl
theorem strict_rest (k : Nat) : Strict (trest k) :=
  strict_bind (strict_get 6) fun _ => strict_bind (strict_get 25) fun _ => strict_bind (strict_rep k) fun _ => strict_bind (strict_trail k) fun _ => rfl

/-- Nothing is left but noughts up to a whole byte. -/
def endB (l : List Bool) : Bool := decide (l.length < 8) && l.all fun b => !b

def fin (r : Msg × St) : Msg × Int :=
  match r.2 with
  | none => (M0, 4)
  | some l => if endB l = true then (r.1, 0) else (M0, 2)

def decB (o : List Nat) : Msg × Int :=
  if o.length = 0 then (M0, 4)
  else if (tget 3 (body o)).1 < 1 ∨ 6 < (tget 3 (body o)).1 then (M0, 2)
  else fin (trest (tget 3 (body o)).1 (tget 3 (body o)).2)

def dec (q : List Nat) : Msg × Int :=
  if q.length < 2 then (M0, 4)
  else if sumOf (q.take (q.length - 2)) ≠ tailNum q then (M0, 3)
  else decB (q.take (q.length - 2))

/-- The lowest bits of each number, of what its kind has. -/
def lows (m : Msg) : Msg :=
  ⟨m.kind, low 6 m.train, low 25 m.time, if m.kind = 3 then low 1 m.dir else 0, if m.kind = 3 then low 14 m.ahead else 0, if m.kind = 3 then m.whole else false, if hasT m.kind = true then m.trail.map (low 6) else []⟩

theorem enc_one (n : Int) : Enc tone (low 6 n) (nbit 6 n) := by
  have h := (enc_nbit 6 n).bind (f := fun (n : Nat) => tret (n : Int)) (Enc.ret _) (fun _ => rfl)
  exact h.mono (u_low 6 n (by omega)) (by simp)

theorem enc_flag (b : Bool) : Enc (tbind (tget 1) fun n => tret (decide (n = 1))) b [b] := by
  have h := (enc_num b.toNat 1).bind (f := fun (n : Nat) => tret (decide (n = 1))) (Enc.ret _) (fun _ => rfl)
  refine h.mono ?_ ?_ <;> cases b <;> decide

theorem enc_rep (m : Msg) : Enc (trep m.kind) (if m.kind = 3 then low 1 m.dir else 0, if m.kind = 3 then low 14 m.ahead else 0, if m.kind = 3 then m.whole else false) (if m.kind = 3 then erep m else []) := by
  by_cases h : m.kind = 3
  · unfold trep
    rw [if_pos h, if_pos h, if_pos h, if_pos h, if_pos h]
    have e3 : Enc (tbind (tget 1) fun b => tret ((((u m.dir % 2 ^ 1 : Nat) : Int), ((u m.ahead % 2 ^ 14 : Nat) : Int), decide (b = 1)) : Int × Int × Bool)) (((u m.dir % 2 ^ 1 : Nat) : Int), ((u m.ahead % 2 ^ 14 : Nat) : Int), m.whole) [m.whole] := by
      have h := (enc_num m.whole.toNat 1).bind (f := fun (n : Nat) => tret ((((u m.dir % 2 ^ 1 : Nat) : Int), ((u m.ahead % 2 ^ 14 : Nat) : Int), decide (n = 1)) : Int × Int × Bool)) (Enc.ret _) (fun _ => rfl)
      refine h.mono ?_ ?_
      · cases m.whole <;> rfl
      · cases m.whole <;> rfl
    have h := (enc_nbit 1 m.dir).bind (f := fun (d : Nat) => tbind (tget 14) fun (a : Nat) => tbind (tget 1) fun (b : Nat) => tret (((d : Int), (a : Int), decide (b = 1)) : Int × Int × Bool)) ((enc_nbit 14 m.ahead).bind e3 (fun _ => rfl)) (fun _ => rfl)
    refine h.mono ?_ rfl
    rw [u_low 1 _ (by omega), u_low 14 _ (by omega)]
  · unfold trep
    rw [if_neg h, if_neg h, if_neg h, if_neg h, if_neg h]
    exact Enc.ret _

theorem u_len (n : Nat) (h : n ≤ 15) : u (n : Int) % 2 ^ 4 = n := by unfold u; omega

theorem enc_trail (m : Msg) (hl : hasT m.kind = true → m.trail.length ≤ 15) : Enc (ttrail m.kind) (if hasT m.kind = true then m.trail.map (low 6) else []) (if hasT m.kind = true then etrail m.trail else []) := by
  by_cases h : hasT m.kind = true
  · unfold ttrail
    rw [if_pos h, if_pos h, if_pos h]
    have hb := Enc.many (f := nbit 6) (g := low 6) strict_one m.trail (fun x _ => enc_one x) m.trail.length (Nat.le_refl _)
    rw [List.take_of_length_le (Nat.le_refl _)] at hb
    refine (enc_nbit 4 (m.trail.length : Int)).bind (f := fun n => tmany tone n) ?_ (fun n => strict_many strict_one n)
    rw [u_len _ (hl h)]; exact hb
  · unfold ttrail
    rw [if_neg h, if_neg h, if_neg h]
    exact Enc.ret _

theorem enc_rest (m : Msg) (hl : hasT m.kind = true → m.trail.length ≤ 15) : Enc (trest m.kind) (lows m) (erest m) := by
  have h := (enc_nbit 6 m.train).bind (f := fun (t : Nat) => tbind (tget 25) fun (n : Nat) => tbind (trep m.kind) fun x => tbind (ttrail m.kind) fun l => tret (⟨m.kind, (t : Int), (n : Int), x.1, x.2.1, x.2.2, l⟩ : Msg))
    ((enc_nbit 25 m.time).bind ((enc_rep m).bind ((enc_trail m hl).bind (Enc.ret _) (fun _ => rfl)) (fun _ => strict_bind (strict_trail _) fun _ => rfl)) (fun _ => strict_bind (strict_rep _) fun _ => strict_bind (strict_trail _) fun _ => rfl))
    (fun _ => strict_bind (strict_get 25) fun _ => strict_bind (strict_rep _) fun _ => strict_bind (strict_trail _) fun _ => rfl)
  refine h.mono ?_ (by simp [erest])
  unfold lows
  rw [u_low 6 _ (by omega), u_low 25 _ (by omega)]

/-- The bits of bytes that bits were laid into. -/
theorem upto_pack (l : List Bool) : upto (pack l) (pack l).length = l ++ List.replicate (8 * nb l.length - l.length) false := by
  have hn := len_nb l.length
  apply List.ext_getElem
  · rw [upto_length, pack_length, List.length_append, List.length_replicate]; omega
  · intro k h1 h2
    have hk : k < 8 * nb l.length := by rw [upto_length, pack_length] at h1; exact h1
    have e1 : (upto (pack l) (pack l).length)[k] = bitQ (pack l) k := by simp [upto]
    rw [e1, bitQ_pack l k hk]
    unfold get
    rw [List.getElem_append]
    split
    · next h => simp [List.getD, h]
    · next h => simp [List.getD, Nat.le_of_not_lt h]

theorem tget3 (k : Nat) (hk : k < 8) (r : List Bool) : tget 3 (some (nbit 3 (k : Int) ++ r)) = (k, some r) := by
  rw [(enc_nbit 3 (k : Int)).back r, show u (k : Int) % 2 ^ 3 = k from by unfold u; omega]

theorem enc_len (m : Msg) : 34 ≤ (enc m).length := by
  unfold enc erest; simp only [List.length_append, nbit_length]; omega

theorem pack_pos (m : Msg) : 5 ≤ (pack (enc m)).length := by
  have := enc_len m; rw [pack_length]; unfold nb; omega

theorem decB_enc (m : Msg) (hk : 1 ≤ m.kind ∧ m.kind ≤ 6) (hl : hasT m.kind = true → m.trail.length ≤ 15) : decB (pack (enc m)) = (lows m, 0) := by
  have hp := pack_pos m
  have hb : body (pack (enc m)) = some (nbit 3 (m.kind : Int) ++ (erest m ++ List.replicate (8 * nb (enc m).length - (enc m).length) false)) := by
    unfold body; rw [upto_pack]
    rw [show enc m = nbit 3 (m.kind : Int) ++ erest m from rfl, List.append_assoc]
  unfold decB
  rw [if_neg (by omega), hb, tget3 _ (by omega)]
  simp only
  rw [if_neg (by omega), (enc_rest m hl).back]
  unfold fin
  simp only
  rw [if_pos]
  unfold endB
  rw [List.length_replicate]
  have := len_nb (enc m).length
  simp; omega

theorem dec_closed (q : List Nat) : dec (closed q) = decB q := by
  unfold dec
  have h1 : (closed q).take ((closed q).length - 2) = q := closed_take q
  rw [if_neg (by rw [closed_length]; omega), h1, if_neg (by rw [tailNum_closed]; simp)]

theorem dec_enc (m : Msg) (hk : 1 ≤ m.kind ∧ m.kind ≤ 6) (hl : hasT m.kind = true → m.trail.length ≤ 15) : dec (closed (pack (enc m))) = (lows m, 0) := by
  rw [dec_closed]; exact decB_enc m hk hl

theorem dec_cut (m : Msg) (hk : 1 ≤ m.kind ∧ m.kind ≤ 6) (hl : hasT m.kind = true → m.trail.length ≤ 15) (k : Nat) (h : k < (pack (enc m)).length) : dec (closed ((pack (enc m)).take k)) = (M0, 4) := by
  rw [dec_closed]
  unfold decB
  by_cases h0 : k = 0
  · subst h0; rw [if_pos (by simp)]
  have hlen : ((pack (enc m)).take k).length = k := by rw [List.length_take]; omega
  rw [if_neg (by omega)]
  have hn := len_nb (enc m).length
  rw [pack_length] at h
  have hb : body ((pack (enc m)).take k) = some (nbit 3 (m.kind : Int) ++ (erest m).take (8 * k - 3)) := by
    unfold body
    rw [upto_take _ _ (by rw [pack_length]; omega), upto_pack, List.take_append_of_le_length (by omega)]
    unfold enc
    rw [List.take_append, List.take_of_length_le (by rw [nbit_length]; omega), nbit_length]
  rw [hb, tget3 _ (by omega)]
  simp only
  rw [if_neg (by omega)]
  unfold fin
  rw [(enc_rest m hl).cut (8 * k - 3) (by have : (enc m).length = 3 + (erest m).length := by unfold enc; rw [List.length_append, nbit_length]
                                          omega)]

/-- A message that may be. -/
structure Fits (m : Msg) : Prop where
  kind : 1 ≤ m.kind ∧ m.kind ≤ 6
  train : 0 ≤ m.train ∧ m.train < 64
  time : 0 ≤ m.time ∧ m.time < 33554432
  dir : 0 ≤ m.dir ∧ m.dir < 2
  ahead : 0 ≤ m.ahead ∧ m.ahead < 16384
  other : m.kind ≠ 3 → m.dir = 0 ∧ m.ahead = 0 ∧ m.whole = false
  trail : m.trail.length ≤ 15
  sec : ∀ n ∈ m.trail, 0 ≤ n ∧ n < 64
  none : hasT m.kind = false → m.trail = []

theorem pow6 : (2 : Int) ^ 6 = 64 := by decide
theorem pow25 : (2 : Int) ^ 25 = 33554432 := by decide
theorem pow14 : (2 : Int) ^ 14 = 16384 := by decide
theorem pow1 : (2 : Int) ^ 1 = 2 := by decide

theorem map_low {l : List Int} (h : ∀ n ∈ l, 0 ≤ n ∧ n < 64) : l.map (low 6) = l := by
  have : l.map (low 6) = l.map id := List.map_congr_left fun n hn => low_id 6 n (h n hn).1 (by rw [pow6]; exact (h n hn).2)
  rw [this, List.map_id]

theorem lows_id {m : Msg} (h : Fits m) : lows m = m := by
  obtain ⟨k, t, n, d, a, w, l⟩ := m
  have h1 := low_id 6 t h.train.1 (by rw [pow6]; exact h.train.2)
  have h2 := low_id 25 n h.time.1 (by rw [pow25]; exact h.time.2)
  have h3 := low_id 1 d h.dir.1 (by rw [pow1]; exact h.dir.2)
  have h4 := low_id 14 a h.ahead.1 (by rw [pow14]; exact h.ahead.2)
  have h5 := map_low h.sec
  have h6 := h.other
  have h7 := h.none
  simp only at h5 h6 h7
  unfold lows
  simp only
  rw [h1, h2, h3, h4, h5]
  by_cases c : k = 3
  · rw [if_pos c, if_pos c, if_pos c, if_pos (by rw [c]; rfl)]
  · obtain ⟨e1, e2, e3⟩ := h6 c
    rw [if_neg c, if_neg c, if_neg c, e1, e2, e3]
    cases hc : hasT k with
    | true => rw [if_pos rfl]
    | false => rw [if_neg (by simp), h7 hc]

theorem dec_fits {m : Msg} (h : Fits m) : dec (closed (pack (enc m))) = (m, 0) := by rw [dec_enc m h.kind fun _ => h.trail, lows_id h]

end Go.Proofs.Ytcfnaajnkloobaa
