/- Pure: what was written is read; what is cut is none. -/
import Derived.Test.YthpfhcelmddjlaaRefAny
namespace Go.Proofs.Ythpfhcelmddjlaa
open Go.RowKit Fl
set_option maxRecDepth 100000

theorem eight_flat {α : Type} (f : α → List Bool) (xs : List α) (h : ∀ x, (f x).length % 8 = 0) : (xs.flatMap f).length % 8 = 0 := by
  induction xs with
  | nil => rfl
  | cons a r ih => rw [List.flatMap_cons, List.length_append]; have := h a; omega

theorem eight_list {α : Type} (f : α → List Bool) (xs : List α) (h : ∀ x, (f x).length % 8 = 0) : (elist f xs).length % 8 = 0 := by
  unfold elist
  rw [List.length_append, nbit_length]
  have := eight_flat f xs h
  omega

theorem eight_body (L : Lay) : (ebody L).length % 8 = 0 := by
  have h1 := eight_list enode L.nodes (fun x => by simp [enode, nbit_length])
  have h2 := eight_list esec L.secs (fun x => by simp [esec, nbit_length])
  have h3 := eight_list epoint L.points (fun x => by simp [epoint, nbit_length])
  have hr : ∀ r : List Int, (erow r).length % 8 = 0 := fun r => eight_list eint r (fun x => by simp [eint, nbit_length])
  have h4 : (erows L.parts).length % 8 = 0 := eight_list erow L.parts hr
  have h5 : (erows L.routes).length % 8 = 0 := eight_list erow L.routes hr
  unfold ebody etimes
  simp only [List.length_append, nbit_length]
  omega

theorem eight_enc (L : Lay) : (enc L).length % 8 = 0 := by
  unfold enc
  simp only [List.length_append, nbit_length]
  have := eight_body L
  omega

theorem pack_len8 (l : List Bool) (h : l.length % 8 = 0) : (pack l).length = l.length / 8 := by rw [pack_length]; unfold nb; omega

theorem upto_pack (l : List Bool) (h : l.length % 8 = 0) : upto (pack l) (pack l).length = l := by
  apply List.ext_getElem
  · rw [upto_length, pack_len8 l h]; omega
  · intro i h1 h2
    simp only [upto, List.getElem_map, List.getElem_range]
    rw [bitQ_pack l i (by rw [← pack_length]; rw [upto_length] at h1; exact h1)]
    unfold get
    simp [List.getD, h2]

theorem body_pack (l : List Bool) (h : l.length % 8 = 0) : body (pack l) = some l := by
  show some _ = some _
  rw [upto_pack l h]

theorem okBL_enc (r : List Bool) : okBL (some (nbit 8 66 ++ (nbit 8 76 ++ r))) = true ∧ (tget 8 (tget 8 (some (nbit 8 66 ++ (nbit 8 76 ++ r)))).2).2 = some r := by
  have h1 := (enc_nbit 8 66).back (nbit 8 76 ++ r)
  have h2 := (enc_nbit 8 76).back r
  unfold okBL
  rw [h1, h2]
  refine ⟨?_, rfl⟩
  rfl

theorem tlay_enc (L : Lay) (h : Room L) : tlay (some (ebody L)) = (lows L, some []) := by
  have := (enc_lay L h).back []
  rw [List.append_nil] at this
  exact this

/-- A layout's bytes are read as its lowest bits. -/
theorem dec_enc (L : Lay) (h : Room L) : dec (closed (pack (enc L))) = (lows L, 0) := by
  unfold dec
  rw [if_neg (by rw [closed_length]; omega), closed_take, tailNum_closed, if_neg (by simp), body_pack _ (eight_enc L)]
  obtain ⟨h1, h2⟩ := okBL_enc (ebody L)
  show (if okBL (some (nbit 8 66 ++ (nbit 8 76 ++ ebody L))) = false then _ else _) = _
  rw [h1, if_neg (by simp)]
  show fin (tlay (tget 8 (tget 8 (some (nbit 8 66 ++ (nbit 8 76 ++ ebody L)))).2).2) = _
  rw [h2, tlay_enc L h]
  rfl

theorem upto_take (q : List Nat) (k : Nat) (h : k ≤ q.length) : upto (q.take k) (q.take k).length = (upto q q.length).take (8 * k) := by
  have hl : (q.take k).length = k := by rw [List.length_take]; omega
  rw [hl]
  apply List.ext_getElem
  · rw [upto_length, List.length_take, upto_length]; omega
  · intro i h1 h2
    rw [upto_length] at h1
    simp only [upto, List.getElem_take, List.getElem_map, List.getElem_range]
    unfold bitQ
    have : (q.take k).getD (i / 8) 0 = q.getD (i / 8) 0 := by
      unfold List.getD
      rw [List.getElem?_take, if_pos (by omega)]
    rw [this]

/-- Bytes that end too soon are no layout. -/
theorem dec_cut (L : Lay) (h : Room L) (k : Nat) (hk : k < (pack (enc L)).length) : dec (closed ((pack (enc L)).take k)) = (L0, if k < 2 then 2 else 4) := by
  have hb : body ((pack (enc L)).take k) = some ((enc L).take (8 * k)) := by
    show some _ = some _
    rw [upto_take _ k (by omega), upto_pack _ (eight_enc L)]
  have hlen := pack_len8 _ (eight_enc L)
  have h8 := eight_body L
  have hel : (enc L).length = 16 + (ebody L).length := by unfold enc; simp only [List.length_append, nbit_length]; omega
  unfold dec
  rw [if_neg (by rw [closed_length]; omega), closed_take, tailNum_closed, if_neg (by simp), hb]
  have e1 := (enc_nbit 8 66)
  have e2 := (enc_nbit 8 76)
  by_cases h2 : k < 2
  · rw [if_pos h2]
    have hno : okBL (some ((enc L).take (8 * k))) = false := by
      have hc : k = 0 ∨ k = 1 := by omega
      rcases hc with rfl | rfl
      · rfl
      · have : (enc L).take (8 * 1) = nbit 8 66 ++ [] := by
          unfold enc
          rw [List.take_append_of_le_length (by rw [nbit_length]; omega), List.take_of_length_le (by rw [nbit_length]; omega), List.append_nil]
        rw [this]
        unfold okBL
        rw [e1.back []]
        decide
    rw [hno, if_pos rfl]
  · rw [if_neg h2]
    have ht : (enc L).take (8 * k) = nbit 8 66 ++ (nbit 8 76 ++ (ebody L).take (8 * k - 16)) := by
      unfold enc
      rw [List.take_append, List.take_of_length_le (by rw [nbit_length]; omega), nbit_length, List.take_append, List.take_of_length_le (by rw [nbit_length]; omega), nbit_length]
      rw [show 8 * k - 8 - 8 = 8 * k - 16 from by omega]
    rw [ht]
    obtain ⟨h3, h4⟩ := okBL_enc ((ebody L).take (8 * k - 16))
    rw [h3, if_neg (by simp), h4]
    have hc := (enc_lay L h).cut (8 * k - 16) (by omega)
    unfold fin
    rw [hc]

theorem lows_id (L : Lay) (hs : ∀ s ∈ L.secs, (0 ≤ s.1 ∧ s.1 < 65536) ∧ (0 ≤ s.2.1 ∧ s.2.1 < 256) ∧ (0 ≤ s.2.2 ∧ s.2.2 < 256)) (hp : ∀ r ∈ L.parts, ∀ n ∈ r, 0 ≤ n ∧ n < 256) (hr : ∀ r ∈ L.routes, ∀ n ∈ r, 0 ≤ n ∧ n < 256)
    (hq : ∀ s ∈ L.points, (0 ≤ s.1 ∧ s.1 < 256) ∧ (0 ≤ s.2.1 ∧ s.2.1 < 256) ∧ (0 ≤ s.2.2.1 ∧ s.2.2.1 < 256) ∧ (0 ≤ s.2.2.2 ∧ s.2.2.2 < 256))
    (ht : (0 ≤ L.speed ∧ L.speed < 65536) ∧ (0 ≤ L.mute ∧ L.mute < 65536) ∧ (0 ≤ L.wait ∧ L.wait < 65536) ∧ (0 ≤ L.cancel ∧ L.cancel < 65536) ∧ (0 ≤ L.stay ∧ L.stay < 65536)) : lows L = L := by
  have l8 : ∀ n : Int, 0 ≤ n → n < 256 → low 8 n = n := fun n h0 h1 => low_id 8 n h0 h1
  have l16 : ∀ n : Int, 0 ≤ n → n < 65536 → low 16 n = n := fun n h0 h1 => low_id 16 n h0 h1
  have row : ∀ l : List (List Int), (∀ r ∈ l, ∀ n ∈ r, 0 ≤ n ∧ n < 256) → l.map (fun r => r.map (low 8)) = l := fun l h => by
    conv => rhs; rw [← List.map_id l]
    apply List.map_congr_left
    intro r hr'
    show r.map (low 8) = r
    conv => rhs; rw [← List.map_id r]
    apply List.map_congr_left
    intro n hn
    exact l8 n (h r hr' n hn).1 (h r hr' n hn).2
  unfold lows
  obtain ⟨n, s, p, q, r, a, b, c, d, e⟩ := L
  simp only at *
  rw [row p hp, row r hr, l16 a ht.1.1 ht.1.2, l16 b ht.2.1.1 ht.2.1.2, l16 c ht.2.2.1.1 ht.2.2.1.2, l16 d ht.2.2.2.1.1 ht.2.2.2.1.2, l16 e ht.2.2.2.2.1 ht.2.2.2.2.2]
  congr 1
  · conv => rhs; rw [← List.map_id s]
    apply List.map_congr_left
    intro x hx
    obtain ⟨h1, h2, h3⟩ := hs x hx
    show (low 16 x.1, low 8 x.2.1, low 8 x.2.2) = x
    rw [l16 _ h1.1 h1.2, l8 _ h2.1 h2.2, l8 _ h3.1 h3.2]
  · conv => rhs; rw [← List.map_id q]
    apply List.map_congr_left
    intro x hx
    obtain ⟨h1, h2, h3, h4⟩ := hq x hx
    show (low 8 x.1, low 8 x.2.1, low 8 x.2.2.1, low 8 x.2.2.2) = x
    rw [l8 _ h1.1 h1.2, l8 _ h2.1 h2.2, l8 _ h3.1 h3.2, l8 _ h4.1 h4.2]

end Go.Proofs.Ythpfhcelmddjlaa
