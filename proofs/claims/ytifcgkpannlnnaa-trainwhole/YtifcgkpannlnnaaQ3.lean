/- A register in memory. -/
import Derived.Test.YtifcgkpannlnnaaQ1
import Derived.Test.YtifcgkpannlnnaaKeys
namespace Go.Proofs.Ytifcgkpannlnnaa
open Go.RowKit Fl Go.Maps
set_option maxRecDepth 100000

/-- A session. -/
structure Tr where
  id : Int
  heard : Int
  sure : Int
  dir : Int
  ahead : Int
  trail : List Int

/-- An element, read as it is. -/
def heldV (v : Value) : Option (DataW Value × List MemPlace) := some (.held v, [])
theorem zero58 (w : World) : (zeroValue 58).run Try.prog w = .ok (.agg (tcells 0 0 0 0 0 (.slice none 0 0))) w := by kernel_rfl

/-- A session's value. -/
def TrV (w : World) (v : Value) (t : Tr) : Prop := ∃ vt, v = .agg (tcells t.id t.heard t.sure t.dir t.ahead vt) ∧ Rd w w.heap.size vt (ivals t.trail)
theorem TrV.up {w w' : World} {v : Value} {t : Tr} (h : TrV w v t) (hb : Below w.heap.size w w') : TrV w' v t := by
  obtain ⟨vt, hv, hr⟩ := h; exact ⟨vt, hv, hr.up hb⟩

/-- Numbers that lie in memory outlive a turn of a map. -/
theorem rd_map {w w' : World} {mb : Nat} {es : Array MapEntry} {ck : Nat} {v : Value} {xs : List Value} (h : Rd w w.heap.size v xs) (hk : KeptL [mb] w w') (hm : w.heap[mb]? = some (.map es ck)) : Rd w' w'.heap.size v xs := by
  obtain ⟨A, c, hv, h0, hx⟩ := h
  refine ⟨A, c, hv, h0, fun hp => ?_⟩
  obtain ⟨b, o, hA, hb, hc⟩ := hx hp
  refine ⟨b, o, hA, Nat.lt_of_lt_of_le hb hk.size, fun j u hu => ?_⟩
  have h1 := hc j u hu
  have hne : b ≠ mb := by
    rintro rfl
    simp [World.cell?, hm] at h1
  have h2 := hk.block b hb (by simpa using hne)
  exact (World.cell?_of_block h2).trans h1
theorem TrV.map {w w' : World} {mb : Nat} {es : Array MapEntry} {ck : Nat} {v : Value} {t : Tr} (h : TrV w v t) (hk : KeptL [mb] w w') (hm : w.heap[mb]? = some (.map es ck)) : TrV w' v t := by
  obtain ⟨vt, hv, hr⟩ := h; exact ⟨vt, hv, rd_map hr hk hm⟩

/-- The sessions by their numbers. -/
abbrev Mp := Int → Option Tr
def upd (m : Mp) (id : Int) (t : Option Tr) : Mp := fun x => if x = id then t else m x

/-- A map's datum is these sessions. -/
def MapD (w : World) (D : DataW Value) (m : Mp) : Prop := ∀ x, Maps.has D (.int .i64 x) = (m x).isSome ∧ ∀ t, m x = some t → ∃ v, TrV w v t ∧ ∀ z, D.atKey (.int .i64 x) z = .held v

/-- A register: its cell, its map. -/
structure Reg (w : World) (rb mb n : Nat) (m : Mp) : Prop where
  row : Row w rb 93 #[.map (some mb)]
  map : ∃ D : DataW Value, w.ownsMap Try.prog 3 heldV mb n D ∧ MapD w D m

theorem Reg.is {w : World} {rb mb n : Nat} {m : Mp} (h : Reg w rb mb n m) : ∃ es ck, w.heap[mb]? = some (.map es ck) := by
  obtain ⟨D, ⟨es, ck, hb, _⟩, _⟩ := h.map; exact ⟨es, ck, hb⟩
theorem Reg.up {w w' : World} {rb mb n : Nat} {m : Mp} (h : Reg w rb mb n m) (hb : Below w.heap.size w w') : Reg w' rb mb n m := by
  obtain ⟨D, ho, hD⟩ := h.map
  refine ⟨Below.row hb h.row h.row.lt, D, below_map ho hb ho.lt, fun x => ⟨(hD x).1, fun t ht => ?_⟩⟩
  obtain ⟨v, hv, hz⟩ := (hD x).2 t ht
  exact ⟨v, hv.up hb, hz⟩
theorem Reg.mono {w : World} {rb mb n n' : Nat} {m : Mp} (h : Reg w rb mb n m) (hn : n ≤ n') : Reg w rb mb n' m := by
  obtain ⟨D, ho, hD⟩ := h.map; exact ⟨h.row, D, ho.mono hn, hD⟩
theorem kept_of_turned {w w' : World} {b : Nat} (h : w.grownBy w' (some b)) : KeptL [b] w w' := ⟨h.os, h.tape, h.output, h.size, fun k hk hn => h.block k hk (fun e => by injection e with e; subst e; exact hn (by simp))⟩

/-- A session put in. -/
theorem MapD.put {w w' : World} {mb : Nat} {es : Array MapEntry} {ck : Nat} {D : DataW Value} {m : Mp} {v : Value} {t : Tr} (h : MapD w D m) (hD : IsMap D) (hk : KeptL [mb] w w') (hm : w.heap[mb]? = some (.map es ck)) (id : Int) (hv : TrV w v t) : MapD w' (D.put (.int .i64 id) (.held v)) (upd m id (some t)) := fun x => by
  by_cases e : x = id
  · subst e
    refine ⟨?_, fun t' ht => ?_⟩
    · rw [has_put_same (k := .int .i64 x) hD (show WideAt.IsKeyLit (.int .i64 x) from trivial) _]
      simp [upd]
    · have : t = t' := by simpa [upd] using ht
      subst this
      exact ⟨v, hv.map hk hm, fun z => atKey_put_same (k := .int .i64 x) hD (show WideAt.IsKeyLit (.int .i64 x) from trivial) _ _⟩
  · have hne : (Lit.int .i64 x) ≠ (Lit.int .i64 id) := fun c => e (by injection c)
    have hu : upd m id (some t) x = m x := by simp [upd, e]
    rw [hu]
    refine ⟨by rw [has_put_other hne]; exact (h x).1, fun t' ht => ?_⟩
    obtain ⟨v', hv', hz⟩ := (h x).2 t' ht
    exact ⟨v', hv'.map hk hm, fun z => by rw [atKey_put_other hne]; exact hz z⟩
/-- A session struck. -/
theorem MapD.del {w w' : World} {mb : Nat} {es : Array MapEntry} {ck : Nat} {D : DataW Value} {m : Mp} (h : MapD w D m) (hk : KeptL [mb] w w') (hm : w.heap[mb]? = some (.map es ck)) (id : Int) : MapD w' (D.del (.int .i64 id)) (upd m id none) := fun x => by
  by_cases e : x = id
  · subst e
    refine ⟨?_, fun t' ht => ?_⟩
    · rw [has_del_same]; simp [upd]
    · simp [upd] at ht
  · have hne : (Lit.int .i64 x) ≠ (Lit.int .i64 id) := fun c => e (by injection c)
    have hu : upd m id none x = m x := by simp [upd, e]
    rw [hu]
    refine ⟨by rw [has_del_other hne]; exact (h x).1, fun t' ht => ?_⟩
    obtain ⟨v', hv', hz⟩ := (h x).2 t' ht
    exact ⟨v', hv'.map hk hm, fun z => by rw [atKey_del_other hne]; exact hz z⟩

/-- Who has a session, rising. -/
structure Ks (ks : List Int) (m : Mp) : Prop where
  sorted : ks.Pairwise (· < ·)
  mem : ∀ x, x ∈ ks ↔ (m x).isSome = true
theorem Ks.nodup {ks : List Int} {m : Mp} (h : Ks ks m) : ks.Nodup := h.sorted.imp (by intro a b h; omega)
theorem Ks.coll {w : World} {D : DataW Value} {ks : List Int} {m : Mp} (h : Ks ks m) (hD : MapD w D m) : CollectedI D (fun _ => false) ks :=
  ⟨h.nodup, fun x => by rw [h.mem x, (hD x).1]; simp⟩
theorem Ks.perm {w : World} {mb n : Nat} {D : DataW Value} {ks : List Int} {m : Mp} (h : Ks ks m) (ho : w.ownsMap Try.prog 3 heldV mb n D) (hD : MapD w D m) : ks.Perm (intKeys D) :=
  (h.coll hD).perm ho keyed3 Try.underlying3 fun _ => rfl
theorem size_keys {H : Type} {w : World} {P : Program} {k : TypeId} {R : Value → Option (DataW H × List MemPlace)} {b n : Nat} {D : DataW H} (h : w.ownsMap P k R b n D) : Maps.size D = (intKeys D).length := by
  obtain ⟨es, e⟩ := h.isMap
  rw [e, size_eq]
  show es.length = (es.map _).length
  rw [List.length_map]
theorem Ks.size {w : World} {mb n : Nat} {D : DataW Value} {ks : List Int} {m : Mp} (h : Ks ks m) (ho : w.ownsMap Try.prog 3 heldV mb n D) (hD : MapD w D m) : Maps.size D = ks.length := by
  rw [size_keys ho, (h.perm ho hD).length_eq]
theorem Ks.sorts {ks ss : List Int} {m : Mp} (h : Ks ks m) (hp : ks.Perm ss) : ss.mergeSort (fun x y => decide (x ≤ y)) = ks := by
  rw [← mergeSort_of_perm_i hp]
  exact List.mergeSort_of_pairwise (h.sorted.imp (by intro a b h; simp; omega))

end Go.Proofs.Ytifcgkpannlnnaa
