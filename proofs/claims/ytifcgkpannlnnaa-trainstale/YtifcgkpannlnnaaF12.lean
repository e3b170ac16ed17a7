/- A byte or a bool that is written over: what holds neither stands. -/
import Derived.Test.YtifcgkpannlnnaaF10
import Derived.Test.YtifcgkpannlnnaaQ12
namespace Go.Proofs.Ytifcgkpannlnnaa
open Go.RowKit Fl Go.Maps
set_option maxRecDepth 100000

/-- What holds no byte and no bool stands. -/
def KN (w w' : World) : Prop := ∀ (p : Addr) (u : Value), w.cell? p = some u → (∀ x, u ≠ .int .u8 x) → (∀ b, u ≠ .bool b) → w'.cell? p = some u
theorem kn_set {w : World} {a : Addr} {x : Int} (u : Value) (h : w.cell? a = some (.int .u8 x)) : KN w (w.setCell a u) := fun p z hz hn _ => by
  by_cases e : a = p
  · subst e
    rw [h] at hz
    cases hz
    exact absurd rfl (hn x)
  · rw [World.cell?_setCell_other (h := e)]; exact hz
theorem kn_bool {w : World} {a : Addr} {x : Bool} (u : Value) (h : w.cell? a = some (.bool x)) : KN w (w.setCell a u) := fun p z hz _ hn => by
  by_cases e : a = p
  · subst e
    rw [h] at hz
    cases hz
    exact absurd rfl (hn x)
  · rw [World.cell?_setCell_other (h := e)]; exact hz
theorem Rd.kn {w w' : World} {D : Nat} {v : Value} {xs : List Value} (h : Rd w D v xs) (k : KN w w') (hn : ∀ u ∈ xs, (∀ x, u ≠ .int .u8 x) ∧ ∀ b, u ≠ .bool b) : Rd w' D v xs := by
  obtain ⟨A, c, hv, h0, hx⟩ := h
  refine ⟨A, c, hv, h0, fun hp => ?_⟩
  obtain ⟨b, o, hA, hb, hc⟩ := hx hp
  exact ⟨b, o, hA, hb, fun j u hu => k _ _ (hc j u hu) (hn u (List.mem_of_getElem? hu)).1 (hn u (List.mem_of_getElem? hu)).2⟩
theorem ivals_kn (xs : List Int) : ∀ u ∈ ivals xs, (∀ x, u ≠ .int .u8 x) ∧ ∀ b, u ≠ .bool b := by
  intro u hu
  refine ⟨fun x e => ?_, fun b e => ?_⟩ <;> (subst e; simp [ivals] at hu)
theorem Secs.kn {w w' : World} {D : Nat} {v : Value} {xs : List (Int × Int × Int)} (h : Secs w D v xs) (k : KN w w') : Secs w' D v xs := by
  obtain ⟨A, c, hv, hx⟩ := h
  refine ⟨A, c, hv, fun hp => ?_⟩
  obtain ⟨b, o, hA, hb, hc⟩ := hx hp
  exact ⟨b, o, hA, hb, fun j hj => ⟨k _ _ (hc j hj).1 (fun _ e => by cases e) (fun _ e => by cases e), k _ _ (hc j hj).2.1 (fun _ e => by cases e) (fun _ e => by cases e), k _ _ (hc j hj).2.2 (fun _ e => by cases e) (fun _ e => by cases e)⟩⟩
theorem Pts.kn {w w' : World} {D : Nat} {v : Value} {xs : List (Int × Int × Int × Int)} (h : Pts w D v xs) (k : KN w w') : Pts w' D v xs := by
  obtain ⟨A, c, hv, hx⟩ := h
  refine ⟨A, c, hv, fun hp => ?_⟩
  obtain ⟨b, o, hA, hb, hc⟩ := hx hp
  exact ⟨b, o, hA, hb, fun j hj => ⟨k _ _ (hc j hj).1 (fun _ e => by cases e) (fun _ e => by cases e), k _ _ (hc j hj).2.1 (fun _ e => by cases e) (fun _ e => by cases e), k _ _ (hc j hj).2.2.1 (fun _ e => by cases e) (fun _ e => by cases e), k _ _ (hc j hj).2.2.2 (fun _ e => by cases e) (fun _ e => by cases e)⟩⟩
theorem RowsAt.kn {w w' : World} {D : Nat} {v : Value} {rows : List (List Int)} (h : RowsAt w D v rows) (k : KN w w') : RowsAt w' D v rows := by
  obtain ⟨vs, h1, h2, h3⟩ := h
  refine ⟨vs, h1.kn k ?_, h2, fun i a b => (h3 i a b).kn k (ivals_kn _)⟩
  intro u hu
  obtain ⟨i, hi, rfl⟩ := List.getElem_of_mem hu
  obtain ⟨A, c, hv, _⟩ := h3 i hi (by omega)
  rw [hv]
  exact ⟨(fun _ e => by cases e), (fun _ e => by cases e)⟩
theorem LayV.kn {w w' : World} {D : Nat} {v : Value} {L : Lay} (h : LayV w D v L) (k : KN w w') : LayV w' D v L := by
  obtain ⟨vN, vS, vP, vQ, vR, ps, hv, hd⟩ := h
  refine ⟨vN, vS, vP, vQ, vR, ps, hv, ⟨hd.n.kn k ?_, hd.f, hd.s.kn k, hd.p.kn k, hd.q.kn k, hd.r.kn k⟩⟩
  intro u hu
  refine ⟨fun x e => ?_, fun b e => ?_⟩ <;> (subst e; simp [nvals] at hu)
theorem Gr.kn {w : World} {D g a i : Nat} {cs : Array Value} {vS vQ vP : Value} {L : Lay} (h : Gr w D g vS vQ vP L) (hr : Row w a 28 cs) (u : Value) (k : KN w (w.setCell ⟨a, i, none⟩ u)) : Gr (w.setCell ⟨a, i, none⟩ u) D g vS vQ vP L := by
  refine ⟨?_, h.lt, h.s.kn k, h.q.kn k, h.p.kn k⟩
  refine Row.far (p := ⟨a, i, none⟩) h.row ?_ u
  show g ≠ a
  intro e
  subst e
  have h1 : w.heap[g]? = some (.cells #[vS, vQ, vP] 75) := h.row
  have h2 : w.heap[g]? = some (.cells cs 28) := hr
  rw [h1] at h2
  injection h2 with h2
  injection h2 with _ h3
  exact absurd h3 (by decide)
theorem IsGr.kn {w : World} {D a i : Nat} {cs : Array Value} {v : Value} {L : Lay} (h : IsGr w D v L) (hr : Row w a 28 cs) (u : Value) (k : KN w (w.setCell ⟨a, i, none⟩ u)) : IsGr (w.setCell ⟨a, i, none⟩ u) D v L := by
  obtain ⟨g, p, q, r, hv, hg⟩ := h
  exact ⟨g, p, q, r, hv, hg.kn hr u k⟩
/-- A register outlives what is written into another block. -/
theorem Reg.kn {w : World} {rb mb n a i : Nat} {m : Mp} (h : Reg w rb mb n m) (u : Value) (k : KN w (w.setCell ⟨a, i, none⟩ u)) (h1 : a ≠ rb) (h2 : a ≠ mb) : Reg (w.setCell ⟨a, i, none⟩ u) rb mb n m := by
  obtain ⟨hr, D, ho, hD⟩ := h
  refine ⟨hr.far (p := ⟨a, i, none⟩) (by show rb ≠ a; omega) u, D, ?_, fun x => ⟨(hD x).1, fun t ht => ?_⟩⟩
  · obtain ⟨es, ck, e1, e2⟩ := ho
    exact ⟨es, ck, (Below.heap_setCell w ⟨a, i, none⟩ u mb (by show mb ≠ a; omega)).trans e1, e2⟩
  · obtain ⟨v, ⟨vt, hv, hvr⟩, hat⟩ := (hD x).2 t ht
    exact ⟨v, ⟨vt, hv, by rw [show (w.setCell ⟨a, i, none⟩ u).heap.size = w.heap.size by simp]; exact hvr.kn k (ivals_kn _)⟩, hat⟩

end Go.Proofs.Ytifcgkpannlnnaa
