/- A byte that is written over: what holds no byte stands. -/
import Derived.Test.YtifcgkpannlnnaaF9
namespace Go.Proofs.Ytifcgkpannlnnaa
open Go.RowKit Fl
set_option maxRecDepth 100000

/-- What holds no byte stands. -/
def K8 (w w' : World) : Prop := ∀ (p : Addr) (u : Value), w.cell? p = some u → (∀ x, u ≠ .int .u8 x) → w'.cell? p = some u
theorem k8_set {w : World} {a : Addr} {x : Int} (u : Value) (h : w.cell? a = some (.int .u8 x)) : K8 w (w.setCell a u) := fun p z hz hn => by
  by_cases e : a = p
  · subst e
    rw [h] at hz
    cases hz
    exact absurd rfl (hn x)
  · rw [World.cell?_setCell_other (h := e)]; exact hz
theorem Rd.k8 {w w' : World} {D : Nat} {v : Value} {xs : List Value} (h : Rd w D v xs) (k : K8 w w') (hn : ∀ u ∈ xs, ∀ x, u ≠ .int .u8 x) : Rd w' D v xs := by
  obtain ⟨A, c, hv, h0, hx⟩ := h
  refine ⟨A, c, hv, h0, fun hp => ?_⟩
  obtain ⟨b, o, hA, hb, hc⟩ := hx hp
  exact ⟨b, o, hA, hb, fun j u hu => k _ _ (hc j u hu) (hn u (List.mem_of_getElem? hu))⟩
theorem ivals_k8 (xs : List Int) : ∀ u ∈ ivals xs, ∀ x, u ≠ .int .u8 x := by
  intro u hu x e
  subst e
  simp [ivals] at hu
theorem Secs.k8 {w w' : World} {D : Nat} {v : Value} {xs : List (Int × Int × Int)} (h : Secs w D v xs) (k : K8 w w') : Secs w' D v xs := by
  obtain ⟨A, c, hv, hx⟩ := h
  refine ⟨A, c, hv, fun hp => ?_⟩
  obtain ⟨b, o, hA, hb, hc⟩ := hx hp
  exact ⟨b, o, hA, hb, fun j hj => ⟨k _ _ (hc j hj).1 (fun _ e => by cases e), k _ _ (hc j hj).2.1 (fun _ e => by cases e), k _ _ (hc j hj).2.2 (fun _ e => by cases e)⟩⟩
theorem Pts.k8 {w w' : World} {D : Nat} {v : Value} {xs : List (Int × Int × Int × Int)} (h : Pts w D v xs) (k : K8 w w') : Pts w' D v xs := by
  obtain ⟨A, c, hv, hx⟩ := h
  refine ⟨A, c, hv, fun hp => ?_⟩
  obtain ⟨b, o, hA, hb, hc⟩ := hx hp
  exact ⟨b, o, hA, hb, fun j hj => ⟨k _ _ (hc j hj).1 (fun _ e => by cases e), k _ _ (hc j hj).2.1 (fun _ e => by cases e), k _ _ (hc j hj).2.2.1 (fun _ e => by cases e), k _ _ (hc j hj).2.2.2 (fun _ e => by cases e)⟩⟩
theorem RowsAt.k8 {w w' : World} {D : Nat} {v : Value} {rows : List (List Int)} (h : RowsAt w D v rows) (k : K8 w w') : RowsAt w' D v rows := by
  obtain ⟨vs, h1, h2, h3⟩ := h
  refine ⟨vs, h1.k8 k ?_, h2, fun i a b => (h3 i a b).k8 k (ivals_k8 _)⟩
  intro u hu x e
  obtain ⟨i, hi, rfl⟩ := List.getElem_of_mem hu
  obtain ⟨A, c, hv, _⟩ := h3 i hi (by omega)
  rw [hv] at e
  cases e
theorem LayV.k8 {w w' : World} {D : Nat} {v : Value} {L : Lay} (h : LayV w D v L) (k : K8 w w') : LayV w' D v L := by
  obtain ⟨vN, vS, vP, vQ, vR, ps, hv, hd⟩ := h
  refine ⟨vN, vS, vP, vQ, vR, ps, hv, ⟨hd.n.k8 k ?_, hd.f, hd.s.k8 k, hd.p.k8 k, hd.q.k8 k, hd.r.k8 k⟩⟩
  intro u hu x e
  subst e
  simp [nvals] at hu
theorem Gr.k8 {w : World} {D g a i : Nat} {cs : Array Value} {vS vQ vP : Value} {L : Lay} {x : Int} (h : Gr w D g vS vQ vP L) (hr : Row w a 28 cs) (hx : w.cell? ⟨a, i, none⟩ = some (.int .u8 x)) (u : Value) : Gr (w.setCell ⟨a, i, none⟩ u) D g vS vQ vP L := by
  have k := k8_set u hx
  refine ⟨?_, h.lt, h.s.k8 k, h.q.k8 k, h.p.k8 k⟩
  refine Row.far (p := ⟨a, i, none⟩) h.row ?_ u
  show g ≠ a
  intro e
  subst e
  have h1 : w.heap[g]? = some (.cells #[vS, vQ, vP] 75) := h.row
  have h2 : w.heap[g]? = some (.cells cs 28) := hr
  rw [h1] at h2
  injection h2 with h2
  injection h2 with _ h3
  exact absurd h3 (by decide)
theorem IsGr.k8 {w : World} {D a i : Nat} {cs : Array Value} {v : Value} {L : Lay} {x : Int} (h : IsGr w D v L) (hr : Row w a 28 cs) (hx : w.cell? ⟨a, i, none⟩ = some (.int .u8 x)) (u : Value) : IsGr (w.setCell ⟨a, i, none⟩ u) D v L := by
  obtain ⟨g, p, q, r, hv, hg⟩ := h
  exact ⟨g, p, q, r, hv, hg.k8 hr hx u⟩

/-- Of a draft's track. -/
theorem full_secs (d : Dr) : 0 < (fullL d).secs.length ∧ ∀ n, n < (fullL d).secs.length → 0 < lenL (fullL d).secs (n : Int) ∧ lenL (fullL d).secs (n : Int) ≤ 1000 := by
  have e : (fullL d).secs.length = (makeEnds d).length := makeSecs_len d _ _
  refine ⟨by have := makeEnds_len d; omega, fun n hn => ?_⟩
  have h1 : lenL (fullL d).secs (n : Int) = ((fullL d).secs.getD n (0, 0, 0)).1 := by
    unfold lenL hasB
    rw [if_pos (by simp; omega)]; simp
  rw [h1]
  have key : ∀ (m i : Nat), i < m → 0 < ((makeSecs d (makeEnds d) m).getD i (0, 0, 0)).1 ∧ ((makeSecs d (makeEnds d) m).getD i (0, 0, 0)).1 ≤ 1000 := by
    intro m
    induction m with
    | zero => intro i hi; omega
    | succ m ih =>
      intro i hi
      have l := makeSecs_len d (makeEnds d) m
      simp only [makeSecs, List.getD]
      rcases Nat.lt_or_ge i m with c | c
      · rw [List.getElem?_append_left (by omega)]
        have := ih i c
        simpa only [List.getD] using this
      · have e2 : i = m := by omega
        rw [List.getElem?_append_right (by omega), l, e2, Nat.sub_self]
        have hu := unit_bounds d
        simp
        omega
  exact key _ n (by omega)

end Go.Proofs.Ytifcgkpannlnnaa
