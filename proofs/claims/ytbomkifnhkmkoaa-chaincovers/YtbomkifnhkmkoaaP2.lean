/- A train that goes on, as the points stand, no faster than may be, is within its span: the pure side. -/
import Derived.Test.YtbomkifnhkmkoaaCM2
namespace Go.Proofs.Ytbomkifnhkmkoaa
open Go.RowKit Fl
set_option maxRecDepth 100000

/-- Where a train is that may have gone B metres: it leaves at 'at_' the section whose end is D metres on; it has come into 'acc'. -/
structure Cov (L : Lay) (R : List Bool) (T : List Int) (dv e B : Int) (at_ : Int × Int) (D : Int) (acc : List Int) : Prop where
  go : ∀ B', B ≤ B' → GoSt L R T (aheadL L R T dv (B' - e)) at_ (B' - D) acc
  last : (T.reverse ++ acc).getLast? = some at_.1

theorem Cov.start {L : Lay} {R : List Bool} {T : List Int} {dv e : Int} (h0 : 0 < T.length) (ok : okE L (T.getD 0 0, dv)) (B : Int) : Cov L R T dv e B (T.getD 0 0, dv) e [] := by
  refine ⟨fun B' _ => GoSt.start (by omega) ok, ?_⟩
  rw [List.append_nil, List.getLast?_reverse]
  cases T with
  | nil => simp at h0
  | cons a r => rfl
theorem Cov.mono {L : Lay} {R : List Bool} {T : List Int} {dv e B B2 : Int} {at_ : Int × Int} {D : Int} {acc : List Int} (h : Cov L R T dv e B at_ D acc) (hB : B ≤ B2) : Cov L R T dv e B2 at_ D acc :=
  ⟨fun B' hB' => h.go B' (Int.le_trans hB hB'), h.last⟩
theorem Cov.enter {L : Lay} (TT : Tame L) {R : List Bool} {T : List Int} {dv e B : Int} {at_ x : Int × Int} {D : Int} {acc : List Int} (h : Cov L R T dv e B at_ D acc) (hD : D < B) (hn : nextL L at_ R = some x) (h1 : T.contains x.1 = false) (h2 : acc.contains x.1 = false) :
    Cov L R T dv e B (x.1, 1 - x.2) (D + lenL L.secs x.1) (acc ++ [x.1]) ∧ InR L x.1 := by
  have hs := (h.go B (Int.le_refl _)).step TT (by omega) hn h1 h2
  refine ⟨⟨fun B' hB' => ?_, ?_⟩, hs.2⟩
  · have h3 := ((h.go B' hB').step TT (by omega) hn h1 h2).1
    rw [show B' - (D + lenL L.secs x.1) = B' - D - lenL L.secs x.1 by omega]
    exact h3
  · rw [← List.append_assoc, List.getLast?_append]; simp
theorem Cov.mem {L : Lay} {R : List Bool} {T : List Int} {dv e B : Int} {at_ : Int × Int} {D : Int} {acc : List Int} (h : Cov L R T dv e B at_ D acc) : at_.1 ∈ spanL L R T dv (B - e) := by
  obtain ⟨f, hf, -⟩ := (h.go B (Int.le_refl _)).eq
  obtain ⟨s, hs⟩ := goA_ext L R T f at_ (B - D) acc
  have hm : at_.1 ∈ T.reverse ++ acc := List.mem_of_getLast? h.last
  unfold spanL
  rw [← hf, hs]
  simp only [List.reverse_append, List.mem_append, List.mem_reverse] at hm ⊢
  rcases hm with hm | hm
  · exact Or.inr hm
  · exact Or.inl (Or.inr hm)

end Go.Proofs.Ytbomkifnhkmkoaa
