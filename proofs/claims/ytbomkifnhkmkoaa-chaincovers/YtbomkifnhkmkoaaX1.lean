/- What the walk of ChainCovers keeps. -/
import Derived.Test.YtbomkifnhkmkoaaD1
import Derived.Test.YtbomkifnhkmkoaaP2
namespace Go.Proofs.Ytbomkifnhkmkoaa
open Go.RowKit Fl
set_option maxRecDepth 100000

theorem contains_app (a b : List Int) (x : Int) : (a ++ b).contains x = (a.contains x || b.contains x) := by
  rw [List.contains_eq_any_beq, List.contains_eq_any_beq, List.contains_eq_any_beq, List.any_append]
theorem full_speed (d : Dr) : 0 ≤ (fullL d).speed ∧ (fullL d).speed ≤ 1000 := by
  have e : (fullL d).speed = 1 + ((d.speed % (2 * unit d) : Nat) : Int) := rfl
  have hu := unit_bounds d
  have := Nat.mod_lt d.speed (show 0 < 2 * unit d by omega)
  rw [e]; omega

structure CvSt (wE : World) (nA : Nat) (v : Value) (a1 a2 : Int) (zs : List Int) (V : World) : Prop where
  bel : Below nA wE V
  ra : Row V nA 47 #[.int .i64 a1, .int .i64 a2]
  so : V.ownsRow nA 3 1 v zs.length (ivals zs)
theorem CvSt.call {wE : World} {nA : Nat} {v : Value} {a1 a2 : Int} {zs : List Int} {V V' : World} (h : CvSt wE nA v a1 a2 zs V) (hb : Below V.heap.size V V') : CvSt wE nA v a1 a2 zs V' :=
  ⟨h.bel.trans (hb.mono (Nat.le_of_lt h.ra.lt)), Below.row hb h.ra h.ra.lt, own_below h.so hb⟩
theorem CvSt.set {wE : World} {nA : Nat} {v : Value} {a1 a2 : Int} {zs : List Int} {V : World} (h : CvSt wE nA v a1 a2 zs V) (b1 b2 : Int) : CvSt wE nA v b1 b2 zs ((V.setCell ⟨nA, 0, none⟩ (.int .i64 b1)).setCell ⟨nA, 1, none⟩ (.int .i64 b2)) := by
  have hne : v.ownBlock ≠ some nA := fun e => own_ne h.so h.ra (by decide) e.symm
  exact ⟨(h.bel.setCell (p := ⟨nA, 0, none⟩) (Nat.le_refl _) _).setCell (p := ⟨nA, 1, none⟩) (Nat.le_refl _) _, (h.ra.set 0 _).set 1 _, ownsRow_setCell_other (ownsRow_setCell_other h.so (a := ⟨nA, 0, none⟩) hne _) (a := ⟨nA, 1, none⟩) hne _⟩
theorem CvSt.put {wE : World} {nA : Nat} {v v' : Value} {a1 a2 z : Int} {zs : List Int} {V W : World} (h : CvSt wE nA v a1 a2 zs V)
    (hown : W.ownsRow nA 3 1 v' (zs.length + 1) (ivals zs ++ [.int .i64 z])) (hg : (V.alloc (.cells #[.int .i64 z] 3)).grownBy W v.ownBlock) : CvSt wE nA v' a1 a2 (zs ++ [z]) W := by
  have hba : Below nA wE (V.alloc (.cells #[.int .i64 z] 3)) := h.bel.alloc (Nat.le_of_lt h.ra.lt) _
  refine ⟨hba.grown hg (by have := h.ra.lt; simp; omega) (fun kk hk => (h.so.lt kk hk).1), (h.ra.alloc _).grown hg (own_ne h.so h.ra (by decide)), ?_⟩
  rw [List.length_append, ← ivals_snoc']
  exact hown
theorem Row.other {w : World} {g : Nat} {t : TypeId} {cs : Array Value} (h : Row w g t cs) {a : Addr} (ha : g ≠ a.block) (u : Value) : Row (w.setCell a u) g t cs := (Below.heap_setCell w a u g ha).trans h
end Go.Proofs.Ytbomkifnhkmkoaa
