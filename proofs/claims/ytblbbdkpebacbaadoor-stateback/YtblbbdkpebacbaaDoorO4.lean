/- Contracts of own: isIn, Start, Next. -/
import Derived.Test.YtblbbdkpebacbaaDoorO3
import Derived.Test.YtblbbdkpebacbaaDoorRB
namespace Go.Proofs.YtblbbdkpebacbaaDoor
open Go.RowKit Fl
set_option maxRecDepth 100000

def RetRow (xs : List Int) (w : World) (e : Ending) (w' : World) : Prop := ∃ g, e = .returned (.slice (some ⟨g, 0, none⟩) xs.length xs.length) ∧ w.heap.size ≤ g ∧ Row w' g 3 (ivals xs).toArray ∧ Below w.heap.size w w'
theorem Rd.ofRow {w : World} {g : Nat} {l : List Int} (h : Row w g 3 (ivals l).toArray) : Rd w w.heap.size (.slice (some ⟨g, 0, none⟩) l.length l.length) (ivals l) := by
  have hl : (ivals l).length = l.length := by simp [ivals]
  refine ⟨_, l.length, by rw [hl], ⟨(fun e => by cases e), by omega⟩, fun _ => ⟨g, 0, rfl, h.lt, fun j u hu => ?_⟩⟩
  rw [Nat.zero_add, h.cell j]
  simpa using hu
theorem ivals_set (l : List Int) (q : Nat) (b : Int) : (ivals l).toArray.setIfInBounds q (.int .i64 b) = (ivals (l.set q b)).toArray := by
  simp [ivals, List.map_set]
theorem Tryd.info3m : (Tryd.prog.info? 3).map (fun i => (i.zero, i.size, i.bytes)) = some (some (.int .i64 0), 1, 8) := by kernel_rfl
theorem made_ints (n : Nat) : madeCells (Value.int .i64 0).cells (n * 1) = (ivals (List.replicate n 0)).toArray := by
  apply Array.ext
  · simp [madeCells, ivals]
  · intro i h1 h2
    simp [madeCells, ivals, Value.cells, Nat.mod_one]
theorem make_ints (n : Nat) (hn : n ≤ 1000) (w : World) :
    (Instr.makeSlice 47 (.int .i64 (n : Int)) (.int .i64 (n : Int))).run Tryd.prog w = .ok (.slice (some ⟨w.heap.size, 0, none⟩) n n) (w.alloc (.cells (ivals (List.replicate n 0)).toArray 3)) := by
  obtain ⟨i0, hi, hz0, hz1, hz2⟩ := info_parts Tryd.info3m
  have h := run_make (P := Tryd.prog) w 47 3 i0 (.int .i64 0) Tryd.underlying47 hi hz0 .i64 .i64 (n : Int) (n : Int) (by omega) (Int.le_refl _) (by rw [hz2]; omega) (by omega)
  rw [hz1, Int.toNat_natCast, made_ints] at h
  exact h

/-- The first ones told, the others not yet. -/
def mixO (f : Nat → Int) (z : Int) (n i : Nat) : List Int := (List.range n).map fun j => if j < i then f j else z
theorem mixO_len (f : Nat → Int) (z : Int) (n i : Nat) : (mixO f z n i).length = n := by simp [mixO]
theorem mixO_zero (f : Nat → Int) (z : Int) (n : Nat) : mixO f z n 0 = List.replicate n z := by
  apply List.ext_getElem
  · simp [mixO]
  · intro i h1 h2; simp [mixO]
theorem mixO_set (f : Nat → Int) (z : Int) (n i : Nat) : (mixO f z n i).set i (f i) = mixO f z n (i + 1) := by
  apply List.ext_getElem
  · simp [mixO]
  · intro j h1 h2
    rw [List.getElem_set]
    by_cases e : i = j
    · subst e; simp [mixO]
    · rw [if_neg e]
      simp only [mixO, List.getElem_map, List.getElem_range]
      by_cases h : j < i
      · rw [if_pos h, if_pos (by omega)]
      · rw [if_neg h, if_neg (by omega)]
theorem mixO_skip {f : Nat → Int} {z : Int} {n i : Nat} (h : f i = z) : mixO f z n (i + 1) = mixO f z n i := by
  apply List.ext_getElem
  · simp [mixO]
  · intro j h1 h2
    simp only [mixO, List.getElem_map, List.getElem_range]
    by_cases e : j = i
    · subst e; rw [if_pos (by omega), if_neg (by omega), h]
    · by_cases h : j < i
      · rw [if_pos h, if_pos (by omega)]
      · rw [if_neg h, if_neg (by omega)]
theorem mixO_full (f : Nat → Int) (z : Int) (n : Nat) : mixO f z n n = (List.range n).map f := by
  apply List.ext_getElem
  · simp [mixO]
  · intro j h1 h2
    have : j < n := by simpa [mixO] using h1
    simp [mixO, this]

set_option maxHeartbeats 2000000 in
theorem start_any (w : World) (n : Nat) (hn : n ≤ 1000) : Calls Tryd.prog 28 #[.int .i64 (n : Int)] w (RetRow (List.replicate n (-1)) w) := by
  have hmk := make_ints n hn
  obtain ⟨B0, hB0⟩ : ∃ n, w.heap.size = n := ⟨_, rfl⟩
  have hb9 := (Below.refl w.heap.size w).alloc (Nat.le_refl _) (.cells (ivals (List.replicate n 0)).toArray 3)
  have HR1 : Hid (Below B0 w (w.alloc (.cells (ivals (List.replicate n 0)).toArray 3)) ∧ Row (w.alloc (.cells (ivals (List.replicate n 0)).toArray 3)) B0 3 (ivals (List.replicate n 0)).toArray) := by
    rw [← hB0]; exact ⟨hb9, Row.new w 3 _⟩
  have HB0 := Lib.hid hB0
  clear hb9
  have h0 : ¬ (n : Int) < 0 := by omega
  have h1 : ¬ (2147483647 : Int) < (n : Int) := by omega
  have hz : List.replicate n (0 : Int) = mixO (fun _ => -1) 0 n 0 := (mixO_zero _ _ _).symm
  rw [hz] at HR1
  have hmk2 : ∀ w : World, (Instr.makeSlice 47 (.int .i64 (n : Int)) (.int .i64 (n : Int))).run Tryd.prog w = .ok (.slice (some ⟨w.heap.size, 0, none⟩) n n) (w.alloc (.cells (ivals (mixO (fun _ => -1) 0 n 0)).toArray 3)) := fun w => by rw [← hz]; exact hmk w
  clear hmk hz
  go_enter Tryd.func28, Tryd.ntmps28
  go_upto_region 4 with (fail)
  clear hmk2 hB0
  generalize w.alloc (.cells (ivals (mixO (fun _ => -1) 0 n 0)).toArray 3) = w1 at *
  go_wp2_with fail
  go_loopw [15] (fun k wr => ∃ i : Nat, i ≤ n ∧ k = .int .i64 i ∧ Hid (Below B0 w wr ∧ Row wr B0 3 (ivals (mixO (fun _ => -1) 0 n i)).toArray)) (fun k _ => n - (intOf k).toNat)
  case atStart => exact ⟨0, Nat.zero_le _, rfl, HR1.out⟩
  case round =>
    obtain ⟨i, hi, rfl, HJ⟩ := hrel
    by_cases hlt : i < n
    · have hli : (i : Int) < (n : Int) := by omega
      have c0 := HJ.out.2.cell i; have z0 := HJ.out.2.frozen i
      have c1 : wr.cell? ⟨B0, i, none⟩ = some (.int .i64 0) := by
        rw [c0]; simp [ivals, mixO, hlt]
      clear c0
      have HJ2 : Hid (Below B0 w (wr.setCell ⟨B0, i, none⟩ (.int .i64 (-1))) ∧ Row (wr.setCell ⟨B0, i, none⟩ (.int .i64 (-1))) B0 3 (ivals (mixO (fun _ => -1) 0 n (i + 1))).toArray) := by
        refine ⟨HJ.out.1.setCell (p := ⟨B0, i, none⟩) (Nat.le_refl _) _, ?_⟩
        have h := HJ.out.2.set i (.int .i64 (-1))
        rw [ivals_set, mixO_set] at h
        exact h
      go_wp2_with fail
      go_roundw
      case rel => exact ⟨i + 1, by omega, by go_num, HJ2.out⟩
      case measure => simp [intOf]; omega
    · have hin : i = n := by omega
      subst hin
      go_wp2_with fail
      go_ret
      have hf := HJ.out.2
      rw [mixO_full] at hf
      have e : (List.range i).map (fun _ => (-1 : Int)) = List.replicate i (-1) := by
        apply List.ext_getElem
        · simp
        · intro j h1 h2; simp
      rw [e] at hf
      exact ⟨B0, (by rw [List.length_replicate]; rfl), Nat.le_of_eq HB0.out, hf, by rw [HB0.out]; exact HJ.out.1⟩

theorem start_neg (w : World) (n : Int) (hn : n < 0) : Calls Tryd.prog 28 #[.int .i64 n] w fun e w' => e = .returned (.slice none 0 0) ∧ w = w' := by
  go_enter Tryd.func28, Tryd.ntmps28
  go_wp2_with fail
  go_ret
  exact ⟨rfl, rfl⟩
end Go.Proofs.YtblbbdkpebacbaaDoor
