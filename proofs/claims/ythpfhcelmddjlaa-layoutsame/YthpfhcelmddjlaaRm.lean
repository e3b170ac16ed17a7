/- Pure: what is known of a draft's layout: how much it has, how many bits it takes, that its numbers are small. A draft that came in, read as numbers and lists of bytes. Contract: Rough: the layout of a draft, with routes of any numbers (by Make's). What the laws want of Rough. Rough, by Make. -/
import Derived.Test.YthpfhcelmddjlaaMm
import Derived.Test.YthpfhcelmddjlaaDm
import Derived.Deep.Matrix
import Derived.ProofKit
import Derived.Test.YthpfhcelmddjlaaMake2
namespace Go.Proofs.Ythpfhcelmddjlaa
open Go.RowKit Fl
set_option maxRecDepth 100000

theorem elist_bound {α : Type} (f : α → List Bool) (l : List α) (n k : Nat) (hn : l.length ≤ n) (h : ∀ x ∈ l, (f x).length ≤ k) : (elist f l).length ≤ 8 + n * k := by
  have h2 : ∀ l : List α, (∀ x ∈ l, (f x).length ≤ k) → (l.flatMap f).length ≤ l.length * k := by
    intro l
    induction l with
    | nil => intro _; simp
    | cons a r ih =>
      intro h
      have h1 := h a (by simp)
      have h3 := ih (fun x hx => h x (by simp [hx]))
      rw [List.flatMap_cons, List.length_append, List.length_cons, Nat.succ_mul]
      omega
  have h3 := h2 l h
  have h4 : l.length * k ≤ n * k := Nat.mul_le_mul_right k hn
  unfold elist
  rw [List.length_append, nbit_length]
  omega

theorem makeNodes_len (d : Dr) : (makeNodes d).length ≤ 9 := by
  unfold makeNodes
  split <;> simp
  unfold rowLen; omega
theorem makePoints_len (d : Dr) : (makePoints d).length ≤ 2 := by
  unfold makePoints
  split <;> simp

theorem makeNodes_in (d : Dr) : ∀ p ∈ makeNodes d, (-2000 ≤ p.1 ∧ p.1 ≤ 2000) ∧ (-2000 ≤ p.2 ∧ p.2 ≤ 2000) := by
  have hU := unit_bounds d
  have hH : (5 * (1 + d.len % 20)) ≤ 200 := by omega
  intro p hp
  unfold makeNodes at hp
  simp only at hp
  split at hp
  · simp only [List.mem_map, List.mem_range] at hp
    obtain ⟨i, hi, rfl⟩ := hp
    unfold rowLen at hi
    have hm : unit d * i ≤ 200 * 8 := Nat.mul_le_mul hU.2 (by omega)
    simp only; omega
  all_goals
    simp only [List.mem_cons, List.not_mem_nil, or_false] at hp
    rcases hp with rfl | rfl | rfl | rfl | hp <;> try (simp only; omega)
    all_goals (first | (rcases hp with rfl | rfl | rfl | rfl <;> (simp only; omega)) | (rcases hp with rfl | rfl | rfl <;> (simp only; omega)))

theorem makePoints_in (d : Dr) : ∀ s ∈ makePoints d, (0 ≤ s.1 ∧ s.1 < 256) ∧ (0 ≤ s.2.1 ∧ s.2.1 < 256) ∧ (0 ≤ s.2.2.1 ∧ s.2.2.1 < 256) ∧ (0 ≤ s.2.2.2 ∧ s.2.2.2 < 256) := by
  intro p hp
  unfold makePoints at hp
  split at hp
  · simp at hp
  · simp only [List.mem_cons, List.not_mem_nil, or_false] at hp
    rcases hp with rfl; decide
  · simp only [List.mem_cons, List.not_mem_nil, or_false] at hp
    rcases hp with rfl | rfl <;> decide
  · simp only [List.mem_cons, List.not_mem_nil, or_false] at hp
    rcases hp with rfl; decide

theorem makeSecs_in (d : Dr) (es : List (Int × Int)) (he : ∀ e ∈ es, (0 ≤ e.1 ∧ e.1 ≤ 8) ∧ (0 ≤ e.2 ∧ e.2 ≤ 8)) : ∀ i, ∀ s ∈ makeSecs d es i, (0 ≤ s.1 ∧ s.1 < 65536) ∧ (0 ≤ s.2.1 ∧ s.2.1 < 256) ∧ (0 ≤ s.2.2 ∧ s.2.2 < 256) := by
  intro i
  induction i with
  | zero => intro s hs; simp [makeSecs] at hs
  | succ i ih =>
    intro s hs
    rw [makeSecs, List.mem_append] at hs
    rcases hs with c | c
    · exact ih s c
    · rw [List.mem_singleton] at c
      subst c
      have hU := unit_bounds d
      have hg : (0 ≤ (es.getD i (0, 0)).1 ∧ (es.getD i (0, 0)).1 ≤ 8) ∧ (0 ≤ (es.getD i (0, 0)).2 ∧ (es.getD i (0, 0)).2 ≤ 8) := by
        by_cases h : i < es.length
        · have e : es.getD i (0, 0) = es[i] := by simp [List.getD, h]
          rw [e]; exact he _ (List.getElem_mem _)
        · have e : es.getD i (0, 0) = (0, 0) := by simp [List.getD, h]
          rw [e]; decide
      simp only
      omega

theorem small_iff {d : Dr} (h : small d = true) : d.routes.length ≤ 20 ∧ ∀ r ∈ d.routes, r.length ≤ 10 := by
  unfold small at h
  rw [Bool.and_eq_true] at h
  exact ⟨of_decide_eq_true h.1, fun r hr => of_decide_eq_true (List.all_eq_true.1 h.2 r hr)⟩

theorem rough_routes {d : Dr} (hd : DrOk d) : ∀ r ∈ (roughL d).routes, ∀ n ∈ r, 0 ≤ n ∧ n < 256 := by
  intro r hr n hn
  have hr' : r ∈ d.routes.map fun (r : List Nat) => r.map fun (x : Nat) => (x : Int) := hr
  simp only [List.mem_map] at hr'
  obtain ⟨r0, h0, rfl⟩ := hr'
  simp only [List.mem_map] at hn
  obtain ⟨x, hx, rfl⟩ := hn
  have := hd.bytes r0 h0 x hx
  omega

theorem rough_lows {d : Dr} (hd : DrOk d) : lows (roughL d) = roughL d := by
  have hU := unit_bounds d
  have o1 := hd.speed; have o2 := hd.mute; have o3 := hd.wait; have o4 := hd.cancel; have o5 := hd.stay
  refine lows_id _ (makeSecs_in d _ (makeEnds_in d) _) ?_ (rough_routes hd) (makePoints_in d) ?_
  · intro r hr n hn
    have := ((makeParts_le d (makeEnds d).length).2 r hr).2 n hn
    have h8 := (makeEnds_len d).2
    omega
  · have h1 : d.speed % (2 * unit d) ≤ 256 := by have := Nat.mod_le d.speed (2 * unit d); omega
    show (0 ≤ 1 + ((d.speed % (2 * unit d) : Nat) : Int) ∧ 1 + ((d.speed % (2 * unit d) : Nat) : Int) < 65536) ∧ (0 ≤ 1 + ((d.mute % 1000 : Nat) : Int) ∧ 1 + ((d.mute % 1000 : Nat) : Int) < 65536) ∧ (0 ≤ 1 + ((d.wait % 1000 : Nat) : Int) ∧ 1 + ((d.wait % 1000 : Nat) : Int) < 65536) ∧ (0 ≤ 1 + (d.cancel : Int) ∧ 1 + (d.cancel : Int) < 65536) ∧ (0 ≤ ((d.stay % 4 : Nat) : Int) ∧ ((d.stay % 4 : Nat) : Int) < 65536)
    omega

theorem rough_len {d : Dr} (h : small d = true) : (roughL d).nodes.length ≤ 9 ∧ (roughL d).secs.length ≤ 8 ∧ (roughL d).parts.length ≤ 8 ∧ (roughL d).points.length ≤ 2 ∧ (roughL d).routes.length ≤ 20 ∧ (∀ r ∈ (roughL d).parts, r.length ≤ 8) ∧ ∀ r ∈ (roughL d).routes, r.length ≤ 10 := by
  obtain ⟨h1, h2⟩ := small_iff h
  have h8 := (makeEnds_len d).2
  refine ⟨makeNodes_len d, ?_, ?_, makePoints_len d, ?_, ?_, ?_⟩
  · show (makeSecs d (makeEnds d) (makeEnds d).length).length ≤ 8
    rw [makeSecs_len]; exact h8
  · show (makeParts d (makeEnds d).length).length ≤ 8
    have := (makeParts_le d (makeEnds d).length).1; omega
  · show (d.routes.map fun (r : List Nat) => r.map fun (x : Nat) => (x : Int)).length ≤ 20
    simpa using h1
  · intro r hr
    have := ((makeParts_le d (makeEnds d).length).2 r hr).1; omega
  · intro r hr
    have hr' : r ∈ d.routes.map fun (r : List Nat) => r.map fun (x : Nat) => (x : Int) := hr
    simp only [List.mem_map] at hr'
    obtain ⟨r0, h0, rfl⟩ := hr'
    simpa using h2 r0 h0

theorem rough_bits {d : Dr} (h : small d = true) : (enc (roughL d)).length ≤ 4000 := by
  obtain ⟨h1, h2, h3, h4, h5, h6, h7⟩ := rough_len h
  have a1 := elist_bound enode (roughL d).nodes 9 64 h1 (fun p _ => by unfold enode; simp [nbit_length])
  have a2 := elist_bound esec (roughL d).secs 8 32 h2 (fun p _ => by unfold esec; simp [nbit_length])
  have a3 := elist_bound erow (roughL d).parts 8 72 h3 (fun r hr => by
    have := elist_bound eint r 8 8 (h6 r hr) (fun n _ => by unfold eint; simp [nbit_length])
    exact this)
  have a4 := elist_bound epoint (roughL d).points 2 32 h4 (fun p _ => by unfold epoint; simp [nbit_length])
  have a5 := elist_bound erow (roughL d).routes 20 88 h5 (fun r hr => by
    have := elist_bound eint r 10 8 (h7 r hr) (fun n _ => by unfold eint; simp [nbit_length])
    exact this)
  have a6 : (etimes (roughL d)).length = 80 := by unfold etimes; simp [nbit_length]
  unfold enc ebody erows
  simp only [List.length_append, nbit_length]
  omega

theorem rough_room {d : Dr} (h : small d = true) : Room (roughL d) := by
  obtain ⟨h1, h2, h3, h4, h5, h6, h7⟩ := rough_len h
  refine ⟨by omega, by omega, by omega, by omega, by omega, fun r hr => ?_, fun r hr => ?_, fun p hp => ?_⟩
  · have := h6 r hr; omega
  · have := h7 r hr; omega
  · have := makeNodes_in d p hp; omega

theorem rough_modest {d : Dr} (h : small d = true) : Modest (roughL d) := by
  obtain ⟨h1, h2, h3, h4, h5, h6, h7⟩ := rough_len h
  refine ⟨by omega, by omega, by omega, by omega, by omega, fun r hr => ?_, fun r hr => ?_, fun p hp => ?_, by have := rough_bits h; omega⟩
  · have := h6 r hr; omega
  · have := h7 r hr; omega
  · have := makeNodes_in d p hp; omega

theorem rough_bytes {d : Dr} (h : small d = true) : (pack (enc (roughL d))).length ≤ 500 := by
  rw [pack_len8 _ (eight_enc _)]
  have := rough_bits h; omega

end Go.Proofs.Ythpfhcelmddjlaa

namespace Go.Proofs.Ythpfhcelmddjlaa
open Go.RowKit Go.Deep Go.WideShapes
set_option maxRecDepth 100000

theorem u8_nat {n : Int} (h : (Lit.int .u8 n).wf = true) : ∃ k : Nat, n = (k : Int) ∧ k < 256 := by
  simp only [Lit.wf, Bool.and_eq_true, decide_eq_true_eq] at h
  rw [show IntKind.u8.min = 0 from by decide, show IntKind.u8.max = 255 from by decide] at h
  exact ⟨n.toNat, by omega, by omega⟩
theorem u16_nat {n : Int} (h : (Lit.int .u16 n).wf = true) : ∃ k : Nat, n = (k : Int) ∧ k < 65536 := by
  simp only [Lit.wf, Bool.and_eq_true, decide_eq_true_eq] at h
  rw [show IntKind.u16.min = 0 from by decide, show IntKind.u16.max = 65535 from by decide] at h
  exact ⟨n.toNat, by omega, by omega⟩

theorem brows_of_trod {H : Type} {enc : TypeId × Value → H} {W : World} {base fuel : Nat} {held : Bool} {x : DataW H × List MemPlace} {c : Value}
    (hf : DataW.trod enc Try.prog W base (fun _ => true) held fuel 23 [c] = some x) :
    ∃ rows : List (List Nat), BRows W W.heap.size c rows ∧ rows.length ≤ 9223372036854775807 ∧ (∀ r ∈ rows, r.length ≤ 9223372036854775807) ∧ ∀ r ∈ rows, ∀ y ∈ r, y < 256 := by
  rcases open_int_rows Try.underlying23 Try.underlying35 Try.underlying5 (by kernel_rfl) (by kernel_rfl) hf with ⟨hcs, _⟩ | ⟨a, len, cap, A, L, C, Z, hcs, _, hl, hm, _, hx⟩
  · simp only [List.cons.injEq, and_true] at hcs
    subst hcs
    exact ⟨[], ⟨[], Rd.empty _ _, rfl, fun i h => absurd h (by simp)⟩, by simp, by simp, by simp⟩
  · simp only [List.cons.injEq, and_true] at hcs
    subst hcs
    have each : ∀ r, r < len → ∃ q : List Nat, q.length = L r ∧ (∀ y ∈ q, y < 256) ∧ Rd W W.heap.size (.slice (A r) (L r) (C r)) (bvals q) := by
      intro r hr
      obtain ⟨_, h2, h3, h4, h5, h6, h7⟩ := hx r (by omega)
      cases eA : A r with
      | none =>
        have hC := h6 eA
        have hL : L r = 0 := by omega
        refine ⟨[], by simp [hL], by simp, ?_⟩
        rw [hL, hC]
        exact Rd.empty _ _
      | some a' =>
        exact arg_some h2 h4 (fun i hi => (h7 a' eA).2 i (by omega)) h5
    obtain ⟨Q, hQ⟩ := choose_lt each
    refine ⟨(List.range len).map Q, ⟨(List.range len).map fun r => .slice (A r) (L r) (C r), ?_, by simp, ?_⟩, ?_, ?_, ?_⟩
    · refine ⟨some a, cap, by simp, ⟨(fun h => by cases h), by simpa using hl⟩, fun hp => ?_⟩
      have hp' : 0 < len := by simpa using hp
      obtain ⟨b, off, spot⟩ := a
      have h0 := (hx 0 (by omega)).1
      have hspot : spot = none := by simpa [Addr.add] using World.cell?_spot h0
      subst hspot
      refine ⟨b, off, rfl, cell_lt h0, fun j u hu => ?_⟩
      have hj : j < len := by have := (List.getElem?_eq_some_iff.1 hu).1; simpa using this
      have hu2 : u = .slice (A j) (L j) (C j) := by simp [hj] at hu; exact hu.symm
      subst hu2
      have hh := (hx j (by omega)).1
      rw [show ((⟨b, off, none⟩ : Addr).add j) = ⟨b, off + j, none⟩ from by simp [Addr.add]] at hh
      exact hh
    · intro i h1 h2
      have hi : i < len := by simpa using h1
      simp only [List.getElem_map, List.getElem_range]
      exact (hQ i hi).2.2
    · simp only [List.length_map, List.length_range]
      unfold maxLen at hm; omega
    · intro r hr
      simp only [List.mem_map, List.mem_range] at hr
      obtain ⟨i, hi, rfl⟩ := hr
      obtain ⟨_, h2, h3, _⟩ := hx i (by omega)
      rw [(hQ i hi).1]
      unfold maxLen at h3; omega
    · intro r hr
      simp only [List.mem_map, List.mem_range] at hr
      obtain ⟨i, hi, rfl⟩ := hr
      exact (hQ i hi).2.1

theorem draft_of_trod {H : Type} {enc : TypeId × Value → H} {W : World} {base : Nat} {v : Value} {dd : DataW H} {p : List MemPlace}
    (hval : Value.okWide Try.prog W .any base 25 v) (h : DataW.Trod enc Try.prog W 0 (fun _ => true) true 25 v dd p) :
    ∃ (d : Dr) (vr : Value), v = drV d vr ∧ DrOk d ∧ BRows W W.heap.size vr d.routes ∧ d.routes.length ≤ 9223372036854775807 ∧ ∀ r ∈ d.routes, r.length ≤ 9223372036854775807 := by
  obtain ⟨cs, rfl, hsz⟩ := okWide_struct Try.underlying25 hval
  rw [show Try.prog.cellsOf 25 = 9 from by kernel_rfl] at hsz
  obtain ⟨fuel, hf⟩ := h
  obtain ⟨l⟩ := cs
  match l, hsz with
  | [c0, c1, c2, c3, c4, c5, c6, c7, c8], _ =>
    obtain ⟨xs, n, _, _, _, hlen, hfs⟩ := DataW.trod_struct Try.underlying25 hf
    match xs, hlen with
    | [y0, y1, y2, y3, y4, y5, y6, y7, y8], _ =>
      have c5' : Try.prog.cellsOf 5 = 1 := by kernel_rfl
      have c22 : Try.prog.cellsOf 22 = 1 := by kernel_rfl
      have c23 : Try.prog.cellsOf 23 = 1 := by kernel_rfl
      have g0 : DataW.trod enc Try.prog W 0 (fun _ => true) true n 5 [c0] = some y0 := by simpa [Value.cells, c5'] using hfs 0 _ rfl
      have g1 : DataW.trod enc Try.prog W 0 (fun _ => true) true n 5 [c1] = some y1 := by simpa [Value.cells, c5'] using hfs 1 _ rfl
      have g2 : DataW.trod enc Try.prog W 0 (fun _ => true) true n 5 [c2] = some y2 := by simpa [Value.cells, c5'] using hfs 2 _ rfl
      have g3 : DataW.trod enc Try.prog W 0 (fun _ => true) true n 22 [c3] = some y3 := by simpa [Value.cells, c22] using hfs 3 _ rfl
      have g4 : DataW.trod enc Try.prog W 0 (fun _ => true) true n 22 [c4] = some y4 := by simpa [Value.cells, c22] using hfs 4 _ rfl
      have g5 : DataW.trod enc Try.prog W 0 (fun _ => true) true n 5 [c5] = some y5 := by simpa [Value.cells, c5'] using hfs 5 _ rfl
      have g6 : DataW.trod enc Try.prog W 0 (fun _ => true) true n 5 [c6] = some y6 := by simpa [Value.cells, c5'] using hfs 6 _ rfl
      have g7 : DataW.trod enc Try.prog W 0 (fun _ => true) true n 5 [c7] = some y7 := by simpa [Value.cells, c5'] using hfs 7 _ rfl
      have g8 : DataW.trod enc Try.prog W 0 (fun _ => true) true n 23 [c8] = some y8 := by simpa [Value.cells, c23] using hfs 8 _ rfl
      obtain ⟨z0, e0, _, w0⟩ := DataW.trod_int Try.underlying5 g0
      obtain ⟨z1, e1, _, w1⟩ := DataW.trod_int Try.underlying5 g1
      obtain ⟨z2, e2, _, w2⟩ := DataW.trod_int Try.underlying5 g2
      obtain ⟨z3, e3, _, w3⟩ := DataW.trod_int Try.underlying22 g3
      obtain ⟨z4, e4, _, w4⟩ := DataW.trod_int Try.underlying22 g4
      obtain ⟨z5, e5, _, w5⟩ := DataW.trod_int Try.underlying5 g5
      obtain ⟨z6, e6, _, w6⟩ := DataW.trod_int Try.underlying5 g6
      obtain ⟨z7, e7, _, w7⟩ := DataW.trod_int Try.underlying5 g7
      simp only [List.cons.injEq, and_true] at e0 e1 e2 e3 e4 e5 e6 e7
      obtain ⟨n0, rfl, b0⟩ := u8_nat w0
      obtain ⟨n1, rfl, b1⟩ := u8_nat w1
      obtain ⟨n2, rfl, b2⟩ := u8_nat w2
      obtain ⟨n3, rfl, b3⟩ := u16_nat w3
      obtain ⟨n4, rfl, b4⟩ := u16_nat w4
      obtain ⟨n5, rfl, b5⟩ := u8_nat w5
      obtain ⟨n6, rfl, b6⟩ := u8_nat w6
      obtain ⟨n7, rfl, b7⟩ := u8_nat w7
      obtain ⟨rows, hr, hl, hrl, hby⟩ := brows_of_trod g8
      refine ⟨⟨n0, n1, n2, n3, n4, n5, n6, n7, rows⟩, c8, ?_, ⟨b0, b1, b2, b3, b4, b5, b6, b7, hby⟩, hr, hl, hrl⟩
      rw [e0, e1, e2, e3, e4, e5, e6, e7]
      rfl

end Go.Proofs.Ythpfhcelmddjlaa

namespace Go.Proofs.Ythpfhcelmddjlaa
open Go.RowKit Fl
set_option maxRecDepth 100000

def ints (r : List Nat) : List Int := r.map fun (x : Nat) => (x : Int)
theorem ints_take (r : List Nat) (i : Nat) (h : i < r.length) : ints (r.take i) ++ [(r[i] : Int)] = ints (r.take (i + 1)) := by
  unfold ints; rw [List.take_succ_eq_append_getElem h, List.map_append]; rfl
theorem ints_len (r : List Nat) : (ints r).length = r.length := by simp [ints]

def routesOf (l : List (List Nat)) : List (List Int) := l.map ints
theorem routesOf_take (l : List (List Nat)) (i : Nat) (h : i < l.length) : routesOf (l.take i) ++ [ints l[i]] = routesOf (l.take (i + 1)) := by
  unfold routesOf; rw [List.take_succ_eq_append_getElem h, List.map_append]; rfl

set_option maxHeartbeats 8000000 in
theorem rough_of (hmake : ∀ (w : World) (d : Dr) (vr : Value), DrOk d → BRows w w.heap.size vr d.routes → Calls Try.prog 21 #[drV d vr] w (RetMake d w)) (w : World) (d : Dr) (vr : Value) (hd : DrOk d) (h : BRows w w.heap.size vr d.routes) (hl : d.routes.length ≤ 20) (hrl : ∀ r ∈ d.routes, r.length ≤ 10) :
    Calls Try.prog 11 #[drV d vr] w (RetLay (roughL d) w) := by
  have HH := Lib.hid h
  obtain ⟨vs, hv, hvl, hve⟩ := h
  obtain ⟨Ar, cr, rfl, h0, hx⟩ := hv
  obtain ⟨kr, hkr⟩ : ∃ k, k = d.routes.length := ⟨_, rfl⟩
  have HVL := Lib.hid hvl
  rw [hvl] at hx HH ⊢
  rw [← hkr] at hx HH hl ⊢
  have HK := Lib.hid hkr; have HX := Lib.hid hx; have HVE := Lib.hid hve; have HRL := Lib.hid hrl
  have HMK := Lib.hid hmake
  have HD := Lib.hid hd
  clear hkr hx hve hvl h0 hrl hmake hd
  unfold drV
  have HM := Lib.hid ((Row.new w 25 #[.int .u8 (d.form : Int), .int .u8 (d.len : Int), .int .u8 (d.speed : Int), .int .u16 (d.mute : Int), .int .u16 (d.wait : Int), .int .u8 (d.cancel : Int), .int .u8 (d.stay : Int), .int .u8 (d.join : Int), .slice Ar kr cr]).alloc (.cells #[.slice none 0 0, .slice none 0 0, .slice none 0 0, .slice none 0 0, .slice none 0 0, .int .i64 0, .int .i64 0, .int .i64 0, .int .i64 0, .int .i64 0] 33))
  have HR := Lib.hid (Row.new (w.alloc (.cells #[.int .u8 (d.form : Int), .int .u8 (d.len : Int), .int .u8 (d.speed : Int), .int .u16 (d.mute : Int), .int .u16 (d.wait : Int), .int .u8 (d.cancel : Int), .int .u8 (d.stay : Int), .int .u8 (d.join : Int), .slice Ar kr cr] 25)) 33 #[.slice none 0 0, .slice none 0 0, .slice none 0 0, .slice none 0 0, .slice none 0 0, .int .i64 0, .int .i64 0, .int .i64 0, .int .i64 0, .int .i64 0])
  have HB := Lib.hid (((Below.refl w.heap.size w).alloc (Nat.le_refl _) (.cells #[.int .u8 (d.form : Int), .int .u8 (d.len : Int), .int .u8 (d.speed : Int), .int .u16 (d.mute : Int), .int .u16 (d.wait : Int), .int .u8 (d.cancel : Int), .int .u8 (d.stay : Int), .int .u8 (d.join : Int), .slice Ar kr cr] 25)).alloc (by simp) (.cells #[.slice none 0 0, .slice none 0 0, .slice none 0 0, .slice none 0 0, .slice none 0 0, .int .i64 0, .int .i64 0, .int .i64 0, .int .i64 0, .int .i64 0] 33))
  go_enter Try.func11, Try.ntmps11
  go_upto_region 1 with (fail)
  simp only [World.size_alloc] at HR
  generalize (w.alloc (.cells #[.int .u8 (d.form : Int), .int .u8 (d.len : Int), .int .u8 (d.speed : Int), .int .u16 (d.mute : Int), .int .u16 (d.wait : Int), .int .u8 (d.cancel : Int), .int .u8 (d.stay : Int), .int .u8 (d.join : Int), .slice Ar kr cr] 25)).alloc (.cells #[.slice none 0 0, .slice none 0 0, .slice none 0 0, .slice none 0 0, .slice none 0 0, .int .i64 0, .int .i64 0, .int .i64 0, .int .i64 0, .int .i64 0] 33) = W0 at *
  obtain ⟨n0, hn0⟩ : ∃ n, n = w.heap.size := ⟨_, rfl⟩
  obtain ⟨b1, hb1⟩ : ∃ n, n = n0 + 1 := ⟨_, rfl⟩
  rw [← hn0] at HM HB HR HH HX HVE ⊢
  rw [← hb1] at HR ⊢
  have HN : Hid (n0 = w.heap.size ∧ b1 = n0 + 1) := ⟨hn0, hb1⟩
  clear hn0 hb1
  have HBR : Hid (BRows W0 W0.heap.size (.slice Ar kr cr) d.routes) := HH.out.mono (by have := HB.out.size; have := HN.out; omega) (fun p hp => HB.out.cell (p := p) hp)
  have f0 := HM.out.cell 0
  have f1 := HM.out.cell 1
  have f2 := HM.out.cell 2
  have f3 := HM.out.cell 3
  have f4 := HM.out.cell 4
  have f5 := HM.out.cell 5
  have f6 := HM.out.cell 6
  have f7 := HM.out.cell 7
  have f8 := HM.out.cell 8
  simp only [List.getElem?_toArray, List.getElem?_cons_zero, List.getElem?_cons_succ] at f0 f1 f2 f3 f4 f5 f6 f7 f8
  go_wp2_with fail
  refine (HMK.out W0 d (.slice Ar kr cr) HD.out HBR.out).mono ?_
  rintro e w1 ⟨vN, vS, vP, vQ, rfl, hF, hb1⟩
  obtain ⟨A0, c0, rfl⟩ := hF.n.slice
  obtain ⟨A1, c1, rfl⟩ := hF.s.slice
  obtain ⟨A2, c2, rfl⟩ := hF.p.slice
  obtain ⟨A3, c3, rfl⟩ := hF.q.slice
  obtain ⟨LM, hLM⟩ : ∃ L, L = makeL d := ⟨_, rfl⟩
  rw [← hLM] at hF ⊢
  have HLM := Lib.hid hLM
  have HF := Lib.hid hF; have HB1 := Lib.hid hb1
  clear hLM hF hb1 f0 f1 f2 f3 f4 f5 f6 f7 f8
  obtain ⟨t0, ht0⟩ : ∃ t, LM.speed = t := ⟨_, rfl⟩
  obtain ⟨t1, ht1⟩ : ∃ t, LM.mute = t := ⟨_, rfl⟩
  obtain ⟨t2, ht2⟩ : ∃ t, LM.wait = t := ⟨_, rfl⟩
  obtain ⟨t3, ht3⟩ : ∃ t, LM.cancel = t := ⟨_, rfl⟩
  obtain ⟨t4, ht4⟩ : ∃ t, LM.stay = t := ⟨_, rfl⟩
  obtain ⟨k0, hk0⟩ : ∃ t, LM.nodes.length = t := ⟨_, rfl⟩
  obtain ⟨k1, hk1⟩ : ∃ t, LM.secs.length = t := ⟨_, rfl⟩
  obtain ⟨k2, hk2⟩ : ∃ t, LM.parts.length = t := ⟨_, rfl⟩
  obtain ⟨k3, hk3⟩ : ∃ t, LM.points.length = t := ⟨_, rfl⟩
  have HT : Hid (LM.speed = t0 ∧ LM.mute = t1 ∧ LM.wait = t2 ∧ LM.cancel = t3 ∧ LM.stay = t4) := ⟨ht0, ht1, ht2, ht3, ht4⟩
  rw [hk0, hk1, hk2, hk3] at HF
  rw [ht0, ht1, ht2, ht3, ht4, hk0, hk1, hk2, hk3]
  clear ht0 ht1 ht2 ht3 ht4 hk0 hk1 hk2 hk3
  have hb2 := (Below.refl w1.heap.size w1).alloc (Nat.le_refl _) (.cells #[.slice A0 k0 c0, .slice A1 k1 c1, .slice A2 k2 c2, .slice A3 k3 c3, .slice none 0 0, .int .i64 t0, .int .i64 t1, .int .i64 t2, .int .i64 t3, .int .i64 t4] 33)
  have HB2 : Hid (Below W0.heap.size W0 (w1.alloc (.cells #[.slice A0 k0 c0, .slice A1 k1 c1, .slice A2 k2 c2, .slice A3 k3 c3, .slice none 0 0, .int .i64 t0, .int .i64 t1, .int .i64 t2, .int .i64 t3, .int .i64 t4] 33))) := HB1.out.trans (hb2.mono HB1.out.size)
  have HR2 := Lib.hid (Row.new w1 33 #[.slice A0 k0 c0, .slice A1 k1 c1, .slice A2 k2 c2, .slice A3 k3 c3, .slice none 0 0, .int .i64 t0, .int .i64 t1, .int .i64 t2, .int .i64 t3, .int .i64 t4])
  have HF2 := Lib.hid (HF.out.kept (KeptL.of_below (S := []) hb2) (fun t _ k hk => by simp at hk))
  have HW1 : Hid (W0.heap.size ≤ w1.heap.size) := HB1.out.size
  clear hb2
  go_upto_region 2 with (fail)
  obtain ⟨b3, hb3⟩ : ∃ n, n = w1.heap.size := ⟨_, rfl⟩
  rw [← hb3] at HR2 HW1 ⊢
  clear hb3
  generalize w1.alloc (.cells #[.slice A0 k0 c0, .slice A1 k1 c1, .slice A2 k2 c2, .slice A3 k3 c3, .slice none 0 0, .int .i64 t0, .int .i64 t1, .int .i64 t2, .int .i64 t3, .int .i64 t4] 33) = P at *
  have HMP : Hid (Mk P n0 b1 b3 #[.int .u8 (d.form : Int), .int .u8 (d.len : Int), .int .u8 (d.speed : Int), .int .u16 (d.mute : Int), .int .u16 (d.wait : Int), .int .u8 (d.cancel : Int), .int .u8 (d.stay : Int), .int .u8 (d.join : Int), .slice Ar kr cr] #[.slice A0 k0 c0, .slice A1 k1 c1, .slice A2 k2 c2, .slice A3 k3 c3, .slice none 0 0, .int .i64 t0, .int .i64 t1, .int .i64 t2, .int .i64 t3, .int .i64 t4]) := by
    have l1 := HM.out.lt; have l2 := HR.out.lt; have l3 := HW1.out; have l4 := HN.out
    exact ⟨Below.row HB2.out HM.out HM.out.lt, Below.row HB2.out HR.out HR.out.lt, HR2.out, by omega, by omega, by omega⟩
  have HBP : Hid (Below n0 w P) := HB.out.trans (HB2.out.mono (by have := HM.out.lt; omega))
  have HCP : Hid (∀ p : Addr, p.block < n0 → P.cell? p = w.cell? p) := fun p hp => HBP.out.cell (p := p) hp
  have HN3 : Hid (n0 < b3) := by show n0 < b3; have l1 := HM.out.lt; have l3 := HW1.out; omega
  clear HB HB1 HB2 HM HR HR2 HW1 HBR
  have HSP : Hid (n0 < P.heap.size ∧ b1 < P.heap.size ∧ b3 < P.heap.size) := ⟨HMP.out.dr.lt, HMP.out.res.lt, HMP.out.lay.lt⟩
  obtain ⟨i3, hi3, hz30, hz31, hz32⟩ := info_parts Try.info3
  obtain ⟨i5, hi5, hz50, hz51, hz52⟩ := info_parts Try.info51
  go_wp2_with fail
  go_loopw [4] (fun k wr => ∃ i : Nat, i ≤ kr ∧ k = .int .i64 i ∧ Hid (∃ vR, Mk wr n0 b1 b3 #[.int .u8 (d.form : Int), .int .u8 (d.len : Int), .int .u8 (d.speed : Int), .int .u16 (d.mute : Int), .int .u16 (d.wait : Int), .int .u8 (d.cancel : Int), .int .u8 (d.stay : Int), .int .u8 (d.join : Int), .slice Ar kr cr] #[.slice A0 k0 c0, .slice A1 k1 c1, .slice A2 k2 c2, .slice A3 k3 c3, vR, .int .i64 t0, .int .i64 t1, .int .i64 t2, .int .i64 t3, .int .i64 t4] ∧ OwnRows wr P.heap.size vR (routesOf (d.routes.take i)) ∧ KeptL [b3] P wr)) (fun k _ => kr - (intOf k).toNat)
  case atStart => exact ⟨0, Nat.zero_le _, rfl, .slice none 0 0, HMP.out, OwnRows.nil _ _, KeptL.refl _ _⟩
  case round =>
    obtain ⟨i, hi, rfl, HJ⟩ := hrel
    obtain ⟨vR, hMk, ⟨us, hor⟩, hKp⟩ := HJ.out
    obtain ⟨A4, c4, hv4⟩ := own_slice hor.own
    subst hv4
    have HMI := Lib.hid hMk; have HOR := Lib.hid hor; have HKI := Lib.hid hKp
    clear hMk hor hKp HJ
    have g8 := HMI.out.dr.cell 8
    simp only [List.getElem?_toArray, List.getElem?_cons_zero, List.getElem?_cons_succ] at g8
    by_cases hlt : i < kr
    · have hiq : i < d.routes.length := by have := HK.out; omega
      have hiv : i < vs.length := by have := HVL.out; omega
      obtain ⟨b, o, rfl, hb, hc⟩ := HX.out (by omega)
      have HCW : Hid (∀ p : Addr, p.block < n0 → wr.cell? p = w.cell? p) := fun p hp => by
        have e : wr.heap[p.block]? = P.heap[p.block]? := HKI.out.block p.block (by have := HSP.out; omega) (by have := HN3.out; simp; omega)
        rw [← HCP.out p hp]
        simp only [World.cell?, e]
      have hcell : wr.cell? ⟨b, o + i, none⟩ = some vs[i] := (HCW.out ⟨b, o + i, none⟩ hb).trans (hc i _ (List.getElem?_eq_getElem hiv))
      have he := HVE.out i hiv hiq
      have hrl := HRL.out d.routes[i] (List.getElem_mem _)
      have HNXT : Hid (routesOf (d.routes.take i) ++ [ints d.routes[i]] = routesOf (d.routes.take (i + 1))) := routesOf_take d.routes i hiq
      have HBY : Hid (∀ x ∈ d.routes[i], x < 256) := HD.out.bytes _ (List.getElem_mem _)
      clear hc
      generalize vs[i] = z at *
      generalize d.routes[i] = r at *
      obtain ⟨B, cc, rfl, -, hx2⟩ := he
      simp only [bvals_length] at *
      have HX2 := Lib.hid hx2
      clear hx2
      obtain ⟨wL, hwL⟩ : ∃ x, x = wr := ⟨_, rfl⟩
      subst hwL
      have HG8 := Lib.hid g8; have HCE := Lib.hid hcell
      have HUS : Hid (us.length ≤ 20) := by show us.length ≤ 20; have h1 := HOR.out.len; unfold routesOf at h1; simp at h1; omega
      have hul : us.length ≤ 20 := HUS.out
      go_wp2_with fail
      clear g8 hcell
      go_loopw [5, 6] (fun t k wr => ∃ j : Nat, j ≤ r.length ∧ k = .int .i64 j ∧ Hid (wr.ownsRow wL.heap.size 3 1 t j (ivals (ints (r.take j))) ∧ KeptL [] wL wr)) (fun _ k _ => r.length - (intOf k).toNat)
      case atStart => exact ⟨0, Nat.zero_le _, rfl, World.ownsRow_nil _ _ _ _, KeptL.refl _ _⟩
      case round =>
        obtain ⟨j, hj, rfl, HE⟩ := hrel
        have e8 : wr.cell? ⟨n0, 8, none⟩ = some (.slice (some ⟨b, o, none⟩) kr cr) := by
          have e := HE.out.2.block n0 HMI.out.dr.lt (by simp)
          have := HG8.out; simp only [World.cell?] at this ⊢; rw [e]; exact this
        have ec : wr.cell? ⟨b, o + i, none⟩ = some (.slice B r.length cc) := by
          have e := HE.out.2.block b (by have := HSP.out; have := HKI.out.size; omega) (by simp)
          have := HCE.out; simp only [World.cell?] at this ⊢; rw [e]; exact this
        by_cases hlt2 : j < r.length
        · obtain ⟨b', o', rfl, hb', hc'⟩ := HX2.out (by omega)
          have hby := HBY.out r[j] (List.getElem_mem _)
          have ev : wr.cell? ⟨b', o' + j, none⟩ = some (.int .u8 (r[j] : Int)) := by
            have e := HE.out.2.block b' (by have := HSP.out; have := HKI.out.size; omega) (by simp)
            have h1 := hc' j _ (bvals_get r j hlt2)
            rw [← HCW.out ⟨b', o' + j, none⟩ hb'] at h1
            simp only [World.cell?] at h1 ⊢; rw [e]; exact h1
          have HSN : Hid (ivals (ints (r.take j)) ++ [.int .i64 (r[j] : Int)] = ivals (ints (r.take (j + 1)))) := by
            show _ = _
            rw [ivals_snoc', ints_take r j hlt2]
          clear hc'
          generalize r[j] = x at *
          have hx0 : IntKind.i64.wrap (x : Int) = (x : Int) := IntWalk.i64_in _ (by omega)
          go_wp2_with (at_builtin; refine wpList_append_own _ rfl (.tmp 26) (.tmp 36) 51 rfl wL.heap.size 3 i3 (.int .i64 0) 1 8 Try.underlying51 hi3 hz30 hz31 hz32 rfl (by decide) _ _ _ rfl (HE.out.1.alloc _) ⟨wr.heap.size, 0, none⟩ 1 1 [.int .i64 (x : Int)] rfl rfl (one_new wr 3 _) (one_cell rfl) (by unfold maxLen; omega) (by omega) (by have := HE.out.2.size; simp; omega) ?_)
          intro v5 w5 hown5 hgrow5 _
          rw [HSN.out] at hown5
          have hrb : ∀ k, u5.ownBlock = some k → wL.heap.size ≤ k := fun k hk => (HE.out.1.lt k hk).1
          have HNX : Hid (w5.ownsRow wL.heap.size 3 1 v5 (j + 1) (ivals (ints (r.take (j + 1)))) ∧ KeptL [] wL w5) := ⟨hown5, (HE.out.2.alloc _).grown hgrow5 hrb⟩
          clear hown5 hgrow5 hrb e8 ec ev hx0
          go_wp2_with fail
          go_roundw
          case rel => exact ⟨j + 1, by omega, by go_num, HNX⟩
          case measure => simp [intOf]; omega
        · have HJE : Hid (j = r.length) := by show _ = _; omega
          obtain ⟨wM, hwM⟩ : ∃ x, x = wr := ⟨_, rfl⟩
          subst hwM
          obtain ⟨Ax, cx, hx⟩ := own_slice HE.out.1
          subst hx
          have HEX := Lib.hid HE.out
          clear HE
          have HMM : Hid (Mk wM n0 b1 b3 #[.int .u8 (d.form : Int), .int .u8 (d.len : Int), .int .u8 (d.speed : Int), .int .u16 (d.mute : Int), .int .u16 (d.wait : Int), .int .u8 (d.cancel : Int), .int .u8 (d.stay : Int), .int .u8 (d.join : Int), .slice (some ⟨b, o, none⟩) kr cr] #[.slice A0 k0 c0, .slice A1 k1 c1, .slice A2 k2 c2, .slice A3 k3 c3, .slice A4 us.length c4, .int .i64 t0, .int .i64 t1, .int .i64 t2, .int .i64 t3, .int .i64 t4]) := HMI.out.kept HEX.out.2
          have HOM : Hid (ORows wM P.heap.size (.slice A4 us.length c4) us (routesOf (d.routes.take i))) := HOR.out.grown HEX.out.2.grownN (fun k hk => by cases hk)
          have HKM : Hid (KeptL [b3] P wM) := HKI.out.trans (HEX.out.2.mono (by simp))
          have f4 := HMM.out.lay.cell 4
          simp only [List.getElem?_toArray, List.getElem?_cons_zero, List.getElem?_cons_succ] at f4
          have HUX : Hid (wM.ownsRow P.heap.size 3 1 (.slice Ax j cx) (ints r).length (ivals (ints r))) := by
            have h1 := own_base HEX.out.1 HKI.out.size
            have h2 := HJE.out
            show wM.ownsRow P.heap.size 3 1 (.slice Ax j cx) (ints r).length (ivals (ints r))
            rw [ints_len, ← h2]
            have h3 : r.take j = r := by rw [h2]; exact List.take_length
            rw [h3] at h1
            exact h1
          have HFR : Hid (∀ g, (Value.slice Ax j cx).ownBlock = some g → ∀ q (h1 : q < us.length), us[q].ownBlock ≠ some g) := fun g hg q hq e => by
            have h1 := (HEX.out.1.lt g hg).1
            have h2 := ((HOR.out.row q hq (by rw [← HOR.out.len]; exact hq)).lt g e).2
            omega
          go_wp2_with (at_builtin; refine wpList_append_own _ rfl (.tmp 39) (.tmp 41) 30 rfl P.heap.size 51 i5 (.slice none 0 0) 1 24 Try.underlying30 hi5 hz50 hz51 hz52 rfl (by decide) _ _ _ rfl (HOM.out.own.alloc _) ⟨wM.heap.size, 0, none⟩ 1 1 [.slice Ax j cx] rfl rfl (one_new wM 51 _) (one_cell rfl) (by unfold maxLen; omega) (by omega) (by have := HKM.out.size; simp; omega) ?_)
          intro v5 w5 hown5 hgrow5 _
          obtain ⟨A5, c5, hv5⟩ := own_slice hown5
          subst hv5
          have hrb : ∀ k, (Value.slice A4 us.length c4).ownBlock = some k → P.heap.size ≤ k := fun k hk => (HOM.out.own.lt k hk).1
          have hpush := (HOM.out.alloc (.cells #[.slice Ax j cx] 51)).push (HUX.out.alloc _) HFR.out hown5 hgrow5
          have mk5 := (HMM.out.fresh ((Below.refl _ _).alloc (Nat.le_refl _) (.cells #[.slice Ax j cx] 51))).grown hgrow5 hrb HSP.out
          have kp5 : KeptL [b3] P w5 := (HKM.out.alloc _).grown hgrow5 hrb
          have g0 := mk5.lay.cell 4; have z0 := mk5.lay.frozen 4
          simp only [List.getElem?_toArray, List.getElem?_cons_zero, List.getElem?_cons_succ] at g0
          have HNX : Hid (∃ vR, Mk (w5.setCell ⟨b3, 4, none⟩ (.slice A5 (us.length + 1) c5)) n0 b1 b3 #[.int .u8 (d.form : Int), .int .u8 (d.len : Int), .int .u8 (d.speed : Int), .int .u16 (d.mute : Int), .int .u16 (d.wait : Int), .int .u8 (d.cancel : Int), .int .u8 (d.stay : Int), .int .u8 (d.join : Int), .slice (some ⟨b, o, none⟩) kr cr] #[.slice A0 k0 c0, .slice A1 k1 c1, .slice A2 k2 c2, .slice A3 k3 c3, vR, .int .i64 t0, .int .i64 t1, .int .i64 t2, .int .i64 t3, .int .i64 t4] ∧ OwnRows (w5.setCell ⟨b3, 4, none⟩ (.slice A5 (us.length + 1) c5)) P.heap.size vR (routesOf (d.routes.take (i + 1))) ∧ KeptL [b3] P (w5.setCell ⟨b3, 4, none⟩ (.slice A5 (us.length + 1) c5))) := ⟨_, mk5.set 4 _, ⟨_, by rw [← HNXT.out]; exact hpush.set (a := ⟨b3, 4, none⟩) HSP.out.2.2 _⟩, kp5.set (by simp) _⟩
          clear hown5 hgrow5 hrb mk5 kp5 hpush f4 e8 ec
          go_wp2_with fail
          go_roundw
          case rel => exact ⟨i + 1, by omega, by go_num, HNX⟩
          case measure => simp [intOf]; omega
    · have HIE : Hid (i = kr) := by show _ = _; omega
      obtain ⟨V5, hV5⟩ : ∃ x, x = wr := ⟨_, rfl⟩
      subst hV5
      have p0 := HMI.out.lay.cell 0; have q0 := HMI.out.res.cell 0; have r0 := HMI.out.res.frozen 0
      have p1 := HMI.out.lay.cell 1; have q1 := HMI.out.res.cell 1; have r1 := HMI.out.res.frozen 1
      have p2 := HMI.out.lay.cell 2; have q2 := HMI.out.res.cell 2; have r2 := HMI.out.res.frozen 2
      have p3 := HMI.out.lay.cell 3; have q3 := HMI.out.res.cell 3; have r3 := HMI.out.res.frozen 3
      have p4 := HMI.out.lay.cell 4; have q4 := HMI.out.res.cell 4; have r4 := HMI.out.res.frozen 4
      have p5 := HMI.out.lay.cell 5; have q5 := HMI.out.res.cell 5; have r5 := HMI.out.res.frozen 5
      have p6 := HMI.out.lay.cell 6; have q6 := HMI.out.res.cell 6; have r6 := HMI.out.res.frozen 6
      have p7 := HMI.out.lay.cell 7; have q7 := HMI.out.res.cell 7; have r7 := HMI.out.res.frozen 7
      have p8 := HMI.out.lay.cell 8; have q8 := HMI.out.res.cell 8; have r8 := HMI.out.res.frozen 8
      have p9 := HMI.out.lay.cell 9; have q9 := HMI.out.res.cell 9; have r9 := HMI.out.res.frozen 9
      simp only [List.getElem?_toArray, List.getElem?_cons_zero, List.getElem?_cons_succ] at p0 q0 p1 q1 p2 q2 p3 q3 p4 q4 p5 q5 p6 q6 p7 q7 p8 q8 p9 q9
      go_wp2_with fail
      obtain ⟨hrow, hbel, hkp⟩ := put10 HMI.out.res (.slice A0 k0 c0) (.slice A1 k1 c1) (.slice A2 k2 c2) (.slice A3 k3 c3) (.slice A4 us.length c4) (.int .i64 t0) (.int .i64 t1) (.int .i64 t2) (.int .i64 t3) (.int .i64 t4)
      refine bodyPost_ret (results_cell_row rfl _ _ b1 33 #[.slice A0 k0 c0, .slice A1 k1 c1, .slice A2 k2 c2, .slice A3 k3 c3, .slice A4 us.length c4, .int .i64 t0, .int .i64 t1, .int .i64 t2, .int .i64 t3, .int .i64 t4] (0, 0) _ rfl hrow Try.underlying33 rfl Try.size33) rfl ?_
      have up : ∀ k ∈ [b3], k ∈ [b3, b1] := by simp
      have k3 := (HKI.out.mono up).trans (hkp.mono (by simp))
      have o9 : ∀ t ∈ [47, 50, 51, 53, 3], Other P t [b3, b1] := by
        intro t ht
        simp only [List.mem_cons, List.not_mem_nil, or_false] at ht
        rcases ht with rfl | rfl | rfl | rfl | rfl <;> exact Other.two HMP.out.lay (by decide) HMP.out.res (by decide)
      have hF := HF2.out.kept k3 o9
      have hR : IsRows _ (.slice A4 us.length c4) (routesOf (d.routes.take i)) := (OwnRows.is ⟨us, HOR.out⟩).kept hkp (Other.one HMI.out.res (by decide)) (Other.one HMI.out.res (by decide))
      have hR2 : routesOf (d.routes.take i) = (roughL d).routes := by
        have h1 := HIE.out; have h2 := HK.out
        rw [List.take_of_length_le (by omega)]; rfl
      rw [hR2] at hR
      have hL := HLM.out
      subst hL
      have e := HT.out
      refine ⟨_, rfl, ?_, ?_⟩
      · refine IsLay.v ⟨_, _, _, _, _, ?_, ⟨hF.n, hF.s, hF.p, hF.q, hR⟩⟩
        rw [← e.1, ← e.2.1, ← e.2.2.1, ← e.2.2.2.1, ← e.2.2.2.2]
        rfl
      · have hn := HN.out
        rw [← hn.1]
        exact HBP.out.trans (k3.below (by have := HSP.out; omega) (by have := HN3.out; intro k hk; simp at hk; rcases hk with e | e <;> omega))

end Go.Proofs.Ythpfhcelmddjlaa

namespace Go.Proofs.Ythpfhcelmddjlaa
open Go.RowKit Fl
set_option maxRecDepth 100000

def RoughC : Prop := ∀ (w : World) (d : Dr) (vr : Value), DrOk d → BRows w w.heap.size vr d.routes → small d = true → Calls Try.prog 11 #[drV d vr] w (RetLay (roughL d) w)

theorem BRows.up {w w' : World} {v : Value} {xs : List (List Nat)} (h : BRows w w.heap.size v xs) (hb : Below w.heap.size w w') : BRows w' w'.heap.size v xs :=
  h.mono hb.size fun _ hp => hb.cell hp

theorem take_closed (q : List Nat) (k : Nat) (h : k ≤ q.length) : (closed q).take k = q.take k := by
  unfold closed
  rw [List.take_append_of_le_length h]

theorem enc_two (L : Lay) : 2 ≤ (pack (enc L)).length := by
  rw [pack_len8 _ (eight_enc _)]
  unfold enc
  simp only [List.length_append, nbit_length]
  omega

theorem own_cap {w : World} {B n m c : Nat} {t : TypeId} {s : Nat} {A : Option Addr} {xs : List Value} (h : w.ownsRow B t s (.slice A n c) m xs) : n ≤ c := by
  rcases h.2 with ⟨e, rfl⟩ | ⟨g, cap, cur, e, _, _, hc, _⟩
  · injection e with _ e1 e2; omega
  · injection e with _ e1 e2; omega

theorem Alike.decide0 : decide (Alike L0 L0) = true := decide_eq_true (alike_refl _)

end Go.Proofs.Ythpfhcelmddjlaa

namespace Go.Proofs.Ythpfhcelmddjlaa
open Go.RowKit Fl

theorem rough_any : RoughC := fun w d vr hd h hs => rough_of makeDraft_any w d vr hd h (small_iff hs).1 (small_iff hs).2

end Go.Proofs.Ythpfhcelmddjlaa
