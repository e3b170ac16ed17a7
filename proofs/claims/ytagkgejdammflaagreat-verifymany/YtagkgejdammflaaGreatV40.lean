/- For VerifyMany: a row of sections, made by and by. -/
import Derived.Test.YtagkgejdammflaaGreatV39
namespace Go.Proofs.YtagkgejdammflaaGreat
open Go.RowKit Fl
set_option maxRecDepth 100000

/-- A row that is being made: its parts' rows are one's own, each in a block of its own. -/
structure MSt (w : World) (nL : Nat) (C : Array Value) (vN vS vP : Value) (ps : List (Nat × Nat)) (vs : List Value) (L : Lay) (W : World) : Prop where
  o : OwL w nL C vN vS vP (.slice none 0 0) (.slice none 0 0) ps vs [] L W
  own : ∀ i (h1 : i < vs.length) (h2 : i < L.parts.length), W.ownsRow (nL + 1) 3 1 vs[i] L.parts[i].length (ivals L.parts[i])
  ap : ApR vs
  nr : L.routes = []

section
variable {w : World} {nL : Nat} {C : Array Value} {vN vS vP : Value} {ps : List (Nat × Nat)} {vs : List Value} {L : Lay} {W W' : World}
theorem MSt.eq (h : MSt w nL C vN vS vP ps vs L W) {M : Lay} (e : L = M) : MSt w nL C vN vS vP ps vs M W := e ▸ h
theorem MSt.call (h : MSt w nL C vN vS vP ps vs L W) (hb : Below W.heap.size W W') : MSt w nL C vN vS vP ps vs L W' := ⟨h.o.call hb, fun i h1 h2 => own_below (h.own i h1 h2) hb, h.ap, h.nr⟩
theorem MSt.alloc (h : MSt w nL C vN vS vP ps vs L W) (o : Obj) : MSt w nL C vN vS vP ps vs L (W.alloc o) := h.call ((Below.refl _ _).alloc (Nat.le_refl _) o)
theorem MSt.drewN (h : MSt w nL C vN vS vP ps vs L W) (n : Nat) : MSt w nL C vN vS vP ps vs L (W.drewN n) := h.call (Below.drewN (Below.refl _ _) n)
theorem MSt.put (h : MSt w nL C vN vS vP ps vs L W) (i : Nat) (u : Value) {C' : Array Value} (hC : C.setIfInBounds i u = C') : MSt w nL C' vN vS vP ps vs L (W.setCell ⟨nL, i, none⟩ u) :=
  ⟨by rw [← hC]; exact h.o.put i u, fun j h1 h2 => ownsRow_setCell_below (h.own j h1 h2) (a := ⟨nL, i, none⟩) (Nat.lt_succ_self _) u, h.ap, h.nr⟩
theorem MSt.nodes (h : MSt w nL C vN vS vP ps vs L W) {v' : Value} {ps' : List (Nat × Nat)} {zs : List (Int × Int)} (hown : W'.ownsRow (nL + 1) 36 1 v' zs.length (nvals ps')) (hf : FlN ps' zs) (hg : W.grownBy W' vN.ownBlock) : MSt w nL C v' vS vP ps' vs { L with nodes := zs } W' :=
  ⟨h.o.nodes hown hf hg, fun i h1 h2 => (h.own i h1 h2).kept hg (own_apart (h.own i h1 h2) h.o.n (by decide)), h.ap, h.nr⟩
theorem MSt.secs (h : MSt w nL C vN vS vP ps vs L W) {v' : Value} {ss : List (Int × Int × Int)} (hown : W'.ownsRow (nL + 1) 39 3 v' ss.length (scells ss)) (hg : W.grownBy W' vS.ownBlock) : MSt w nL C vN v' vP ps vs { L with secs := ss } W' :=
  ⟨h.o.secs hown hg, fun i h1 h2 => (h.own i h1 h2).kept hg (own_apart (h.own i h1 h2) h.o.s (by decide)), h.ap, h.nr⟩
theorem MSt.push (h : MSt w nL C vN vS vP ps vs L W) {v' x : Value} {r : List Int} (hx : W.ownsRow (nL + 1) 3 1 x r.length (ivals r)) (hap : ApR (vs ++ [x])) (hown : W'.ownsRow (nL + 1) 42 1 v' (L.parts ++ [r]).length (vs ++ [x])) (hg : W.grownBy W' vP.ownBlock) : MSt w nL C vN vS v' ps (vs ++ [x]) { L with parts := L.parts ++ [r] } W' := by
  have hk : ∀ {v : Value} {l : List Int}, W.ownsRow (nL + 1) 3 1 v l.length (ivals l) → W'.ownsRow (nL + 1) 3 1 v l.length (ivals l) := fun hv => hv.kept hg (own_apart hv h.o.p (by decide))
  refine ⟨h.o.parts hown (h.o.pr.snoc (Or.inr hx)) hg ?_, fun i h1 h2 => ?_, hap, h.nr⟩
  · cases v'.ownBlock
    · exact Or.inl rfl
    · exact Or.inr (by simp [Value.ownBlock])
  · have hl := h.o.pr.1
    have h1' := h1
    rw [List.length_append] at h1'
    simp only [List.length_cons, List.length_nil] at h1'
    show W'.ownsRow (nL + 1) 3 1 (vs ++ [x])[i] ((L.parts ++ [r])[i]'h2).length (ivals ((L.parts ++ [r])[i]'h2))
    rcases Nat.lt_or_ge i vs.length with c | c
    · have c2 : i < L.parts.length := by omega
      rw [List.getElem_append_left c, List.getElem_append_left c2]
      exact hk (h.own i c c2)
    · obtain rfl : i = vs.length := by omega
      have e1 : (vs ++ [x])[vs.length]'h1 = x := by simp
      have e2 : (L.parts ++ [r])[vs.length]'h2 = r := by simp [hl]
      rw [e1, e2]
      exact hk hx
theorem MSt.row_put (h : MSt w nL C vN vS vP ps vs L W) (k g c : Nat) (hk : k < vs.length) (hP : vP = .slice (some ⟨g, 0, none⟩) L.parts.length c) {r' : List Int} {v' : Value} (hg : W.grownBy W' vs[k].ownBlock)
    (hown : W'.ownsRow (nL + 1) 3 1 v' r'.length (ivals r')) (hv : v'.ownBlock = vs[k].ownBlock ∨ v'.ownBlock = some W.heap.size) : MSt w nL C vN vS vP ps (vs.set k v') { L with parts := L.parts.set k r' } (W'.setCell ⟨g, k, none⟩ v') := by
  have hl := h.o.pr.1
  have hX := h.own k hk (by omega)
  have hp0 := h.o.p
  rw [hP] at hp0
  have hp' := hp0.kept hg (own_apart hp0 hX (by decide))
  obtain ⟨hst, hgs⟩ := hp'.stored k v'
  have hr : ∀ i (hi : i < vs.length), ∃ n xs, W.ownsRow (nL + 1) 3 1 vs[i] n xs := fun i hi => ⟨_, _, h.own i hi (by omega)⟩
  refine ⟨h.o.row_put k g c hk hP hX hg hown h.ap h.nr, fun i h1 h2 => ?_, h.ap.set hr k hk hv, h.nr⟩
  rw [List.length_set] at h1
  have h2' : i < L.parts.length := by omega
  show (W'.setCell ⟨g, k, none⟩ v').ownsRow (nL + 1) 3 1 (vs.set k v')[i] ((L.parts.set k r')[i]'h2).length (ivals ((L.parts.set k r')[i]'h2))
  by_cases e : k = i
  · subst e
    rw [List.getElem_set_self, List.getElem_set_self]
    exact hown.kept hgs (own_apart hown hp' (by decide))
  · rw [List.getElem_set_ne e, List.getElem_set_ne e]
    have h4 := (h.own i h1 h2').kept hg (h.ap i k h1 hk (Ne.symm e))
    exact h4.kept hgs (own_apart h4 hp' (by decide))
theorem MSt.apx (h : MSt w nL C vN vS vP ps vs L W) {v : Value} (hv : v.ownBlock = some W.heap.size) : ApR (vs ++ [v]) :=
  h.ap.snoc (fun i hi => ⟨_, _, h.own i hi (by have := h.o.pr.1; omega)⟩) hv
end

def mkM (zs : List (Int × Int)) (ss : List (Int × Int × Int)) (rows : List (List Int)) : Lay := ⟨zs, ss, rows, [], [], 1, 1, 1, 1, 0⟩
def manyC (vN vS vP : Value) : Array Value := #[vN, vS, vP, .slice none 0 0, .slice none 0 0, .int .i64 1, .int .i64 1, .int .i64 1, .int .i64 1, .int .i64 0]
def nodesM (n : Nat) : List (Int × Int) := (List.range n).map fun (j : Nat) => (10 * (j : Int), 0)
def psM (n : Nat) : List (Nat × Nat) := (List.range n).map fun (j : Nat) => (floatOfInt .f64 (10 * (j : Int)), 0)
def secsM (n : Nat) : List (Int × Int × Int) := (List.range n).map fun (i : Nat) => (10, (i : Int), (i : Int) + 1)
def partsM (o : Bool) : Nat → List (List Int)
  | 0 => []
  | i + 1 => if i < 16 ∨ o = false then partsM o i ++ [[(i : Int)]] else (partsM o i).set 15 ((partsM o i).getD 15 [] ++ [(i : Int)])
theorem nodesM_len (n : Nat) : (nodesM n).length = n := by simp [nodesM]
theorem secsM_len (n : Nat) : (secsM n).length = n := by simp [secsM]
theorem nodesM_succ (n : Nat) : nodesM (n + 1) = nodesM n ++ [(10 * (n : Int), 0)] := by simp [nodesM, List.range_succ]
theorem psM_succ (n : Nat) : psM (n + 1) = psM n ++ [(floatOfInt .f64 (10 * (n : Int)), 0)] := by simp [psM, List.range_succ]
theorem secsM_succ (n : Nat) : secsM (n + 1) = secsM n ++ [(10, (n : Int), (n : Int) + 1)] := by simp [secsM, List.range_succ]
theorem psM_fl (n : Nat) (hn : n ≤ 100) : FlN (psM n) (nodesM n) := by
  refine ⟨by simp [psM, nodesM], fun i h1 h2 => ?_⟩
  have hi : i < n := by simpa [nodesM] using h2
  simp only [psM, nodesM, List.getElem_map, List.getElem_range]
  exact ⟨fl_ofInt _ (by omega), fl_zero⟩
theorem partsM_len (o : Bool) : ∀ n, (partsM o n).length = if o then min n 16 else n
  | 0 => by cases o <;> rfl
  | n + 1 => by
    unfold partsM
    have ih := partsM_len o n
    split
    · rename_i h
      rw [List.length_append, ih]
      cases o
      · simp
      · simp only [if_true, List.length_cons, List.length_nil] at *
        have : n < 16 := by simpa using h
        omega
    · rename_i h
      rw [List.length_set, ih]
      cases o
      · simp at h
      · simp only [if_true] at *
        have : ¬ n < 16 := by simpa using h
        omega
theorem partsM_row (o : Bool) : ∀ n, ∀ r ∈ partsM o n, r.length ≤ n
  | 0 => fun r hr => absurd hr (by simp [partsM])
  | n + 1 => by
    intro r hr
    have ih := partsM_row o n
    unfold partsM at hr
    split at hr
    · rw [List.mem_append, List.mem_singleton] at hr
      rcases hr with h | h
      · have := ih r h; omega
      · rw [h]; simp
    · rcases List.mem_or_eq_of_mem_set hr with h | h
      · have := ih r h; omega
      · rw [h, List.length_append]
        simp only [List.length_cons, List.length_nil]
        rw [List.getD_eq_getElem?_getD]
        cases e : (partsM o n)[15]? with
        | none => simp
        | some r2 =>
          have := ih r2 (List.mem_of_getElem? e)
          simp; omega
theorem many_vf (o : Bool) (k : Nat) (hk : k < 45) : Vf2 (mkM (nodesM (k + 1)) (secsM k) (partsM o k)) := by
  have hp := partsM_len o k
  refine ⟨⟨⟨?_, ?_, ?_, ?_⟩, ?_, ?_⟩, fun r hr => absurd (show r ∈ ([] : List (List Int)) from hr) (by simp)⟩
  · show (secsM k).length ≤ 100; rw [secsM_len]; omega
  · show 0 ≤ 100; omega
  · show (partsM o k).length ≤ 100; rw [hp]; split <;> omega
  · intro r hr
    have := partsM_row o k r hr; omega
  · show (nodesM (k + 1)).length ≤ 1000; rw [nodesM_len]; omega
  · show 0 ≤ 1000; omega
theorem Five.dt {w : World} {vN vS vP vQ vR : Value} {L : Lay} (h : Five w vN vS vP vQ vR L) : ∃ ps, LayData w w.heap.size vN vS vP vQ vR ps L := by
  obtain ⟨ps, h1, h2⟩ := h.n; exact ⟨ps, h1.rd, h2, h.s.at, h.p.at, h.q.at, h.r.at⟩
theorem make00 (W : World) : Calls Tryz.prog 14 #[.agg #[.int .u8 0, .int .u8 0, .int .u8 0, .int .u16 0, .int .u16 0, .int .u8 0, .int .u8 0, .int .u8 0, .slice none 0 0]] W (RetMake d00 W) :=
  makeDraft_any W d00 (.slice none 0 0) ⟨by decide, by decide, by decide, by decide, by decide, by decide, by decide, by decide, by simp [d00]⟩ ⟨[], Rd.empty _ _, rfl, by simp [d00]⟩
theorem psM_snoc (n : Nat) : nvals (psM n) ++ [.complex .f64 (floatOfInt .f64 (10 * (n : Int))) 0] = nvals (psM (n + 1)) := by rw [psM_succ, nvals_snoc]
theorem secsM_snoc (n : Nat) : scells (secsM n) ++ [.int .i64 10, .int .i64 (n : Int), .int .i64 ((n : Int) + 1)] = scells (secsM (n + 1)) := by rw [secsM_succ, ← scells_snoc]
theorem partsM_push {o : Bool} {i : Nat} (h : i < 16 ∨ o = false) : partsM o (i + 1) = partsM o i ++ [[(i : Int)]] := by rw [partsM, if_pos h]
theorem partsM_row' {o : Bool} {i : Nat} (h : ¬ (i < 16 ∨ o = false)) : partsM o (i + 1) = (partsM o i).set 15 ((partsM o i).getD 15 [] ++ [(i : Int)]) := by rw [partsM, if_neg h]
theorem partsM_16 {o : Bool} {i : Nat} (h : ¬ (i < 16 ∨ o = false)) : (partsM o i).length = 16 := by
  rw [partsM_len]
  cases o
  · simp at h
  · have : ¬ i < 16 := by simpa using h
    simp only [if_true]; omega
def upI (n : Nat) : List Int := (List.range n).map fun (j : Nat) => (j : Int)
theorem upI_len (n : Nat) : (upI n).length = n := by simp [upI]
theorem upI_snoc (n : Nat) : ivals (upI n) ++ [.int .i64 (n : Int)] = ivals (upI (n + 1)) := by simp [upI, ivals, List.range_succ]
theorem rep_snoc (n : Nat) (r : List Int) : List.replicate n r ++ [r] = List.replicate (n + 1) r := by rw [List.replicate_succ']
theorem vf_routes {L : Lay} (h : Vf L) {rs : List (List Int)} (hl : rs.length ≤ 1000) (hr : ∀ r ∈ rs, r.length ≤ 1000) : Vf2 { L with routes := rs } :=
  ⟨⟨⟨h.f.s, h.f.q, h.f.p, h.f.r⟩, h.n, hl⟩, hr⟩
end Go.Proofs.YtagkgejdammflaaGreat
