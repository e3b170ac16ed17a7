/- Pure: a report that was made fits; an act that came in. -/
import Derived.Test.YtifcgkpannlnnaaF8
namespace Go.Proofs.Ytifcgkpannlnnaa
open Go.ChangeShapes Go.WideShapes Go.ChangeAt Go.RowKit Fl
set_option maxRecDepth 100000

theorem walkGo_thru {L : Lay} (T : Tame L) (ts : List Nat) (m : Nat) (k : Int) : ∀ f i o e, o.Nodup → 0 < o.length → okE L e → (∀ x ∈ o, ∃ n : Nat, x = (n : Int) ∧ n < L.secs.length) → thruL L (o.getD 0 0, k) (o.drop 1) = some e →
    (walkGo L ts m f i o e).Nodup ∧ (∀ x ∈ walkGo L ts m f i o e, ∃ n : Nat, x = (n : Int) ∧ n < L.secs.length) ∧ (thruL L ((walkGo L ts m f i o e).getD 0 0, k) ((walkGo L ts m f i o e).drop 1)).isSome = true
  | 0, i, o, e, h1, h2, h3, h4, h5 => ⟨h1, h4, by rw [walkGo, h5]; rfl⟩
  | f + 1, i, o, e, h1, h2, h3, h4, h5 => by
    rw [walkGo]
    split
    · exact ⟨h1, h4, by rw [h5]; rfl⟩
    · split
      · exact ⟨h1, h4, by rw [h5]; rfl⟩
      · split
        · exact ⟨h1, h4, by rw [h5]; rfl⟩
        · rename_i x hx hc
          have hmem := List.mem_of_getElem? hx
          have hn := okE_next T h3 hmem
          refine walkGo_thru T ts m k f (i + 1) (o ++ [x.1]) (x.1, 1 - x.2) ?_ (by simp) hn.2 ?_ ?_
          · rw [List.nodup_append]
            refine ⟨h1, by simp, ?_⟩
            intro a ha b hb
            simp only [List.mem_singleton] at hb
            subst hb
            intro e'
            subst e'
            exact hc (List.contains_iff_mem.2 ha)
          · intro y hy
            rw [List.mem_append] at hy
            rcases hy with hy | hy
            · exact h4 y hy
            · simp only [List.mem_singleton] at hy
              subst hy
              obtain ⟨s, hs, hl, _⟩ := hn.1
              exact ⟨s, hs, hl⟩
          · have hg : (o ++ [x.1]).getD 0 0 = o.getD 0 0 := by
              show ((o ++ [x.1])[0]?).getD 0 = (o[0]?).getD 0
              rw [List.getElem?_append_left h2]
            rw [hg, List.drop_append_of_le_length h2, thru_app, h5]
            show thruL L e [x.1] = _
            rw [thru_step T h3 hmem]
            rfl

theorem rep_fits {L : Lay} (T : Tame L) (fr ah mo : Nat) (ts : List Nat) (hs : 0 < L.secs.length) (hfr : fr < 256) (hn : ∀ n, n < L.secs.length → 0 < lenL L.secs (n : Int)) :
    fitsR L (repT L fr mo ts) (1 - ((fr / 128 : Nat) : Int)) (repA L fr ah : Nat) = true := by
  have hX : fr % L.secs.length < L.secs.length := Nat.mod_lt _ hs
  have hw := walkGo_thru T ts (1 + mo % 5) ((fr / 128 : Nat) : Int) (1 + mo % 5) 0 [((fr % L.secs.length : Nat) : Int)] (((fr % L.secs.length : Nat) : Int), ((fr / 128 : Nat) : Int)) (by simp) (by simp) ⟨_, rfl, hX, by omega⟩ (by intro x hx; simp only [List.mem_singleton] at hx; exact ⟨_, hx, hX⟩) rfl
  have hh := walkGo_head L ts (1 + mo % 5) (1 + mo % 5) 0 [((fr % L.secs.length : Nat) : Int)] (((fr % L.secs.length : Nat) : Int), ((fr / 128 : Nat) : Int)) (by simp)
  have hl := walkL_len L ((fr % L.secs.length : Nat) : Int) ((fr / 128 : Nat) : Int) ts (1 + mo % 5) (by omega)
  change (repT L fr mo ts).Nodup ∧ (∀ x ∈ repT L fr mo ts, _) ∧ (thruL L ((repT L fr mo ts).getD 0 0, _) ((repT L fr mo ts).drop 1)).isSome = true at hw
  change (repT L fr mo ts).getD 0 0 = ((fr % L.secs.length : Nat) : Int) ∧ 0 < (repT L fr mo ts).length at hh
  change (repT L fr mo ts).length ≤ _ at hl
  have hpos := hn _ hX
  have hA : ((repA L fr ah : Nat) : Int) ≤ lenL L.secs ((fr % L.secs.length : Nat) : Int) := by
    have : repA L fr ah < (lenL L.secs ((fr % L.secs.length : Nat) : Int)).toNat + 1 := Nat.mod_lt _ (by omega)
    omega
  rw [fitsR_thru]
  · rw [show (1 : Int) - (1 - ((fr / 128 : Nat) : Int)) = ((fr / 128 : Nat) : Int) by omega]
    exact hw.2.2
  · refine ⟨hh.2, by omega, by omega, by omega, (riseL_len _).2 hw.1⟩
  · intro j hj
    obtain ⟨n, e, h⟩ := hw.2.1 _ (List.getElem_mem hj)
    rw [e]
    have := hn n h
    omega
  · rw [hh.1]; exact hA

/-- An act that came in. -/
structure Ax where
  do_ : Nat
  id : Nat
  tk : Nat
  fr : Nat
  ts : List Nat
  ah : Nat
  wh : Bool
  mo : Nat
def axV (x : Ax) (vt : Value) : Value := .agg #[.int .u8 (x.do_ : Int), .int .u8 (x.id : Int), .int .u8 (x.tk : Int), .int .u8 (x.fr : Int), vt, .int .u16 (x.ah : Int), .bool x.wh, .int .u8 (x.mo : Int)]
structure AxOk (x : Ax) : Prop where
  id : x.id < 256
  fr : x.fr < 256
  ah : x.ah < 65536
  mo : x.mo < 256
  by_ : ∀ y ∈ x.ts, y < 256

theorem act_of_trod {H : Type} {enc : TypeId × Value → H} {W : World} {base : Nat} {v : Value} {dd : DataW H} {p : List MemPlace}
    (hval : Value.okWide Try.prog W .any base 28 v) (h : DataW.Trod enc Try.prog W 0 (fun _ => true) true 28 v dd p) :
    ∃ (x : Ax) (vt : Value), v = axV x vt ∧ AxOk x ∧ Rd W W.heap.size vt (bvals x.ts) ∧ x.ts.length ≤ 9223372036854775807 := by
  obtain ⟨cs, rfl, hsz⟩ := okWide_struct Try.underlying28 hval
  rw [show Try.prog.cellsOf 28 = 8 from by kernel_rfl] at hsz
  obtain ⟨fuel, hf⟩ := h
  obtain ⟨l⟩ := cs
  match l, hsz with
  | [c0, c1, c2, c3, c4, c5, c6, c7], _ =>
    obtain ⟨xs, n, _, _, _, hlen, hfs⟩ := DataW.trod_struct Try.underlying28 hf
    match xs, hlen with
    | [y0, y1, y2, y3, y4, y5, y6, y7], _ =>
      have k5 : Try.prog.cellsOf 5 = 1 := by kernel_rfl
      have k22 : Try.prog.cellsOf 22 = 1 := by kernel_rfl
      have k26 : Try.prog.cellsOf 26 = 1 := by kernel_rfl
      have k4 : Try.prog.cellsOf 4 = 1 := by kernel_rfl
      have g0 : DataW.trod enc Try.prog W 0 (fun _ => true) true n 5 [c0] = some y0 := by simpa [Value.cells, k5] using hfs 0 _ rfl
      have g1 : DataW.trod enc Try.prog W 0 (fun _ => true) true n 5 [c1] = some y1 := by simpa [Value.cells, k5] using hfs 1 _ rfl
      have g2 : DataW.trod enc Try.prog W 0 (fun _ => true) true n 5 [c2] = some y2 := by simpa [Value.cells, k5] using hfs 2 _ rfl
      have g3 : DataW.trod enc Try.prog W 0 (fun _ => true) true n 5 [c3] = some y3 := by simpa [Value.cells, k5] using hfs 3 _ rfl
      have g4 : DataW.trod enc Try.prog W 0 (fun _ => true) true n 26 [c4] = some y4 := by simpa [Value.cells, k26] using hfs 4 _ rfl
      have g5 : DataW.trod enc Try.prog W 0 (fun _ => true) true n 22 [c5] = some y5 := by simpa [Value.cells, k22] using hfs 5 _ rfl
      have g6 : DataW.trod enc Try.prog W 0 (fun _ => true) true n 4 [c6] = some y6 := by simpa [Value.cells, k4] using hfs 6 _ rfl
      have g7 : DataW.trod enc Try.prog W 0 (fun _ => true) true n 5 [c7] = some y7 := by simpa [Value.cells, k5] using hfs 7 _ rfl
      obtain ⟨z0, e0, _, w0⟩ := DataW.trod_int Try.underlying5 g0
      obtain ⟨z1, e1, _, w1⟩ := DataW.trod_int Try.underlying5 g1
      obtain ⟨z2, e2, _, w2⟩ := DataW.trod_int Try.underlying5 g2
      obtain ⟨z3, e3, _, w3⟩ := DataW.trod_int Try.underlying5 g3
      obtain ⟨z5, e5, _, w5⟩ := DataW.trod_int Try.underlying22 g5
      obtain ⟨z6, e6, _⟩ := DataW.trod_bool Try.underlying4 g6
      obtain ⟨z7, e7, _, w7⟩ := DataW.trod_int Try.underlying5 g7
      simp only [List.cons.injEq, and_true] at e0 e1 e2 e3 e5 e6 e7
      obtain ⟨n0, rfl, b0⟩ := u8_nat w0
      obtain ⟨n1, rfl, b1⟩ := u8_nat w1
      obtain ⟨n2, rfl, b2⟩ := u8_nat w2
      obtain ⟨n3, rfl, b3⟩ := u8_nat w3
      obtain ⟨n5, rfl, b5⟩ := u16_nat w5
      obtain ⟨n7, rfl, b7⟩ := u8_nat w7
      have hq : ∃ q : List Nat, (∀ y ∈ q, y < 256) ∧ Rd W W.heap.size c4 (bvals q) ∧ q.length ≤ 9223372036854775807 := by
        rcases open_ints Try.underlying26 Try.underlying5 (by kernel_rfl) g4 with ⟨hcs, _⟩ | ⟨x, l, c, zs, hcs, _, hl, hm, hz, _, hcell, hwz⟩
        · simp only [List.cons.injEq, and_true] at hcs
          subst hcs
          exact ⟨[], fun _ h => by simp at h, Rd.empty _ _, by simp⟩
        · simp only [List.cons.injEq, and_true] at hcs
          subst hcs
          obtain ⟨q, h0, h1, h2⟩ := arg_some hl (by simpa using hz) hcell hwz
          exact ⟨q, h1, h2, by rw [h0]; unfold maxLen at hm; omega⟩
      obtain ⟨q, hq1, hq2, hq3⟩ := hq
      subst e0 e1 e2 e3 e5 e6 e7
      exact ⟨⟨n0, n1, n2, n3, q, n5, z6, n7⟩, c4, rfl, ⟨b1, b3, b5, b7, hq1⟩, hq2, hq3⟩

end Go.Proofs.Ytifcgkpannlnnaa
