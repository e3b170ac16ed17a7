/- Contracts: of: a train out of a spot. -/
import Derived.Test.YtbomkifnhkmkoaaC2
namespace Go.Proofs.Ytbomkifnhkmkoaa
open Go.RowKit Fl
set_option maxRecDepth 100000

theorem Below.six {B : Nat} {w w' : World} {g : Nat} (h : Below B w w') (hg : B ≤ g) (b0 b1 b2 b3 b4 b5 : Value) : Below B w ((((((w'.setCell ⟨g, 0, none⟩ b0).setCell ⟨g, 1, none⟩ b1).setCell ⟨g, 2, none⟩ b2).setCell ⟨g, 3, none⟩ b3).setCell ⟨g, 4, none⟩ b4).setCell ⟨g, 5, none⟩ b5) :=
  (((((h.setCell (p := ⟨g, 0, none⟩) hg _).setCell (p := ⟨g, 1, none⟩) hg _).setCell (p := ⟨g, 2, none⟩) hg _).setCell (p := ⟨g, 3, none⟩) hg _).setCell (p := ⟨g, 4, none⟩) hg _).setCell (p := ⟨g, 5, none⟩) hg _

theorem results_of {P : Program} {fn : Func} {p1 p2 p3 u1 u2 : Tmp} {y1 y2 y3 : TypeId} (h : fn.results = #[.cell p1 y1, .cell p2 y2, .cell p3 y3, .tmp u1, .tmp u2]) (tmps : Array Value) (w : World) (g1 g2 g3 : Nat) (s1 s2 s3 : TypeId) (k1 k2 k3 : Array Value) (f1 f2 f3 : Nat × Nat) (d1 d2 d3 : TypeDesc)
    (hp1 : tmps.getD p1 undef = .pointer (some ⟨g1, 0, none⟩)) (hg1 : w.heap[g1]? = some (.cells k1 s1 f1)) (hu1 : P.underlying y1 = some d1) (hd1 : (match d1 with | .struct _ | .array _ _ => true | _ => false) = true) (hi1 : (P.info? y1).map (·.size) = some k1.size)
    (hp2 : tmps.getD p2 undef = .pointer (some ⟨g2, 0, none⟩)) (hg2 : w.heap[g2]? = some (.cells k2 s2 f2)) (hu2 : P.underlying y2 = some d2) (hd2 : (match d2 with | .struct _ | .array _ _ => true | _ => false) = true) (hi2 : (P.info? y2).map (·.size) = some k2.size)
    (hp3 : tmps.getD p3 undef = .pointer (some ⟨g3, 0, none⟩)) (hg3 : w.heap[g3]? = some (.cells k3 s3 f3)) (hu3 : P.underlying y3 = some d3) (hd3 : (match d3 with | .struct _ | .array _ _ => true | _ => false) = true) (hi3 : (P.info? y3).map (·.size) = some k3.size) :
    (results fn tmps).run P w = .ok (.tuple #[.agg k1, .agg k2, .agg k3, tmps.getD u1 undef, tmps.getD u2 undef]) w := by
  have q1 : tmps[p1]?.getD undef = .pointer (some ⟨g1, 0, none⟩) := by simpa using hp1
  have q2 : tmps[p2]?.getD undef = .pointer (some ⟨g2, 0, none⟩) := by simpa using hp2
  have q3 : tmps[p3]?.getD undef = .pointer (some ⟨g3, 0, none⟩) := by simpa using hp3
  simp only [results, h]
  simp [Sem.run_bind, q1, q2, q3, asAddr, run_loadVar_row w g1 s1 y1 k1 f1 d1 hg1 hu1 hd1 hi1, run_loadVar_row w g2 s2 y2 k2 f2 d2 hg2 hu2 hd2 hi2, run_loadVar_row w g3 s3 y3 k3 f3 d3 hg3 hu3 hd3 hi3, Result.andThen]
theorem own_keptL {w w' : World} {B s n g : Nat} {t t' : TypeId} {v : Value} {xs : List Value} {cs : Array Value} (h : w.ownsRow B t s v n xs) (hk : KeptL [g] w w') (hr : Row w g t' cs) (ht : t ≠ t') : w'.ownsRow B t s v n xs := by
  obtain ⟨h1, h2⟩ := h
  refine ⟨h1, ?_⟩
  rcases h2 with h2 | ⟨g', cap, cur, rfl, hg, hh, r⟩
  · exact Or.inl h2
  · exact Or.inr ⟨g', cap, cur, rfl, hg, (hk.block g' (heap_lt hh) ((Other.one hr ht).ne hh)).trans hh, r⟩
theorem IsLay.kept1 {w w' : World} {v : Value} {L : Lay} {g : Nat} {t : TypeId} {cs : Array Value} (h : IsLay w v L) (hk : KeptL [g] w w') (hr : Row w g t cs) (ht : t = 37 ∨ t = 40 ∨ t = 41) : IsLay w' v L := by
  obtain ⟨vN, vS, vP, vQ, vR, e, hF⟩ := h
  refine ⟨vN, vS, vP, vQ, vR, e, hF.kept hk ?_⟩
  intro s hs
  simp only [List.mem_cons, List.not_mem_nil, or_false] at hs
  refine Other.one hr ?_
  rcases hs with rfl | rfl | rfl | rfl | rfl <;> rcases ht with rfl | rfl | rfl <;> decide
theorem Try.size40 : (Try.prog.info? 40).map (·.size) = some 6 := by kernel_rfl
theorem Try.size41 : (Try.prog.info? 41).map (·.size) = some 6 := by kernel_rfl

def RetOf (L : Lay) (x : Sp) (w : World) (e : Ending) (w' : World) : Prop :=
  ∃ vL A c, e = .returned (.tuple #[vL, .agg (tcells 4 (x.he : Int) (-1) (1 - ((x.fr / 128 : Nat) : Int)) (repA L x.fr x.ah : Nat) (.slice A (repT L x.fr x.lo x.ts).length c)), .agg (tcells 4 (x.he : Int) (-1) (1 - ((x.fr / 128 : Nat) : Int)) (repA L x.fr x.ah : Nat) (.slice A (repT L x.fr x.lo x.ts).length c)), .int .i64 ((x.he : Int) + (x.tk : Int)), .int .i64 ((x.sp % 10001 : Nat) : Int)]) ∧
    LayV w' w'.heap.size vL L ∧ Rd w' w'.heap.size (.slice A (repT L x.fr x.lo x.ts).length c) (ivals (repT L x.fr x.lo x.ts)) ∧ Below w.heap.size w w'

set_option maxHeartbeats 16000000 in
theorem of_any (w : World) (d : Dr) (vr : Value) (x : Sp) (At : Option Addr) (ct : Nat) (Ar : Option Addr) (cr : Nat) (hd : DrOk d) (h : BRows w w.heap.size vr d.routes) (hs : small d = true) (hx : SpOk x)
    (ht : Rd w w.heap.size (.slice At x.ts.length ct) (bvals x.ts)) (htl : x.ts.length ≤ 1000) :
    Calls Try.prog 11 #[drV d vr, spV x (.slice At x.ts.length ct) (.slice Ar x.ri.length cr)] w (RetOf (fullL d) x w) := by
  obtain ⟨Ad, kd, cd, hvr⟩ : ∃ A k c, vr = .slice A k c := by obtain ⟨vs, ⟨A, c, e, _⟩, _⟩ := h; exact ⟨A, _, c, e⟩
  subst hvr
  have HFL : Hid (∀ W, Below w.heap.size w W → Calls Try.prog 26 #[drV d (.slice Ad kd cd)] W (RetLayT (fullL d) W)) := fun W hW => fullT_any W d _ hd (h.up hW) hs
  have HFT : Hid (Fits (fullL d)) := fullL_fits d
  have HSE := Lib.hid (full_secs d)
  clear h hs hd
  obtain ⟨L, hL⟩ : ∃ L, fullL d = L := ⟨_, rfl⟩
  rw [hL] at HFL HFT HSE ⊢
  clear hL
  have hs := HSE.out.1
  have hn := HSE.out.2
  have hs100 := HFT.out.s
  obtain ⟨X, hX⟩ : ∃ X, X = x.fr % L.secs.length := ⟨_, rfl⟩
  obtain ⟨Y, hY⟩ : ∃ Y, Y = x.fr / 128 := ⟨_, rfl⟩
  obtain ⟨Z, hZ⟩ : ∃ Z, Z = x.lo % 5 := ⟨_, rfl⟩
  obtain ⟨S8, hS8⟩ : ∃ S, S = x.sp % 10001 := ⟨_, rfl⟩
  obtain ⟨T, hT⟩ : ∃ T, T = repT L x.fr x.lo x.ts := ⟨_, rfl⟩
  obtain ⟨H, hH⟩ : ∃ H, H = repA L x.fr x.ah := ⟨_, rfl⟩
  have hXl : X < L.secs.length := by rw [hX]; exact Nat.mod_lt _ hs
  obtain ⟨ln, hln⟩ : ∃ l : Nat, lenL L.secs (X : Int) = (l : Int) := ⟨(lenL L.secs (X : Int)).toNat, by have := hn X hXl; omega⟩
  have hlb := hn X hXl
  have hTW : T = walkL L (X : Int) (Y : Int) x.ts (1 + Z) := by rw [hT, hX, hY, hZ]; rfl
  have hHE : H = x.ah % (ln + 1) := by rw [hH]; unfold repA; rw [← hX, hln]; rfl
  have HT0 : Hid (0 < T.length ∧ T.getD 0 0 = (X : Int)) := by
    have := walkGo_head L x.ts (1 + Z) (1 + Z) 0 [(X : Int)] ((X : Int), (Y : Int)) (by simp)
    rw [hTW]; exact ⟨this.2, this.1⟩
  have HTL : Hid (T.length ≤ 5) := by
    have h1 := walkL_len L (X : Int) (Y : Int) x.ts (1 + Z) (by omega)
    rw [← hTW] at h1
    show _ ≤ _
    omega
  have HWK : Hid (∀ (W : World) (v : Value), Below w.heap.size w W → LayV W W.heap.size v L → Calls Try.prog 27 #[v, .int .i64 (X : Int), .int .i64 (Y : Int), .slice At x.ts.length ct, .int .i64 ((1 + Z : Nat) : Int)] W (RetOwn W.heap.size T W)) := fun W v hW hv => by
    rw [hTW]
    exact refWalk_any W _ v L (X : Int) (Y : Int) At ct x.ts (1 + Z) hv (Nat.le_refl _) HFT.out ((ht.below hW (Nat.le_refl _)).mono hW.size (fun _ _ => rfl)) hx.by_ htl (by omega) (by omega)
  have HLN : Hid (∀ (W : World) (v : Value), LayV W W.heap.size v L → Calls Try.prog 20 #[v, .int .i64 (X : Int)] W (fun e w' => e = .returned (.int .i64 (ln : Int)) ∧ Below W.heap.size W w')) := fun W v hv => by
    rw [← hln]
    exact refLen_any W _ v L (X : Int) hv (Nat.le_refl _) HFT.out
  obtain ⟨hx1, hx2, hx3, hx4, hx5, hx6, hx7⟩ := hx
  have f2 : ((x.fr : Int)).tdiv 128 = (Y : Int) := by rw [hY, Int.tdiv_eq_ediv_of_nonneg (by omega)]; omega
  have f3 : ((x.lo : Int)).tmod 5 = (Z : Int) := by rw [hZ, Int.tmod_eq_emod_of_nonneg (by omega)]; omega
  have f4 : ((x.sp : Int)).tmod 10001 = (S8 : Int) := by rw [hS8, Int.tmod_eq_emod_of_nonneg (by omega)]; omega
  have f5 : ((x.ah : Int)).tmod ((ln : Int) + 1) = (H : Int) := by rw [hHE, Int.tmod_eq_emod_of_nonneg (by omega), show (ln : Int) + 1 = ((ln + 1 : Nat) : Int) by omega]; exact (Int.natCast_emod _ _).symm
  have f2e : (x.fr : Int) / 128 = (Y : Int) := by omega
  have f3e : (x.lo : Int) % 5 = (Z : Int) := by omega
  have f4e : (x.sp : Int) % 10001 = (S8 : Int) := by omega
  have f5e : (x.ah : Int) % ((ln : Int) + 1) = (H : Int) := by rw [hHE, show (ln : Int) + 1 = ((ln + 1 : Nat) : Int) by omega]; exact (Int.natCast_emod _ _).symm
  have hln0 : ¬ (ln : Int) + 1 = 0 := by omega
  have hH2 : H < 65536 := by have := Nat.mod_le x.ah (ln + 1); omega
  have HXK : Hid (X = x.fr % L.secs.length ∧ 0 < L.secs.length) := ⟨hX, hs⟩
  have HFIN : Hid (RetOf L x w = fun e w' => ∃ vL A c, e = .returned (.tuple #[vL, .agg (tcells 4 (x.he : Int) (-1) (1 - (Y : Int)) (H : Int) (.slice A T.length c)), .agg (tcells 4 (x.he : Int) (-1) (1 - (Y : Int)) (H : Int) (.slice A T.length c)), .int .i64 ((x.he : Int) + (x.tk : Int)), .int .i64 (S8 : Int)]) ∧ LayV w' w'.heap.size vL L ∧ Rd w' w'.heap.size (.slice A T.length c) (ivals T) ∧ Below w.heap.size w w') := by
    show _ = _
    unfold RetOf
    rw [← hT, ← hH, ← hS8, ← hY]
  obtain ⟨Q, hQ⟩ : ∃ Q, RetOf L x w = Q := ⟨_, rfl⟩
  rw [hQ] at HFIN ⊢
  have hY2 : Y < 2 := by omega
  have hZ5 : Z < 5 := by omega
  have hS82 : S8 < 10001 := by omega
  have hX2 : X < 100 := by omega
  have hln2 : ln ≤ 1000 := by omega
  clear hX hY hZ hS8 hT hH hTW hHE hQ hlb hln hn hs hs100 hXl hx3
  have hw0 : IntKind.i64.wrap (x.fr : Int) = (x.fr : Int) := IntWalk.i64_in _ (by omega)
  have hw1 : IntKind.i64.wrap (X : Int) = (X : Int) := IntWalk.i64_in _ (by omega)
  have hw2 : IntKind.i64.wrap (Y : Int) = (Y : Int) := IntWalk.i64_in _ (by omega)
  have hw3 : IntKind.i64.wrap (Z : Int) = (Z : Int) := IntWalk.i64_in _ (by omega)
  have hw4 : IntKind.i64.wrap (1 + (Z : Int)) = 1 + (Z : Int) := IntWalk.i64_in _ (by omega)
  have hw5 : IntKind.i64.wrap (S8 : Int) = (S8 : Int) := IntWalk.i64_in _ (by omega)
  have hw6 : IntKind.i64.wrap (1 - (Y : Int)) = 1 - (Y : Int) := IntWalk.i64_in _ (by omega)
  have hw7 : IntKind.i64.wrap (x.ah : Int) = (x.ah : Int) := IntWalk.i64_in _ (by omega)
  have hw8 : IntKind.i64.wrap ((ln : Int) + 1) = (ln : Int) + 1 := IntWalk.i64_in _ (by omega)
  have hw9 : IntKind.i64.wrap (H : Int) = (H : Int) := IntWalk.i64_in _ (by omega)
  have hwa : IntKind.i64.wrap (x.he : Int) = (x.he : Int) := IntWalk.i64_in _ (by omega)
  have hwb : IntKind.i64.wrap (x.tk : Int) = (x.tk : Int) := IntWalk.i64_in _ (by omega)
  have hwc : IntKind.i64.wrap ((x.he : Int) + (x.tk : Int)) = (x.he : Int) + (x.tk : Int) := IntWalk.i64_in _ (by omega)
  obtain ⟨tn, htn⟩ : ∃ n, x.ts.length = n := ⟨_, rfl⟩
  rw [htn] at HWK htl
  unfold drV at HFL
  unfold drV spV
  rw [htn]
  generalize x.ri.length = rn at *
  obtain ⟨w00, hw00⟩ : ∃ v, v = (w.alloc (.cells #[.int .u8 (d.form : Int), .int .u8 (d.len : Int), .int .u8 (d.speed : Int), .int .u16 (d.mute : Int), .int .u16 (d.wait : Int), .int .u8 (d.cancel : Int), .int .u8 (d.stay : Int), .int .u8 (d.join : Int), .slice Ad kd cd] 25)).alloc (.cells #[.int .u8 (x.fr : Int), .int .u8 (x.lo : Int), .slice At tn ct, .int .u16 (x.ah : Int), .int .u16 (x.he : Int), .int .u16 (x.tk : Int), .int .u16 (x.sp : Int), .slice Ar rn cr] 29) := ⟨_, rfl⟩
  have hb0 := below2 w (.cells #[.int .u8 (d.form : Int), .int .u8 (d.len : Int), .int .u8 (d.speed : Int), .int .u16 (d.mute : Int), .int .u16 (d.wait : Int), .int .u8 (d.cancel : Int), .int .u8 (d.stay : Int), .int .u8 (d.join : Int), .slice Ad kd cd] 25) (.cells #[.int .u8 (x.fr : Int), .int .u8 (x.lo : Int), .slice At tn ct, .int .u16 (x.ah : Int), .int .u16 (x.he : Int), .int .u16 (x.tk : Int), .int .u16 (x.sp : Int), .slice Ar rn cr] 29)
  have hz1 := Row.new (w.alloc (.cells #[.int .u8 (d.form : Int), .int .u8 (d.len : Int), .int .u8 (d.speed : Int), .int .u16 (d.mute : Int), .int .u16 (d.wait : Int), .int .u8 (d.cancel : Int), .int .u8 (d.stay : Int), .int .u8 (d.join : Int), .slice Ad kd cd] 25)) 29 #[.int .u8 (x.fr : Int), .int .u8 (x.lo : Int), .slice At tn ct, .int .u16 (x.ah : Int), .int .u16 (x.he : Int), .int .u16 (x.tk : Int), .int .u16 (x.sp : Int), .slice Ar rn cr]
  have hz0 := (Row.new w 25 #[.int .u8 (d.form : Int), .int .u8 (d.len : Int), .int .u8 (d.speed : Int), .int .u16 (d.mute : Int), .int .u16 (d.wait : Int), .int .u8 (d.cancel : Int), .int .u8 (d.stay : Int), .int .u8 (d.join : Int), .slice Ad kd cd]).alloc (.cells #[.int .u8 (x.fr : Int), .int .u8 (x.lo : Int), .slice At tn ct, .int .u16 (x.ah : Int), .int .u16 (x.he : Int), .int .u16 (x.tk : Int), .int .u16 (x.sp : Int), .slice Ar rn cr] 29)
  rw [World.size_alloc] at hz1
  have hsz0 : ((w.alloc (.cells #[.int .u8 (d.form : Int), .int .u8 (d.len : Int), .int .u8 (d.speed : Int), .int .u16 (d.mute : Int), .int .u16 (d.wait : Int), .int .u8 (d.cancel : Int), .int .u8 (d.stay : Int), .int .u8 (d.join : Int), .slice Ad kd cd] 25)).alloc (.cells #[.int .u8 (x.fr : Int), .int .u8 (x.lo : Int), .slice At tn ct, .int .u16 (x.ah : Int), .int .u16 (x.he : Int), .int .u16 (x.tk : Int), .int .u16 (x.sp : Int), .slice Ar rn cr] 29)).heap.size = w.heap.size + 1 + 1 := by simp
  rw [← hw00] at hb0 hz0 hz1 hsz0
  have hb1 := ((Below.refl w00.heap.size w00).alloc (Nat.le_refl _) (.cells #[.slice none 0 0, .slice none 0 0, .slice none 0 0, .slice none 0 0, .slice none 0 0, .int .i64 0, .int .i64 0, .int .i64 0, .int .i64 0, .int .i64 0] 37)).alloc (by simp) (.cells (tcells 0 0 0 0 0 (.slice none 0 0)) 40)
  have hb2 := hb1.alloc hb1.size (.cells (tcells 0 0 0 0 0 (.slice none 0 0)) 41)
  have hy2 := ((Row.new w00 37 #[.slice none 0 0, .slice none 0 0, .slice none 0 0, .slice none 0 0, .slice none 0 0, .int .i64 0, .int .i64 0, .int .i64 0, .int .i64 0, .int .i64 0]).alloc (.cells (tcells 0 0 0 0 0 (.slice none 0 0)) 40)).alloc (.cells (tcells 0 0 0 0 0 (.slice none 0 0)) 41)
  have hy3 := (Row.new (w00.alloc (.cells #[.slice none 0 0, .slice none 0 0, .slice none 0 0, .slice none 0 0, .slice none 0 0, .int .i64 0, .int .i64 0, .int .i64 0, .int .i64 0, .int .i64 0] 37)) 40 (tcells 0 0 0 0 0 (.slice none 0 0))).alloc (.cells (tcells 0 0 0 0 0 (.slice none 0 0)) 41)
  have hy4 := Row.new ((w00.alloc (.cells #[.slice none 0 0, .slice none 0 0, .slice none 0 0, .slice none 0 0, .slice none 0 0, .int .i64 0, .int .i64 0, .int .i64 0, .int .i64 0, .int .i64 0] 37)).alloc (.cells (tcells 0 0 0 0 0 (.slice none 0 0)) 40)) 41 (tcells 0 0 0 0 0 (.slice none 0 0))
  rw [World.size_alloc] at hy3
  rw [World.size_alloc, World.size_alloc] at hy4
  have HRD := Lib.hid (Below.row hb2 hz0 hz0.lt)
  have HST : Hid (OSt w (w.heap.size + 1) w00.heap.size (w00.heap.size + 1) (w00.heap.size + 1 + 1) #[.int .u8 (x.fr : Int), .int .u8 (x.lo : Int), .slice At tn ct, .int .u16 (x.ah : Int), .int .u16 (x.he : Int), .int .u16 (x.tk : Int), .int .u16 (x.sp : Int), .slice Ar rn cr] (((w00.alloc (.cells #[.slice none 0 0, .slice none 0 0, .slice none 0 0, .slice none 0 0, .slice none 0 0, .int .i64 0, .int .i64 0, .int .i64 0, .int .i64 0, .int .i64 0] 37)).alloc (.cells (tcells 0 0 0 0 0 (.slice none 0 0)) 40)).alloc (.cells (tcells 0 0 0 0 0 (.slice none 0 0)) 41))) :=
    ⟨hb0.trans (hb2.mono hb0.size), Below.row hb2 hz1 hz1.lt, hy2, hy3, hy4⟩
  have hszq := hsz0
  clear hb0 hb1 hb2 hz0 hz1 hy2 hy3 hy4 hsz0 htn
  rw [hszq] at HST
  go_enter Try.func11, Try.ntmps11
  go_upto_region 1 with (fail)
  rw [← hw00]
  obtain ⟨n0, hn0⟩ : ∃ n, n = w.heap.size := ⟨_, rfl⟩
  obtain ⟨n1, hn1⟩ : ∃ n, n = n0 + 1 := ⟨_, rfl⟩
  obtain ⟨n2, hn2⟩ : ∃ n, n = n1 + 1 := ⟨_, rfl⟩
  obtain ⟨n3, hn3⟩ : ∃ n, n = n2 + 1 := ⟨_, rfl⟩
  obtain ⟨n4, hn4⟩ : ∃ n, n = n3 + 1 := ⟨_, rfl⟩
  have HN : Hid (n0 = w.heap.size ∧ n1 = n0 + 1 ∧ n2 = n1 + 1 ∧ n3 = n2 + 1 ∧ n4 = n3 + 1) := ⟨hn0, hn1, hn2, hn3, hn4⟩
  rw [← hn0] at HRD HST ⊢
  rw [← hn1] at HST ⊢
  rw [← hn2] at HST ⊢
  rw [← hn3] at HST ⊢
  rw [← hn4] at HST ⊢
  clear hn0 hn1 hn2 hn3 hn4
  generalize ((w00.alloc (.cells #[.slice none 0 0, .slice none 0 0, .slice none 0 0, .slice none 0 0, .slice none 0 0, .int .i64 0, .int .i64 0, .int .i64 0, .int .i64 0, .int .i64 0] 37)).alloc (.cells (tcells 0 0 0 0 0 (.slice none 0 0)) 40)).alloc (.cells (tcells 0 0 0 0 0 (.slice none 0 0)) 41) = W0 at *
  clear hw00
  have f0 := HRD.out.cell 0; have f1 := HRD.out.cell 1; have f2 := HRD.out.cell 2; have f3 := HRD.out.cell 3; have f4 := HRD.out.cell 4; have f5 := HRD.out.cell 5; have f6 := HRD.out.cell 6; have f7 := HRD.out.cell 7; have f8 := HRD.out.cell 8
  simp only [List.getElem?_toArray, List.getElem?_cons_zero, List.getElem?_cons_succ] at f0 f1 f2 f3 f4 f5 f6 f7 f8
  go_wp2_with fail
  refine (HFL.out W0 (by rw [HN.out.1] at *; exact HST.out.bel)).mono ?_; rintro e w1 ⟨vL, rfl, hvL, hb1⟩
  obtain ⟨A0, k0, c0, A1, k1, c1, A2, k2, c2, A3, k3, c3, A4, k4, c4, t0, t1, t2, t3, t4, hv, hkn, hkk, -, -⟩ := hvL.v.lens
  subst hv
  have hba := (Below.refl w1.heap.size w1).alloc (Nat.le_refl _) (.cells #[.slice A0 k0 c0, .slice A1 k1 c1, .slice A2 k2 c2, .slice A3 k3 c3, .slice A4 k4 c4, .int .i64 t0, .int .i64 t1, .int .i64 t2, .int .i64 t3, .int .i64 t4] 37)
  have HS1 := Lib.hid ((HST.out.call hb1).call hba)
  have HL1 := Lib.hid (hvL.up hba)
  have HRL := Lib.hid (Row.new w1 37 #[.slice A0 k0 c0, .slice A1 k1 c1, .slice A2 k2 c2, .slice A3 k3 c3, .slice A4 k4 c4, .int .i64 t0, .int .i64 t1, .int .i64 t2, .int .i64 t3, .int .i64 t4])
  have HK1 : Hid (k1 = L.secs.length) := hkk.symm
  have HSL1 : Hid (n2 < w1.heap.size ∧ n3 < w1.heap.size ∧ n4 < w1.heap.size) := ⟨(HST.out.call hb1).r2.lt, (HST.out.call hb1).r3.lt, (HST.out.call hb1).r4.lt⟩
  clear hba hb1 hvL hkn hkk f0 f1 f2 f3 f4 f5 f6 f7 f8 HRD HST HFL
  go_upto_region 2 with (fail)
  obtain ⟨nL, hnL⟩ : ∃ n, n = w1.heap.size := ⟨_, rfl⟩
  rw [← hnL] at HRL ⊢
  have HLN4 : Hid (nL ≠ n2 ∧ nL ≠ n3 ∧ nL ≠ n4) := by have h2 := HS1.out.r2; have h3 := HS1.out.r3; have h4 := HS1.out.r4; refine ⟨?_, ?_, ?_⟩ <;> (have := HSL1.out; omega)
  clear hnL
  generalize w1.alloc (.cells #[.slice A0 k0 c0, .slice A1 k1 c1, .slice A2 k2 c2, .slice A3 k3 c3, .slice A4 k4 c4, .int .i64 t0, .int .i64 t1, .int .i64 t2, .int .i64 t3, .int .i64 t4] 37) = w2 at *
  have a0 := HS1.out.r1.cell 0
  simp only [List.getElem?_toArray, List.getElem?_cons_zero] at a0
  go_upto_region 3 with (fail)
  clear a0
  have hk1n : ¬ k1 = 0 := by have := HK1.out; have := HXK.out.2; omega
  have hk1i : ¬ (k1 : Int) = 0 := by omega
  have f1e : (x.fr : Int) % (k1 : Int) = (X : Int) := by have h1 := HK1.out; have h2 := HXK.out.1; rw [h1, h2]; exact (Int.natCast_emod _ _).symm
  have f1 : ((x.fr : Int)).tmod (k1 : Int) = (X : Int) := by rw [Int.tmod_eq_emod_of_nonneg (by omega)]; exact f1e
  have p0 := HRL.out.cell 0; have p1 := HRL.out.cell 1; have p2 := HRL.out.cell 2; have p3 := HRL.out.cell 3; have p4 := HRL.out.cell 4; have p5 := HRL.out.cell 5; have p6 := HRL.out.cell 6; have p7 := HRL.out.cell 7; have p8 := HRL.out.cell 8; have p9 := HRL.out.cell 9
  simp only [List.getElem?_toArray, List.getElem?_cons_zero, List.getElem?_cons_succ] at p0 p1 p2 p3 p4 p5 p6 p7 p8 p9
  have a0 := HS1.out.r1.cell 0; have a1 := HS1.out.r1.cell 1; have a2 := HS1.out.r1.cell 2
  simp only [List.getElem?_toArray, List.getElem?_cons_zero, List.getElem?_cons_succ] at a0 a1 a2
  go_still_tail 16, (by kernel_rfl)
  change wpList _ _ _ _ _ w2.drew
  have hbd : Below w2.heap.size w2 w2.drew := (Below.refl _ _).drew
  have HS2 := Lib.hid (HS1.out.call hbd)
  have HL2 := Lib.hid (HL1.out.up hbd)
  have HRL2 := Lib.hid (Below.row hbd HRL.out HRL.out.lt)
  clear hbd p0 p1 p2 p3 p4 p5 p6 p7 p8 p9 a0 a1 a2 HS1 HL1 HRL
  generalize w2.drew = w3 at *
  go_wp2_with fail
  rw [show (1 : Int) + (Z : Int) = ((1 + Z : Nat) : Int) by omega]
  refine (HWK.out w3 _ (by rw [HN.out.1] at *; exact HS2.out.bel) HL2.out.v).mono ?_; rintro e w4 ⟨v4, rfl, ho4, hb4⟩
  obtain ⟨A7, c7, hv7⟩ := own_slice ho4
  subst hv7
  have HS4 := Lib.hid (HS2.out.call hb4)
  have HL4 := Lib.hid (HL2.out.up hb4)
  have HRL4 := Lib.hid (Below.row hb4 HRL2.out HRL2.out.lt)
  have HO4 := Lib.hid ho4
  have HSZ4 : Hid (w3.heap.size ≤ w4.heap.size) := hb4.size
  clear ho4 hb4 HS2 HL2 HRL2 HWK
  obtain ⟨wl, hwl⟩ : ∃ n, T.length = n := ⟨_, rfl⟩
  have HWL := Lib.hid hwl
  rw [hwl] at HO4 HT0 HTL ⊢
  have hwl0 : 0 < wl := HT0.out.1
  have hwl0i : (0 : Int) < (wl : Int) := by omega
  have hT0 : T[0]? = some (X : Int) := by
    have h1 := HT0.out.2
    rw [List.getD, List.getElem?_eq_getElem (by omega)] at h1
    rw [List.getElem?_eq_getElem (by omega)]
    exact congrArg some h1
  obtain ⟨b, o, hA, hbB, q0⟩ := (Rd.of_own (show w4.ownsRow w3.heap.size 3 1 (.slice A7 T.length c7) T.length (ivals T) by rw [hwl]; exact HO4.out)).at (i := 0) (u := .int .i64 (X : Int)) (by simp [ivals, hT0])
  subst hA
  rw [Nat.add_zero] at q0
  have HBX : Hid (b < w4.heap.size) := hbB
  clear hT0 hwl hbB
  go_upto_region 4 with (fail)
  obtain ⟨wT, hwT⟩ : ∃ W, W = w4 := ⟨_, rfl⟩
  subst hwT
  go_cut [12] (fun v wx => ∃ nx, v = .pointer (some ⟨nx, 0, none⟩) ∧ Hid (Row wx nx 40 (tcells 4 (x.he : Int) (-1) (1 - (Y : Int)) (H : Int) (.slice (some ⟨b, o, none⟩) wl c7))) ∧ Hid (wT.heap.size ≤ nx) ∧ Hid (Below wT.heap.size wT wx))
  case first =>
    rename_i J K' hJ hK
    have HBA : Hid (Below wT.heap.size wT (wT.alloc (.cells (tcells 0 0 0 0 0 (.slice none 0 0)) 40)).drew) := ((Below.refl _ _).alloc (Nat.le_refl _) _).drew
    have HRNA : Hid (Row (wT.alloc (.cells (tcells 0 0 0 0 0 (.slice none 0 0)) 40)).drew wT.heap.size 40 (tcells 0 0 0 0 0 (.slice none 0 0))) := Row.new wT 40 (tcells 0 0 0 0 0 (.slice none 0 0))
    have HLT : Hid (nL < wT.heap.size ∧ n1 < wT.heap.size ∧ b < wT.heap.size) := ⟨HRL4.out.lt, HS4.out.r1.lt, HBX.out⟩
    have HSS : Hid (∀ W, Below wT.heap.size wT W → W.cell? ⟨nL, 0, none⟩ = some (.slice A0 k0 c0) ∧ W.cell? ⟨nL, 1, none⟩ = some (.slice A1 k1 c1) ∧ W.cell? ⟨nL, 2, none⟩ = some (.slice A2 k2 c2) ∧ W.cell? ⟨nL, 3, none⟩ = some (.slice A3 k3 c3) ∧ W.cell? ⟨nL, 4, none⟩ = some (.slice A4 k4 c4) ∧ W.cell? ⟨nL, 5, none⟩ = some (.int .i64 t0) ∧ W.cell? ⟨nL, 6, none⟩ = some (.int .i64 t1) ∧ W.cell? ⟨nL, 7, none⟩ = some (.int .i64 t2) ∧ W.cell? ⟨nL, 8, none⟩ = some (.int .i64 t3) ∧ W.cell? ⟨nL, 9, none⟩ = some (.int .i64 t4) ∧ W.cell? ⟨n1, 3, none⟩ = some (.int .u16 (x.ah : Int)) ∧ W.cell? ⟨n1, 4, none⟩ = some (.int .u16 (x.he : Int)) ∧ W.cell? ⟨b, o, none⟩ = some (.int .i64 (X : Int))) := fun W hW => ⟨(hW.cell (p := ⟨nL, 0, none⟩) HLT.out.1).trans (HRL4.out.cell 0), (hW.cell (p := ⟨nL, 1, none⟩) HLT.out.1).trans (HRL4.out.cell 1), (hW.cell (p := ⟨nL, 2, none⟩) HLT.out.1).trans (HRL4.out.cell 2), (hW.cell (p := ⟨nL, 3, none⟩) HLT.out.1).trans (HRL4.out.cell 3), (hW.cell (p := ⟨nL, 4, none⟩) HLT.out.1).trans (HRL4.out.cell 4), (hW.cell (p := ⟨nL, 5, none⟩) HLT.out.1).trans (HRL4.out.cell 5), (hW.cell (p := ⟨nL, 6, none⟩) HLT.out.1).trans (HRL4.out.cell 6), (hW.cell (p := ⟨nL, 7, none⟩) HLT.out.1).trans (HRL4.out.cell 7), (hW.cell (p := ⟨nL, 8, none⟩) HLT.out.1).trans (HRL4.out.cell 8), (hW.cell (p := ⟨nL, 9, none⟩) HLT.out.1).trans (HRL4.out.cell 9), (hW.cell (p := ⟨n1, 3, none⟩) HLT.out.2.1).trans (HS4.out.r1.cell 3), (hW.cell (p := ⟨n1, 4, none⟩) HLT.out.2.1).trans (HS4.out.r1.cell 4), (hW.cell (p := ⟨b, o, none⟩) HLT.out.2.2).trans q0⟩
    have s0 := HSS.out wT.drew (Below.refl _ _).drew
    have sA := HSS.out _ HBA.out
    have HLD : Hid (LayV wT.drew wT.drew.heap.size (.agg #[.slice A0 k0 c0, .slice A1 k1 c1, .slice A2 k2 c2, .slice A3 k3 c3, .slice A4 k4 c4, .int .i64 t0, .int .i64 t1, .int .i64 t2, .int .i64 t3, .int .i64 t4]) L) := (HL4.out.up ((Below.refl wT.heap.size wT).drew)).v
    have HLA : Hid (LayV (wT.alloc (.cells (tcells 0 0 0 0 0 (.slice none 0 0)) 40)).drew (wT.alloc (.cells (tcells 0 0 0 0 0 (.slice none 0 0)) 40)).drew.heap.size (.agg #[.slice A0 k0 c0, .slice A1 k1 c1, .slice A2 k2 c2, .slice A3 k3 c3, .slice A4 k4 c4, .int .i64 t0, .int .i64 t1, .int .i64 t2, .int .i64 t3, .int .i64 t4]) L) := (HL4.out.up HBA.out).v
    obtain ⟨r0, r1, r2, r3, r4, r5, r6, r7, r8, r9, r10, r11, r12⟩ := (show _ from s0)
    go_region_held3 (fun w' => w'.cell? ⟨nL, 0, none⟩ = some (.slice A0 k0 c0) ∧ w'.cell? ⟨nL, 1, none⟩ = some (.slice A1 k1 c1) ∧ w'.cell? ⟨nL, 2, none⟩ = some (.slice A2 k2 c2) ∧ w'.cell? ⟨nL, 3, none⟩ = some (.slice A3 k3 c3) ∧ w'.cell? ⟨nL, 4, none⟩ = some (.slice A4 k4 c4) ∧ w'.cell? ⟨nL, 5, none⟩ = some (.int .i64 t0) ∧ w'.cell? ⟨nL, 6, none⟩ = some (.int .i64 t1) ∧ w'.cell? ⟨nL, 7, none⟩ = some (.int .i64 t2) ∧ w'.cell? ⟨nL, 8, none⟩ = some (.int .i64 t3) ∧ w'.cell? ⟨nL, 9, none⟩ = some (.int .i64 t4) ∧ w'.cell? ⟨n1, 3, none⟩ = some (.int .u16 (x.ah : Int)) ∧ w'.cell? ⟨n1, 4, none⟩ = some (.int .u16 (x.he : Int)) ∧ w'.cell? ⟨b, o, none⟩ = some (.int .i64 (X : Int))) (first | (with_reducible assumption) | exact s0 | exact sA | go_keep) (first | (go_at_call 20; (with_reducible refine (HLN.out wT.drew _ HLD.out).mono ?_); rintro e w5 ⟨rfl, hb5⟩; have HB5 : Hid (Below wT.heap.size wT w5) := (show Below wT.heap.size wT wT.drew from (Below.refl _ _).drew).trans hb5; have d5 := HSS.out w5 HB5.out; have HB6 : Hid (Below wT.heap.size wT (w5.alloc (.cells (tcells 0 0 0 0 0 (.slice none 0 0)) 40))) := HB5.out.alloc HB5.out.size _; have d6 := HSS.out _ HB6.out; have HB7 : Hid (Below wT.heap.size wT (w5.alloc (.cells (tcells 4 (x.he : Int) (-1) (1 - (Y : Int)) (H : Int) (.slice (some ⟨b, o, none⟩) wl c7)) 40))) := HB5.out.alloc HB5.out.size _; have d7 := HSS.out _ HB7.out; have HR7 := Lib.hid (Row.new w5 40 (tcells 4 (x.he : Int) (-1) (1 - (Y : Int)) (H : Int) (.slice (some ⟨b, o, none⟩) wl c7))); have HNX7 := Lib.hid HB5.out.size; clear hb5) | (go_at_call 20; (with_reducible refine (HLN.out _ _ HLA.out).mono ?_); rintro e w5 ⟨rfl, hb5⟩; have HB5 : Hid (Below wT.heap.size wT w5) := HBA.out.trans (hb5.mono HBA.out.size); have d5 := HSS.out w5 HB5.out; have hr5 := Below.row hb5 HRNA.out HRNA.out.lt; have hz0 := hr5.frozen 0; have hz1 := hr5.frozen 1; have hz2 := hr5.frozen 2; have hz3 := hr5.frozen 3; have hz4 := hr5.frozen 4; have hz5 := hr5.frozen 5; have hc0 := hr5.cell 0; have hc1 := hr5.cell 1; have hc2 := hr5.cell 2; have hc3 := hr5.cell 3; have hc4 := hr5.cell 4; have hc5 := hr5.cell 5; simp only [List.getElem?_toArray, List.getElem?_cons_zero, List.getElem?_cons_succ] at hc0 hc1 hc2 hc3 hc4 hc5; have HR7 : Hid (Row ((((((w5.setCell ⟨wT.heap.size, 0, none⟩ (.int .i64 4)).setCell ⟨wT.heap.size, 1, none⟩ (.int .i64 (x.he : Int))).setCell ⟨wT.heap.size, 2, none⟩ (.int .i64 (-1))).setCell ⟨wT.heap.size, 3, none⟩ (.int .i64 (1 - (Y : Int)))).setCell ⟨wT.heap.size, 4, none⟩ (.int .i64 (H : Int))).setCell ⟨wT.heap.size, 5, none⟩ (.slice (some ⟨b, o, none⟩) wl c7)) wT.heap.size 40 (tcells 4 (x.he : Int) (-1) (1 - (Y : Int)) (H : Int) (.slice (some ⟨b, o, none⟩) wl c7))) := hr5.six (.int .i64 4) (.int .i64 (x.he : Int)) (.int .i64 (-1)) (.int .i64 (1 - (Y : Int))) (.int .i64 (H : Int)) (.slice (some ⟨b, o, none⟩) wl c7); have HB7 : Hid (Below wT.heap.size wT ((((((w5.setCell ⟨wT.heap.size, 0, none⟩ (.int .i64 4)).setCell ⟨wT.heap.size, 1, none⟩ (.int .i64 (x.he : Int))).setCell ⟨wT.heap.size, 2, none⟩ (.int .i64 (-1))).setCell ⟨wT.heap.size, 3, none⟩ (.int .i64 (1 - (Y : Int)))).setCell ⟨wT.heap.size, 4, none⟩ (.int .i64 (H : Int))).setCell ⟨wT.heap.size, 5, none⟩ (.slice (some ⟨b, o, none⟩) wl c7))) := Below.six HB5.out (Nat.le_refl _) (.int .i64 4) (.int .i64 (x.he : Int)) (.int .i64 (-1)) (.int .i64 (1 - (Y : Int))) (.int .i64 (H : Int)) (.slice (some ⟨b, o, none⟩) wl c7); have d7 := HSS.out _ HB7.out; have HNX7 : Hid (wT.heap.size ≤ wT.heap.size) := Nat.le_refl _; clear hb5 hr5))
    all_goals (refine hK _ _ (Met.intro (hJ _ _ ?_)); (repeat apply Exists.intro); refine ⟨?rel, rfl⟩; case rel => exact ⟨_, rfl, HR7, HNX7, HB7⟩)
  case rest =>
  obtain ⟨nx, rfl, HRX, HNX, HBX5⟩ := hcut
  have HXN4 : Hid (nx ≠ n2 ∧ nx ≠ n3 ∧ nx ≠ n4) := by have h2 := HS4.out.r2.lt; have h3 := HS4.out.r3.lt; have h4 := HS4.out.r4.lt; have h5 := HNX.out; refine ⟨?_, ?_, ?_⟩ <;> omega
  obtain ⟨w6, hw6⟩ : ∃ W, W = wc := ⟨_, rfl⟩
  subst hw6
  have HS6 := Lib.hid (HS4.out.call HBX5.out)
  have HL6 := Lib.hid (HL4.out.up HBX5.out)
  have HRL6 := Lib.hid (Below.row HBX5.out HRL4.out HRL4.out.lt)
  have HO6 := Lib.hid (own_below HO4.out HBX5.out)
  clear HBX5 HNX HBX q0 HS4 HL4 HRL4 HO4 HLN f1 f1e f2 f2e f3 f3e f5 f5e hln0 hk1n hk1i
  have y1 := HRX.out.cell 1; have y3 := HRX.out.cell 3; have y4 := HRX.out.cell 4
  simp only [List.getElem?_toArray, List.getElem?_cons_zero, List.getElem?_cons_succ] at y1 y3 y4
  have hba := (Below.refl w6.heap.size w6).alloc (Nat.le_refl _) (.cells (tcells 4 (x.he : Int) (-1) (1 - (Y : Int)) (H : Int) (.slice (some ⟨b, o, none⟩) wl c7)) 41)
  have HS7 := Lib.hid (HS6.out.call hba)
  have HL7 := Lib.hid (HL6.out.up hba)
  have HRL7 := Lib.hid (Below.row hba HRL6.out HRL6.out.lt)
  have HRX7 := Lib.hid (Below.row hba HRX.out HRX.out.lt)
  have HO7 := Lib.hid (own_below HO6.out hba)
  have HRY7 := Lib.hid (Row.new w6 41 (tcells 4 (x.he : Int) (-1) (1 - (Y : Int)) (H : Int) (.slice (some ⟨b, o, none⟩) wl c7)))
  have HSY : Hid (w6.heap.size ≠ n2 ∧ w6.heap.size ≠ n3 ∧ w6.heap.size ≠ n4) := by have h2 := HS6.out.r2.lt; have h3 := HS6.out.r3.lt; have h4 := HS6.out.r4.lt; refine ⟨?_, ?_, ?_⟩ <;> omega
  clear hba HS6 HL6 HRL6 HO6 HRX
  go_upto_region 6 with (fail)
  obtain ⟨ny, hny⟩ : ∃ n, n = w6.heap.size := ⟨_, rfl⟩
  rw [← hny] at HRY7 HSY ⊢
  have HYN4 : Hid (ny ≠ n2 ∧ ny ≠ n3 ∧ ny ≠ n4) := HSY.out
  clear hny y1 y3 y4
  generalize w6.alloc (.cells (tcells 4 (x.he : Int) (-1) (1 - (Y : Int)) (H : Int) (.slice (some ⟨b, o, none⟩) wl c7)) 41) = w7 at *
  have hbd : Below w7.heap.size w7 w7.drew := (Below.refl _ _).drew
  have HS8 := Lib.hid (HS7.out.call hbd)
  have HL8 := Lib.hid (HL7.out.up hbd)
  have HO8 := Lib.hid (own_below HO7.out hbd)
  have HRL8 := Lib.hid (Below.row hbd HRL7.out HRL7.out.lt)
  have HRX8 := Lib.hid (Below.row hbd HRX7.out HRX7.out.lt)
  have HRY8 := Lib.hid (Below.row hbd HRY7.out HRY7.out.lt)
  clear hbd HS7 HL7 HRL7 HRX7 HRY7 HO7
  have HF4 : Hid ((x.sp : Int).tmod 10001 = (S8 : Int) ∧ (x.sp : Int) % 10001 = (S8 : Int)) := ⟨f4, f4e⟩
  refine AnyBut.region (fun w' => w'.cell? ⟨nL, 0, none⟩ = some (.slice A0 k0 c0) ∧ w'.cell? ⟨nL, 1, none⟩ = some (.slice A1 k1 c1) ∧ w'.cell? ⟨nL, 2, none⟩ = some (.slice A2 k2 c2) ∧ w'.cell? ⟨nL, 3, none⟩ = some (.slice A3 k3 c3) ∧ w'.cell? ⟨nL, 4, none⟩ = some (.slice A4 k4 c4) ∧ w'.cell? ⟨nL, 5, none⟩ = some (.int .i64 t0) ∧ w'.cell? ⟨nL, 6, none⟩ = some (.int .i64 t1) ∧ w'.cell? ⟨nL, 7, none⟩ = some (.int .i64 t2) ∧ w'.cell? ⟨nL, 8, none⟩ = some (.int .i64 t3) ∧ w'.cell? ⟨nL, 9, none⟩ = some (.int .i64 t4) ∧ w'.cell? ⟨nx, 0, none⟩ = some (.int .i64 4) ∧ w'.cell? ⟨nx, 1, none⟩ = some (.int .i64 (x.he : Int)) ∧ w'.cell? ⟨nx, 2, none⟩ = some (.int .i64 (-1)) ∧ w'.cell? ⟨nx, 3, none⟩ = some (.int .i64 (1 - (Y : Int))) ∧ w'.cell? ⟨nx, 4, none⟩ = some (.int .i64 (H : Int)) ∧ w'.cell? ⟨nx, 5, none⟩ = some (.slice (some ⟨b, o, none⟩) wl c7) ∧ w'.cell? ⟨ny, 0, none⟩ = some (.int .i64 4) ∧ w'.cell? ⟨ny, 1, none⟩ = some (.int .i64 (x.he : Int)) ∧ w'.cell? ⟨ny, 2, none⟩ = some (.int .i64 (-1)) ∧ w'.cell? ⟨ny, 3, none⟩ = some (.int .i64 (1 - (Y : Int))) ∧ w'.cell? ⟨ny, 4, none⟩ = some (.int .i64 (H : Int)) ∧ w'.cell? ⟨ny, 5, none⟩ = some (.slice (some ⟨b, o, none⟩) wl c7) ∧ w'.cell? ⟨n1, 4, none⟩ = some (.int .u16 (x.he : Int)) ∧ w'.cell? ⟨n1, 5, none⟩ = some (.int .u16 (x.tk : Int)) ∧ w'.cell? ⟨n1, 6, none⟩ = some (.int .u16 (x.sp : Int))) 18 (by kernel_rfl) ?_
  change AnyBut _ _ _ _ _ _ _ _ _ w7.drew
  generalize w7.drew = w8 at *
  have hA := HS8.out.r2; have hB := HS8.out.r3; have hC := HS8.out.r4
  have hne : n2 ≠ n3 ∧ n2 ≠ n4 ∧ n3 ≠ n4 := by have := HN.out; omega
  have hx1n : n1 ≠ n2 ∧ n1 ≠ n3 ∧ n1 ≠ n4 := by have := HN.out; omega
  have hLn : nL ≠ n2 ∧ nL ≠ n3 ∧ nL ≠ n4 := HLN4.out
  have hXn : nx ≠ n2 ∧ nx ≠ n3 ∧ nx ≠ n4 := HXN4.out
  have hYn : ny ≠ n2 ∧ ny ≠ n3 ∧ ny ≠ n4 := HYN4.out
  have u0 := hA.cell 0; have u1 := hA.cell 1; have u2 := hA.cell 2; have u3 := hA.cell 3; have u4 := hA.cell 4; have u5 := hA.cell 5; have u6 := hA.cell 6; have u7 := hA.cell 7; have u8 := hA.cell 8; have u9 := hA.cell 9
  simp only [List.getElem?_toArray, List.getElem?_cons_zero, List.getElem?_cons_succ] at u0 u1 u2 u3 u4 u5 u6 u7 u8 u9
  have s0 := hB.cell 0; have s1 := hB.cell 1; have s2 := hB.cell 2; have s3 := hB.cell 3; have s4 := hB.cell 4; have s5 := hB.cell 5
  simp only [List.getElem?_toArray, List.getElem?_cons_zero, List.getElem?_cons_succ] at s0 s1 s2 s3 s4 s5
  have q0 := hC.cell 0; have q1 := hC.cell 1; have q2 := hC.cell 2; have q3 := hC.cell 3; have q4 := hC.cell 4; have q5 := hC.cell 5
  simp only [List.getElem?_toArray, List.getElem?_cons_zero, List.getElem?_cons_succ] at q0 q1 q2 q3 q4 q5
  have zu0 := hA.frozen 0; have zu1 := hA.frozen 1; have zu2 := hA.frozen 2; have zu3 := hA.frozen 3; have zu4 := hA.frozen 4; have zu5 := hA.frozen 5; have zu6 := hA.frozen 6; have zu7 := hA.frozen 7; have zu8 := hA.frozen 8; have zu9 := hA.frozen 9
  have zs0 := hB.frozen 0; have zs1 := hB.frozen 1; have zs2 := hB.frozen 2; have zs3 := hB.frozen 3; have zs4 := hB.frozen 4; have zs5 := hB.frozen 5
  have zq0 := hC.frozen 0; have zq1 := hC.frozen 1; have zq2 := hC.frozen 2; have zq3 := hC.frozen 3; have zq4 := hC.frozen 4; have zq5 := hC.frozen 5
  obtain ⟨hne1, hne2, hne3⟩ := hne
  have hne4 := Ne.symm hne1; have hne5 := Ne.symm hne2; have hne6 := Ne.symm hne3
  have kA : KeptL [n2] w8 ((((((((((w8.setCell ⟨n2, 0, none⟩ (.slice A0 k0 c0)).setCell ⟨n2, 1, none⟩ (.slice A1 k1 c1)).setCell ⟨n2, 2, none⟩ (.slice A2 k2 c2)).setCell ⟨n2, 3, none⟩ (.slice A3 k3 c3)).setCell ⟨n2, 4, none⟩ (.slice A4 k4 c4)).setCell ⟨n2, 5, none⟩ (.int .i64 t0)).setCell ⟨n2, 6, none⟩ (.int .i64 t1)).setCell ⟨n2, 7, none⟩ (.int .i64 t2)).setCell ⟨n2, 8, none⟩ (.int .i64 t3)).setCell ⟨n2, 9, none⟩ (.int .i64 t4)) := (KeptL.refl _ _).ten (by simp) (.slice A0 k0 c0) (.slice A1 k1 c1) (.slice A2 k2 c2) (.slice A3 k3 c3) (.slice A4 k4 c4) (.int .i64 t0) (.int .i64 t1) (.int .i64 t2) (.int .i64 t3) (.int .i64 t4)
  have kB : KeptL [n3] ((((((((((w8.setCell ⟨n2, 0, none⟩ (.slice A0 k0 c0)).setCell ⟨n2, 1, none⟩ (.slice A1 k1 c1)).setCell ⟨n2, 2, none⟩ (.slice A2 k2 c2)).setCell ⟨n2, 3, none⟩ (.slice A3 k3 c3)).setCell ⟨n2, 4, none⟩ (.slice A4 k4 c4)).setCell ⟨n2, 5, none⟩ (.int .i64 t0)).setCell ⟨n2, 6, none⟩ (.int .i64 t1)).setCell ⟨n2, 7, none⟩ (.int .i64 t2)).setCell ⟨n2, 8, none⟩ (.int .i64 t3)).setCell ⟨n2, 9, none⟩ (.int .i64 t4)) ((((((((((((((((w8.setCell ⟨n2, 0, none⟩ (.slice A0 k0 c0)).setCell ⟨n2, 1, none⟩ (.slice A1 k1 c1)).setCell ⟨n2, 2, none⟩ (.slice A2 k2 c2)).setCell ⟨n2, 3, none⟩ (.slice A3 k3 c3)).setCell ⟨n2, 4, none⟩ (.slice A4 k4 c4)).setCell ⟨n2, 5, none⟩ (.int .i64 t0)).setCell ⟨n2, 6, none⟩ (.int .i64 t1)).setCell ⟨n2, 7, none⟩ (.int .i64 t2)).setCell ⟨n2, 8, none⟩ (.int .i64 t3)).setCell ⟨n2, 9, none⟩ (.int .i64 t4)).setCell ⟨n3, 0, none⟩ (.int .i64 4)).setCell ⟨n3, 1, none⟩ (.int .i64 (x.he : Int))).setCell ⟨n3, 2, none⟩ (.int .i64 (-1))).setCell ⟨n3, 3, none⟩ (.int .i64 (1 - (Y : Int)))).setCell ⟨n3, 4, none⟩ (.int .i64 (H : Int))).setCell ⟨n3, 5, none⟩ (.slice (some ⟨b, o, none⟩) wl c7)) := (KeptL.refl _ _).six (by simp) (.int .i64 4) (.int .i64 (x.he : Int)) (.int .i64 (-1)) (.int .i64 (1 - (Y : Int))) (.int .i64 (H : Int)) (.slice (some ⟨b, o, none⟩) wl c7)
  have kC : KeptL [n4] ((((((((((((((((w8.setCell ⟨n2, 0, none⟩ (.slice A0 k0 c0)).setCell ⟨n2, 1, none⟩ (.slice A1 k1 c1)).setCell ⟨n2, 2, none⟩ (.slice A2 k2 c2)).setCell ⟨n2, 3, none⟩ (.slice A3 k3 c3)).setCell ⟨n2, 4, none⟩ (.slice A4 k4 c4)).setCell ⟨n2, 5, none⟩ (.int .i64 t0)).setCell ⟨n2, 6, none⟩ (.int .i64 t1)).setCell ⟨n2, 7, none⟩ (.int .i64 t2)).setCell ⟨n2, 8, none⟩ (.int .i64 t3)).setCell ⟨n2, 9, none⟩ (.int .i64 t4)).setCell ⟨n3, 0, none⟩ (.int .i64 4)).setCell ⟨n3, 1, none⟩ (.int .i64 (x.he : Int))).setCell ⟨n3, 2, none⟩ (.int .i64 (-1))).setCell ⟨n3, 3, none⟩ (.int .i64 (1 - (Y : Int)))).setCell ⟨n3, 4, none⟩ (.int .i64 (H : Int))).setCell ⟨n3, 5, none⟩ (.slice (some ⟨b, o, none⟩) wl c7)) ((((((((((((((((((((((w8.setCell ⟨n2, 0, none⟩ (.slice A0 k0 c0)).setCell ⟨n2, 1, none⟩ (.slice A1 k1 c1)).setCell ⟨n2, 2, none⟩ (.slice A2 k2 c2)).setCell ⟨n2, 3, none⟩ (.slice A3 k3 c3)).setCell ⟨n2, 4, none⟩ (.slice A4 k4 c4)).setCell ⟨n2, 5, none⟩ (.int .i64 t0)).setCell ⟨n2, 6, none⟩ (.int .i64 t1)).setCell ⟨n2, 7, none⟩ (.int .i64 t2)).setCell ⟨n2, 8, none⟩ (.int .i64 t3)).setCell ⟨n2, 9, none⟩ (.int .i64 t4)).setCell ⟨n3, 0, none⟩ (.int .i64 4)).setCell ⟨n3, 1, none⟩ (.int .i64 (x.he : Int))).setCell ⟨n3, 2, none⟩ (.int .i64 (-1))).setCell ⟨n3, 3, none⟩ (.int .i64 (1 - (Y : Int)))).setCell ⟨n3, 4, none⟩ (.int .i64 (H : Int))).setCell ⟨n3, 5, none⟩ (.slice (some ⟨b, o, none⟩) wl c7)).setCell ⟨n4, 0, none⟩ (.int .i64 4)).setCell ⟨n4, 1, none⟩ (.int .i64 (x.he : Int))).setCell ⟨n4, 2, none⟩ (.int .i64 (-1))).setCell ⟨n4, 3, none⟩ (.int .i64 (1 - (Y : Int)))).setCell ⟨n4, 4, none⟩ (.int .i64 (H : Int))).setCell ⟨n4, 5, none⟩ (.slice (some ⟨b, o, none⟩) wl c7)) := (KeptL.refl _ _).six (by simp) (.int .i64 4) (.int .i64 (x.he : Int)) (.int .i64 (-1)) (.int .i64 (1 - (Y : Int))) (.int .i64 (H : Int)) (.slice (some ⟨b, o, none⟩) wl c7)
  have ra1 := hA.ten (.slice A0 k0 c0) (.slice A1 k1 c1) (.slice A2 k2 c2) (.slice A3 k3 c3) (.slice A4 k4 c4) (.int .i64 t0) (.int .i64 t1) (.int .i64 t2) (.int .i64 t3) (.int .i64 t4)
  have rb1 := kA.row hB (by simp; omega)
  have rc1 := kA.row hC (by simp; omega)
  have rb2 := rb1.six (.int .i64 4) (.int .i64 (x.he : Int)) (.int .i64 (-1)) (.int .i64 (1 - (Y : Int))) (.int .i64 (H : Int)) (.slice (some ⟨b, o, none⟩) wl c7)
  have ra2 := kB.row ra1 (by simp; omega)
  have rc2 := kB.row rc1 (by simp; omega)
  have rc3 := rc2.six (.int .i64 4) (.int .i64 (x.he : Int)) (.int .i64 (-1)) (.int .i64 (1 - (Y : Int))) (.int .i64 (H : Int)) (.slice (some ⟨b, o, none⟩) wl c7)
  have ra3 := kC.row ra2 (by simp; omega)
  have rb3 := kC.row rb2 (by simp; omega)
  have l3 := ((HL8.out.kept1 kA hA (Or.inl rfl)).kept1 kB rb1 (Or.inr (Or.inl rfl))).kept1 kC rc2 (Or.inr (Or.inr rfl))
  have o3 := own_keptL (own_keptL (own_keptL HO8.out kA hA (by decide)) kB rb1 (by decide)) kC rc2 (by decide)
  have hN := HN.out
  have b3 : Below w.heap.size w ((((((((((((((((((((((w8.setCell ⟨n2, 0, none⟩ (.slice A0 k0 c0)).setCell ⟨n2, 1, none⟩ (.slice A1 k1 c1)).setCell ⟨n2, 2, none⟩ (.slice A2 k2 c2)).setCell ⟨n2, 3, none⟩ (.slice A3 k3 c3)).setCell ⟨n2, 4, none⟩ (.slice A4 k4 c4)).setCell ⟨n2, 5, none⟩ (.int .i64 t0)).setCell ⟨n2, 6, none⟩ (.int .i64 t1)).setCell ⟨n2, 7, none⟩ (.int .i64 t2)).setCell ⟨n2, 8, none⟩ (.int .i64 t3)).setCell ⟨n2, 9, none⟩ (.int .i64 t4)).setCell ⟨n3, 0, none⟩ (.int .i64 4)).setCell ⟨n3, 1, none⟩ (.int .i64 (x.he : Int))).setCell ⟨n3, 2, none⟩ (.int .i64 (-1))).setCell ⟨n3, 3, none⟩ (.int .i64 (1 - (Y : Int)))).setCell ⟨n3, 4, none⟩ (.int .i64 (H : Int))).setCell ⟨n3, 5, none⟩ (.slice (some ⟨b, o, none⟩) wl c7)).setCell ⟨n4, 0, none⟩ (.int .i64 4)).setCell ⟨n4, 1, none⟩ (.int .i64 (x.he : Int))).setCell ⟨n4, 2, none⟩ (.int .i64 (-1))).setCell ⟨n4, 3, none⟩ (.int .i64 (1 - (Y : Int)))).setCell ⟨n4, 4, none⟩ (.int .i64 (H : Int))).setCell ⟨n4, 5, none⟩ (.slice (some ⟨b, o, none⟩) wl c7)) := by
    have h1 := HS8.out.bel
    exact ((h1.trans ((kA.below (B := w.heap.size) h1.size (by intro k hk; simp at hk; omega)))).trans (kB.below (by have := h1.size; have := kA.size; omega) (by intro k hk; simp at hk; omega))).trans (kC.below (by have := h1.size; have := kA.size; have := kB.size; omega) (by intro k hk; simp at hk; omega))
  have HFI : Hid (Below w.heap.size w ((((((((((((((((((((((w8.setCell ⟨n2, 0, none⟩ (.slice A0 k0 c0)).setCell ⟨n2, 1, none⟩ (.slice A1 k1 c1)).setCell ⟨n2, 2, none⟩ (.slice A2 k2 c2)).setCell ⟨n2, 3, none⟩ (.slice A3 k3 c3)).setCell ⟨n2, 4, none⟩ (.slice A4 k4 c4)).setCell ⟨n2, 5, none⟩ (.int .i64 t0)).setCell ⟨n2, 6, none⟩ (.int .i64 t1)).setCell ⟨n2, 7, none⟩ (.int .i64 t2)).setCell ⟨n2, 8, none⟩ (.int .i64 t3)).setCell ⟨n2, 9, none⟩ (.int .i64 t4)).setCell ⟨n3, 0, none⟩ (.int .i64 4)).setCell ⟨n3, 1, none⟩ (.int .i64 (x.he : Int))).setCell ⟨n3, 2, none⟩ (.int .i64 (-1))).setCell ⟨n3, 3, none⟩ (.int .i64 (1 - (Y : Int)))).setCell ⟨n3, 4, none⟩ (.int .i64 (H : Int))).setCell ⟨n3, 5, none⟩ (.slice (some ⟨b, o, none⟩) wl c7)).setCell ⟨n4, 0, none⟩ (.int .i64 4)).setCell ⟨n4, 1, none⟩ (.int .i64 (x.he : Int))).setCell ⟨n4, 2, none⟩ (.int .i64 (-1))).setCell ⟨n4, 3, none⟩ (.int .i64 (1 - (Y : Int)))).setCell ⟨n4, 4, none⟩ (.int .i64 (H : Int))).setCell ⟨n4, 5, none⟩ (.slice (some ⟨b, o, none⟩) wl c7)) ∧ Row ((((((((((((((((((((((w8.setCell ⟨n2, 0, none⟩ (.slice A0 k0 c0)).setCell ⟨n2, 1, none⟩ (.slice A1 k1 c1)).setCell ⟨n2, 2, none⟩ (.slice A2 k2 c2)).setCell ⟨n2, 3, none⟩ (.slice A3 k3 c3)).setCell ⟨n2, 4, none⟩ (.slice A4 k4 c4)).setCell ⟨n2, 5, none⟩ (.int .i64 t0)).setCell ⟨n2, 6, none⟩ (.int .i64 t1)).setCell ⟨n2, 7, none⟩ (.int .i64 t2)).setCell ⟨n2, 8, none⟩ (.int .i64 t3)).setCell ⟨n2, 9, none⟩ (.int .i64 t4)).setCell ⟨n3, 0, none⟩ (.int .i64 4)).setCell ⟨n3, 1, none⟩ (.int .i64 (x.he : Int))).setCell ⟨n3, 2, none⟩ (.int .i64 (-1))).setCell ⟨n3, 3, none⟩ (.int .i64 (1 - (Y : Int)))).setCell ⟨n3, 4, none⟩ (.int .i64 (H : Int))).setCell ⟨n3, 5, none⟩ (.slice (some ⟨b, o, none⟩) wl c7)).setCell ⟨n4, 0, none⟩ (.int .i64 4)).setCell ⟨n4, 1, none⟩ (.int .i64 (x.he : Int))).setCell ⟨n4, 2, none⟩ (.int .i64 (-1))).setCell ⟨n4, 3, none⟩ (.int .i64 (1 - (Y : Int)))).setCell ⟨n4, 4, none⟩ (.int .i64 (H : Int))).setCell ⟨n4, 5, none⟩ (.slice (some ⟨b, o, none⟩) wl c7)) n2 37 #[.slice A0 k0 c0, .slice A1 k1 c1, .slice A2 k2 c2, .slice A3 k3 c3, .slice A4 k4 c4, .int .i64 t0, .int .i64 t1, .int .i64 t2, .int .i64 t3, .int .i64 t4] ∧ Row ((((((((((((((((((((((w8.setCell ⟨n2, 0, none⟩ (.slice A0 k0 c0)).setCell ⟨n2, 1, none⟩ (.slice A1 k1 c1)).setCell ⟨n2, 2, none⟩ (.slice A2 k2 c2)).setCell ⟨n2, 3, none⟩ (.slice A3 k3 c3)).setCell ⟨n2, 4, none⟩ (.slice A4 k4 c4)).setCell ⟨n2, 5, none⟩ (.int .i64 t0)).setCell ⟨n2, 6, none⟩ (.int .i64 t1)).setCell ⟨n2, 7, none⟩ (.int .i64 t2)).setCell ⟨n2, 8, none⟩ (.int .i64 t3)).setCell ⟨n2, 9, none⟩ (.int .i64 t4)).setCell ⟨n3, 0, none⟩ (.int .i64 4)).setCell ⟨n3, 1, none⟩ (.int .i64 (x.he : Int))).setCell ⟨n3, 2, none⟩ (.int .i64 (-1))).setCell ⟨n3, 3, none⟩ (.int .i64 (1 - (Y : Int)))).setCell ⟨n3, 4, none⟩ (.int .i64 (H : Int))).setCell ⟨n3, 5, none⟩ (.slice (some ⟨b, o, none⟩) wl c7)).setCell ⟨n4, 0, none⟩ (.int .i64 4)).setCell ⟨n4, 1, none⟩ (.int .i64 (x.he : Int))).setCell ⟨n4, 2, none⟩ (.int .i64 (-1))).setCell ⟨n4, 3, none⟩ (.int .i64 (1 - (Y : Int)))).setCell ⟨n4, 4, none⟩ (.int .i64 (H : Int))).setCell ⟨n4, 5, none⟩ (.slice (some ⟨b, o, none⟩) wl c7)) n3 40 (tcells 4 (x.he : Int) (-1) (1 - (Y : Int)) (H : Int) (.slice (some ⟨b, o, none⟩) wl c7)) ∧ Row ((((((((((((((((((((((w8.setCell ⟨n2, 0, none⟩ (.slice A0 k0 c0)).setCell ⟨n2, 1, none⟩ (.slice A1 k1 c1)).setCell ⟨n2, 2, none⟩ (.slice A2 k2 c2)).setCell ⟨n2, 3, none⟩ (.slice A3 k3 c3)).setCell ⟨n2, 4, none⟩ (.slice A4 k4 c4)).setCell ⟨n2, 5, none⟩ (.int .i64 t0)).setCell ⟨n2, 6, none⟩ (.int .i64 t1)).setCell ⟨n2, 7, none⟩ (.int .i64 t2)).setCell ⟨n2, 8, none⟩ (.int .i64 t3)).setCell ⟨n2, 9, none⟩ (.int .i64 t4)).setCell ⟨n3, 0, none⟩ (.int .i64 4)).setCell ⟨n3, 1, none⟩ (.int .i64 (x.he : Int))).setCell ⟨n3, 2, none⟩ (.int .i64 (-1))).setCell ⟨n3, 3, none⟩ (.int .i64 (1 - (Y : Int)))).setCell ⟨n3, 4, none⟩ (.int .i64 (H : Int))).setCell ⟨n3, 5, none⟩ (.slice (some ⟨b, o, none⟩) wl c7)).setCell ⟨n4, 0, none⟩ (.int .i64 4)).setCell ⟨n4, 1, none⟩ (.int .i64 (x.he : Int))).setCell ⟨n4, 2, none⟩ (.int .i64 (-1))).setCell ⟨n4, 3, none⟩ (.int .i64 (1 - (Y : Int)))).setCell ⟨n4, 4, none⟩ (.int .i64 (H : Int))).setCell ⟨n4, 5, none⟩ (.slice (some ⟨b, o, none⟩) wl c7)) n4 41 (tcells 4 (x.he : Int) (-1) (1 - (Y : Int)) (H : Int) (.slice (some ⟨b, o, none⟩) wl c7)) ∧ IsLay ((((((((((((((((((((((w8.setCell ⟨n2, 0, none⟩ (.slice A0 k0 c0)).setCell ⟨n2, 1, none⟩ (.slice A1 k1 c1)).setCell ⟨n2, 2, none⟩ (.slice A2 k2 c2)).setCell ⟨n2, 3, none⟩ (.slice A3 k3 c3)).setCell ⟨n2, 4, none⟩ (.slice A4 k4 c4)).setCell ⟨n2, 5, none⟩ (.int .i64 t0)).setCell ⟨n2, 6, none⟩ (.int .i64 t1)).setCell ⟨n2, 7, none⟩ (.int .i64 t2)).setCell ⟨n2, 8, none⟩ (.int .i64 t3)).setCell ⟨n2, 9, none⟩ (.int .i64 t4)).setCell ⟨n3, 0, none⟩ (.int .i64 4)).setCell ⟨n3, 1, none⟩ (.int .i64 (x.he : Int))).setCell ⟨n3, 2, none⟩ (.int .i64 (-1))).setCell ⟨n3, 3, none⟩ (.int .i64 (1 - (Y : Int)))).setCell ⟨n3, 4, none⟩ (.int .i64 (H : Int))).setCell ⟨n3, 5, none⟩ (.slice (some ⟨b, o, none⟩) wl c7)).setCell ⟨n4, 0, none⟩ (.int .i64 4)).setCell ⟨n4, 1, none⟩ (.int .i64 (x.he : Int))).setCell ⟨n4, 2, none⟩ (.int .i64 (-1))).setCell ⟨n4, 3, none⟩ (.int .i64 (1 - (Y : Int)))).setCell ⟨n4, 4, none⟩ (.int .i64 (H : Int))).setCell ⟨n4, 5, none⟩ (.slice (some ⟨b, o, none⟩) wl c7)) (.agg #[.slice A0 k0 c0, .slice A1 k1 c1, .slice A2 k2 c2, .slice A3 k3 c3, .slice A4 k4 c4, .int .i64 t0, .int .i64 t1, .int .i64 t2, .int .i64 t3, .int .i64 t4]) L ∧ World.ownsRow ((((((((((((((((((((((w8.setCell ⟨n2, 0, none⟩ (.slice A0 k0 c0)).setCell ⟨n2, 1, none⟩ (.slice A1 k1 c1)).setCell ⟨n2, 2, none⟩ (.slice A2 k2 c2)).setCell ⟨n2, 3, none⟩ (.slice A3 k3 c3)).setCell ⟨n2, 4, none⟩ (.slice A4 k4 c4)).setCell ⟨n2, 5, none⟩ (.int .i64 t0)).setCell ⟨n2, 6, none⟩ (.int .i64 t1)).setCell ⟨n2, 7, none⟩ (.int .i64 t2)).setCell ⟨n2, 8, none⟩ (.int .i64 t3)).setCell ⟨n2, 9, none⟩ (.int .i64 t4)).setCell ⟨n3, 0, none⟩ (.int .i64 4)).setCell ⟨n3, 1, none⟩ (.int .i64 (x.he : Int))).setCell ⟨n3, 2, none⟩ (.int .i64 (-1))).setCell ⟨n3, 3, none⟩ (.int .i64 (1 - (Y : Int)))).setCell ⟨n3, 4, none⟩ (.int .i64 (H : Int))).setCell ⟨n3, 5, none⟩ (.slice (some ⟨b, o, none⟩) wl c7)).setCell ⟨n4, 0, none⟩ (.int .i64 4)).setCell ⟨n4, 1, none⟩ (.int .i64 (x.he : Int))).setCell ⟨n4, 2, none⟩ (.int .i64 (-1))).setCell ⟨n4, 3, none⟩ (.int .i64 (1 - (Y : Int)))).setCell ⟨n4, 4, none⟩ (.int .i64 (H : Int))).setCell ⟨n4, 5, none⟩ (.slice (some ⟨b, o, none⟩) wl c7)) w3.heap.size 3 1 (.slice (some ⟨b, o, none⟩) wl c7) wl (ivals T)) := ⟨b3, ra3, rb3, rc3, l3, o3⟩
  have HSS : Hid (∀ W, Row W nL 37 #[.slice A0 k0 c0, .slice A1 k1 c1, .slice A2 k2 c2, .slice A3 k3 c3, .slice A4 k4 c4, .int .i64 t0, .int .i64 t1, .int .i64 t2, .int .i64 t3, .int .i64 t4] → Row W nx 40 (tcells 4 (x.he : Int) (-1) (1 - (Y : Int)) (H : Int) (.slice (some ⟨b, o, none⟩) wl c7)) → Row W ny 41 (tcells 4 (x.he : Int) (-1) (1 - (Y : Int)) (H : Int) (.slice (some ⟨b, o, none⟩) wl c7)) → Row W n1 29 #[.int .u8 (x.fr : Int), .int .u8 (x.lo : Int), .slice At tn ct, .int .u16 (x.ah : Int), .int .u16 (x.he : Int), .int .u16 (x.tk : Int), .int .u16 (x.sp : Int), .slice Ar rn cr] → W.cell? ⟨nL, 0, none⟩ = some (.slice A0 k0 c0) ∧ W.cell? ⟨nL, 1, none⟩ = some (.slice A1 k1 c1) ∧ W.cell? ⟨nL, 2, none⟩ = some (.slice A2 k2 c2) ∧ W.cell? ⟨nL, 3, none⟩ = some (.slice A3 k3 c3) ∧ W.cell? ⟨nL, 4, none⟩ = some (.slice A4 k4 c4) ∧ W.cell? ⟨nL, 5, none⟩ = some (.int .i64 t0) ∧ W.cell? ⟨nL, 6, none⟩ = some (.int .i64 t1) ∧ W.cell? ⟨nL, 7, none⟩ = some (.int .i64 t2) ∧ W.cell? ⟨nL, 8, none⟩ = some (.int .i64 t3) ∧ W.cell? ⟨nL, 9, none⟩ = some (.int .i64 t4) ∧ W.cell? ⟨nx, 0, none⟩ = some (.int .i64 4) ∧ W.cell? ⟨nx, 1, none⟩ = some (.int .i64 (x.he : Int)) ∧ W.cell? ⟨nx, 2, none⟩ = some (.int .i64 (-1)) ∧ W.cell? ⟨nx, 3, none⟩ = some (.int .i64 (1 - (Y : Int))) ∧ W.cell? ⟨nx, 4, none⟩ = some (.int .i64 (H : Int)) ∧ W.cell? ⟨nx, 5, none⟩ = some (.slice (some ⟨b, o, none⟩) wl c7) ∧ W.cell? ⟨ny, 0, none⟩ = some (.int .i64 4) ∧ W.cell? ⟨ny, 1, none⟩ = some (.int .i64 (x.he : Int)) ∧ W.cell? ⟨ny, 2, none⟩ = some (.int .i64 (-1)) ∧ W.cell? ⟨ny, 3, none⟩ = some (.int .i64 (1 - (Y : Int))) ∧ W.cell? ⟨ny, 4, none⟩ = some (.int .i64 (H : Int)) ∧ W.cell? ⟨ny, 5, none⟩ = some (.slice (some ⟨b, o, none⟩) wl c7) ∧ W.cell? ⟨n1, 4, none⟩ = some (.int .u16 (x.he : Int)) ∧ W.cell? ⟨n1, 5, none⟩ = some (.int .u16 (x.tk : Int)) ∧ W.cell? ⟨n1, 6, none⟩ = some (.int .u16 (x.sp : Int))) := fun W h1 h2 h3 h4 => ⟨h1.cell 0, h1.cell 1, h1.cell 2, h1.cell 3, h1.cell 4, h1.cell 5, h1.cell 6, h1.cell 7, h1.cell 8, h1.cell 9, h2.cell 0, h2.cell 1, h2.cell 2, h2.cell 3, h2.cell 4, h2.cell 5, h3.cell 0, h3.cell 1, h3.cell 2, h3.cell 3, h3.cell 4, h3.cell 5, h4.cell 4, h4.cell 5, h4.cell 6⟩
  have eL1 := kA.row HRL8.out (by simp; omega); have eX1 := kA.row HRX8.out (by simp; omega); have eY1 := kA.row HRY8.out (by simp; omega); have eS1 := kA.row HS8.out.r1 (by simp; omega)
  have eL2 := kB.row eL1 (by simp; omega); have eX2 := kB.row eX1 (by simp; omega); have eY2 := kB.row eY1 (by simp; omega); have eS2 := kB.row eS1 (by simp; omega)
  have eL3 := kC.row eL2 (by simp; omega); have eX3 := kC.row eX2 (by simp; omega); have eY3 := kC.row eY2 (by simp; omega); have eS3 := kC.row eS2 (by simp; omega)
  have S0 := HSS.out w8 HRL8.out HRX8.out HRY8.out HS8.out.r1
  have S1 := HSS.out _ eL1 eX1 eY1 eS1
  have S2 := HSS.out _ eL2 eX2 eY2 eS2
  have S3 := HSS.out _ eL3 eX3 eY3 eS3
  obtain ⟨r0, r1, r2, r3, r4, r5, r6, r7, r8, r9, r10, r11, r12, r13, r14, r15, r16, r17, r18, r19, r20, r21, r22, r23, r24⟩ := (show _ from S0)
  clear hN hx1n hLn hXn hYn kA kB kC ra1 rb1 rc1 rb2 ra2 rc2 rc3 ra3 rb3 l3 o3 b3 eL1 eX1 eY1 eS1 eL2 eX2 eY2 eS2 eL3 eX3 eY3 eS3 hA hB hC
  refine AnyBut.take 0 rfl (by kernel_rfl) (by kernel_rfl) (by kernel_rfl) (by kernel_rfl) (by decide) (fun _ _ _ h => h) (yields_of (by rfl) (fun w9 hS => (by obtain ⟨r0, r1, r2, r3, r4, r5, r6, r7, r8, r9, r10, r11, r12, r13, r14, r15, r16, r17, r18, r19, r20, r21, r22, r23, r24⟩ := hS; go_simp; try rfl))) S0 ?_
  refine AnyBut.take 1 rfl (by kernel_rfl) (by kernel_rfl) (by kernel_rfl) (by kernel_rfl) (by decide) (fun _ _ _ h => h) (yields_of (by rfl) (fun w9 hS => (by obtain ⟨r0, r1, r2, r3, r4, r5, r6, r7, r8, r9, r10, r11, r12, r13, r14, r15, r16, r17, r18, r19, r20, r21, r22, r23, r24⟩ := hS; go_simp; try rfl))) S0 ?_
  refine AnyBut.take 2 rfl (by kernel_rfl) (by kernel_rfl) (by kernel_rfl) (by kernel_rfl) (by decide) (fun _ _ _ h => h) (yields_of (by rfl) (fun w9 hS => (by obtain ⟨r0, r1, r2, r3, r4, r5, r6, r7, r8, r9, r10, r11, r12, r13, r14, r15, r16, r17, r18, r19, r20, r21, r22, r23, r24⟩ := hS; go_simp; try rfl))) S0 ?_
  refine AnyBut.take 3 rfl (by kernel_rfl) (by kernel_rfl) (by kernel_rfl) (by kernel_rfl) (by decide) (fun _ _ _ h => h) (yields_of (by rfl) (fun w9 hS => (by obtain ⟨r0, r1, r2, r3, r4, r5, r6, r7, r8, r9, r10, r11, r12, r13, r14, r15, r16, r17, r18, r19, r20, r21, r22, r23, r24⟩ := hS; go_simp; try rfl))) S0 ?_
  refine AnyBut.take 4 rfl (by kernel_rfl) (by kernel_rfl) (by kernel_rfl) (by kernel_rfl) (by decide) (fun _ _ _ h => h) (yields_of (by rfl) (fun w9 hS => (by obtain ⟨r0, r1, r2, r3, r4, r5, r6, r7, r8, r9, r10, r11, r12, r13, r14, r15, r16, r17, r18, r19, r20, r21, r22, r23, r24⟩ := hS; go_simp; try rfl))) S0 ?_
  refine AnyBut.take 5 rfl (by kernel_rfl) (by kernel_rfl) (by kernel_rfl) (by kernel_rfl) (by decide) (fun _ _ _ h => h) (yields_of (by rfl) (fun w9 hS => (by obtain ⟨r0, r1, r2, r3, r4, r5, r6, r7, r8, r9, r10, r11, r12, r13, r14, r15, r16, r17, r18, r19, r20, r21, r22, r23, r24⟩ := hS; go_simp; try rfl))) S0 ?_
  refine AnyBut.take 6 rfl (by kernel_rfl) (by kernel_rfl) (by kernel_rfl) (by kernel_rfl) (by decide) (fun _ _ _ h => h) (yields_of (by rfl) (fun w9 hS => (by obtain ⟨r0, r1, r2, r3, r4, r5, r6, r7, r8, r9, r10, r11, r12, r13, r14, r15, r16, r17, r18, r19, r20, r21, r22, r23, r24⟩ := hS; go_simp; try rfl))) S0 ?_
  refine AnyBut.take 7 rfl (by kernel_rfl) (by kernel_rfl) (by kernel_rfl) (by kernel_rfl) (by decide) (fun _ _ _ h => h) (yields_of (by rfl) (fun w9 hS => (by obtain ⟨r0, r1, r2, r3, r4, r5, r6, r7, r8, r9, r10, r11, r12, r13, r14, r15, r16, r17, r18, r19, r20, r21, r22, r23, r24⟩ := hS; go_simp; try rfl))) S0 ?_
  refine AnyBut.take 8 rfl (by kernel_rfl) (by kernel_rfl) (by kernel_rfl) (by kernel_rfl) (by decide) (fun _ _ _ h => h) (yields_of (by rfl) (fun w9 hS => (by obtain ⟨r0, r1, r2, r3, r4, r5, r6, r7, r8, r9, r10, r11, r12, r13, r14, r15, r16, r17, r18, r19, r20, r21, r22, r23, r24⟩ := hS; go_simp; try rfl))) S0 ?_
  refine AnyBut.take 9 rfl (by kernel_rfl) (by kernel_rfl) (by kernel_rfl) (by kernel_rfl) (by decide) (fun _ _ _ h => h) (yields_of (by rfl) (fun w9 hS => (by obtain ⟨r0, r1, r2, r3, r4, r5, r6, r7, r8, r9, r10, r11, r12, r13, r14, r15, r16, r17, r18, r19, r20, r21, r22, r23, r24⟩ := hS; go_simp; try rfl))) S0 ?_
  refine AnyBut.take 10 rfl (by kernel_rfl) (by kernel_rfl) (by kernel_rfl) (by kernel_rfl) (by decide) (fun _ _ _ h => h) (yields_of (by rfl) (fun w9 hS => (by obtain ⟨r0, r1, r2, r3, r4, r5, r6, r7, r8, r9, r10, r11, r12, r13, r14, r15, r16, r17, r18, r19, r20, r21, r22, r23, r24⟩ := hS; go_simp; try rfl))) S0 ?_
  refine AnyBut.take 11 rfl (by kernel_rfl) (by kernel_rfl) (by kernel_rfl) (by kernel_rfl) (by decide) (fun _ _ _ h => h) (yields_of (by rfl) (fun w9 hS => (by obtain ⟨r0, r1, r2, r3, r4, r5, r6, r7, r8, r9, r10, r11, r12, r13, r14, r15, r16, r17, r18, r19, r20, r21, r22, r23, r24⟩ := hS; go_simp; try rfl))) S0 ?_
  refine AnyBut.take 12 rfl (by kernel_rfl) (by kernel_rfl) (by kernel_rfl) (by kernel_rfl) (by decide) (fun _ _ _ h => h) (yields_of (by rfl) (fun w9 hS => (by obtain ⟨r0, r1, r2, r3, r4, r5, r6, r7, r8, r9, r10, r11, r12, r13, r14, r15, r16, r17, r18, r19, r20, r21, r22, r23, r24⟩ := hS; go_simp; try rfl))) S0 ?_
  refine AnyBut.take 13 rfl (by kernel_rfl) (by kernel_rfl) (by kernel_rfl) (by kernel_rfl) (by decide) (fun _ _ _ h => h) (yields_of (by rfl) (fun w9 hS => (by obtain ⟨r0, r1, r2, r3, r4, r5, r6, r7, r8, r9, r10, r11, r12, r13, r14, r15, r16, r17, r18, r19, r20, r21, r22, r23, r24⟩ := hS; go_simp; try rfl))) S0 ?_
  clear r0 r1 r2 r3 r4 r5 r6 r7 r8 r9 r10 r11 r12 r13 r14 r15 r16 r17 r18 r19 r20 r21 r22 r23 r24
  refine AnyBut.one 14 rfl (by kernel_rfl) (by rfl) ?_
  go_simp
  refine AnyBut.one 15 rfl (by kernel_rfl) (by rfl) ?_
  go_simp
  refine AnyBut.one 16 rfl (by kernel_rfl) (by rfl) ?_
  go_simp
  refine AnyBut.one 17 rfl (by kernel_rfl) (by rfl) ?_
  go_simp
  refine AnyBut.one 18 rfl (by kernel_rfl) (by rfl) ?_
  go_simp
  refine AnyBut.done (by kernel_rfl) ?_
  clear u0 u1 u2 u3 u4 u5 u6 u7 u8 u9 s0 s1 s2 s3 s4 s5 q0 q1 q2 q3 q4 q5 zu0 zu1 zu2 zu3 zu4 zu5 zu6 zu7 zu8 zu9 zs0 zs1 zs2 zs3 zs4 zs5 zq0 zq1 zq2 zq3 zq4 zq5
  go_wp2_with fail
  have ra3 := HFI.out.2.1; have rb3 := HFI.out.2.2.1; have rc3 := HFI.out.2.2.2.1; have l3 := HFI.out.2.2.2.2.1; have o3 := HFI.out.2.2.2.2.2; have b3 := HFI.out.1
  refine bodyPost_ret (results_of rfl _ _ n2 n3 n4 37 40 41 #[.slice A0 k0 c0, .slice A1 k1 c1, .slice A2 k2 c2, .slice A3 k3 c3, .slice A4 k4 c4, .int .i64 t0, .int .i64 t1, .int .i64 t2, .int .i64 t3, .int .i64 t4] (tcells 4 (x.he : Int) (-1) (1 - (Y : Int)) (H : Int) (.slice (some ⟨b, o, none⟩) wl c7)) (tcells 4 (x.he : Int) (-1) (1 - (Y : Int)) (H : Int) (.slice (some ⟨b, o, none⟩) wl c7)) (0, 0) (0, 0) (0, 0) _ _ _ rfl ra3 Try.underlying37 rfl Try.size37 rfl rb3 Try.underlying40 rfl Try.size40 rfl rc3 Try.underlying41 rfl Try.size41) rfl ?_
  rw [HFIN.out]
  have hTl := HWL.out
  exact ⟨_, some ⟨b, o, none⟩, c7, by rw [hTl]; rfl, l3.v, by rw [hTl]; exact (by have := Rd.of_own (show World.ownsRow _ _ 3 1 (.slice (some ⟨b, o, none⟩) wl c7) (ivals T).length (ivals T) by rw [ivals_length, hTl]; exact o3); exact this), b3⟩

end Go.Proofs.Ytbomkifnhkmkoaa
