/- Contract: slices.Insert of one timer, in the middle. -/
import Derived.Test.YtkhceigfmaajdaaT5
namespace Go.Proofs.Ytkhceigfmaajdaa
open Go.RowKit
set_option maxRecDepth 100000

theorem Row.shape {w : World} {g : Nat} {t : TypeId} {cs : Array Value} (h : Row w g t cs) : w.shape? g = some (t, cs.size) := by
  unfold Row at h; simp [World.shape?, h]

theorem overlaps34 (w : World) (vb g o lb cb : Nat) (x0 x1 : Int) (cur : Array Value) (hv : Row w vb 61 #[.int .i64 x0, .int .i64 x1]) (hr : Row w g 61 cur) (hne : vb ≠ g) (hc : cur.size ≠ 0) :
    (callFunc 34 #[.slice (some ⟨vb, 0, none⟩) 1 1, .slice (some ⟨g, o, none⟩) lb cb]).run Try.prog w = .ok (.value (.bool false)) w := by
  rw [run_callFunc_extern Try.func34 (by kernel_rfl) (by kernel_rfl) (by kernel_rfl) (e := Extern.SlicesOverlaps.overlaps #[55, 55] #[4]) (by kernel_rfl),
    Lib.run_overlaps_apart w 55 4 61 Try.underlying55 2 Try.sizeOf61 ⟨vb, 0, none⟩ ⟨g, o, none⟩ 1 1 lb cb hne 61 61 2 cur.size hv.shape hr.shape hc (hv.frozen 0) (hv.frozen 2)]
  rfl

set_option maxHeartbeats 4000000 in
theorem insert_room (w : World) (B g n cap i vb : Nat) (xs : List Value) (cur : Array Value) (x0 x1 : Int) (hr : Row w g 61 cur) (hv : Row w vb 61 #[.int .i64 x0, .int .i64 x1]) (hne : vb ≠ g) (hB : B ≤ g) (h1 : n + 1 ≤ cap) (h2 : cap ≤ maxLen) (h3 : cur.size = cap * 2) (h4 : cur.toList.take (n * 2) = xs) (hx : xs.length = n * 2) (h1c : ∀ u ∈ xs, u.oneCell' = true) (hi : i < n) (hn : n ≤ 1000) :
    Calls Try.prog 26 #[.slice (some ⟨g, 0, none⟩) n cap, .int .i64 i, .slice (some ⟨vb, 0, none⟩) 1 1] w (RetIns w B n i (.slice (some ⟨g, 0, none⟩) n cap) xs x0 x1) := by
  have hmx : cap ≤ 9223372036854775807 := by unfold maxLen at h2; omega
  have hov := fun lb cb => overlaps34 w vb g ((i + 1) * 2) lb cb x0 x1 cur hv hr hne (by omega)
  have hdl : (xs.drop (i * 2)).length = (n - i) * 2 := by rw [List.length_drop, hx]; omega
  have hmin1 : Nat.min (n + 1 - i) (n + 1 - (i + 1)) = n - i := by show min _ _ = _; omega
  have hcp1 := fun ty => copy55 w.drew ty g ((i + 1) * 2) (n + 1 - (i + 1)) (cap - (i + 1)) (n + 1 - i) (cap - i) ⟨g, i * 2, none⟩ cur (xs.drop (i * 2)) hr (by rw [hdl, hmin1]) (fun jj u hu => own_cells hr h4 (i * 2) jj u hu) (by rw [hdl, h3]; omega) (fun u hu => h1c u (List.mem_of_mem_drop hu))
  have hr1 : Row (w.drew.setRow g (over cur ((i + 1) * 2) (xs.drop (i * 2)))) g 61 _ := Row.over (w := w.drew) (cur := cur) hr (over cur ((i + 1) * 2) (xs.drop (i * 2)))
  have hk1 : KeptL [g] w (w.drew.setRow g (over cur ((i + 1) * 2) (xs.drop (i * 2)))) := (KeptL.of_below (Below.refl w.heap.size w).drew).trans (kept_setRow w.drew g _)
  have hs1 : (over cur ((i + 1) * 2) (xs.drop (i * 2))).size = cap * 2 := by rw [over_size (by rw [hdl, h3]; omega), h3]
  generalize w.drew.setRow g (over cur ((i + 1) * 2) (xs.drop (i * 2))) = W1 at hcp1 hr1 hk1
  have hv1 := hk1.row hv (by simpa using hne)
  have hmin2 : Nat.min 1 (n + 1 - i) = 1 := by show min _ _ = _; omega
  have hcp2 := fun ty => copy55 W1 ty g (i * 2) (n + 1 - i) (cap - i) 1 1 ⟨vb, 0, none⟩ _ [.int .i64 x0, .int .i64 x1] hr1 (by rw [hmin2]; rfl) (cells_two hv1) (by simp; omega) (one_two x0 x1)
  have hr2 := hr1.over (over (over cur ((i + 1) * 2) (xs.drop (i * 2))) (i * 2) [.int .i64 x0, .int .i64 x1])
  have hk2 := hk1.trans (kept_setRow W1 g (over (over cur ((i + 1) * 2) (xs.drop (i * 2))) (i * 2) [.int .i64 x0, .int .i64 x1]))
  generalize W1.setRow g (over (over cur ((i + 1) * 2) (xs.drop (i * 2))) (i * 2) [.int .i64 x0, .int .i64 x1]) = W2 at hcp2 hr2 hk2
  have HO := Lib.hid (own_moved hr2 rfl hB h1 h2 h3 h4 hx hi)
  have HK2 := Lib.hid hk2
  rw [hmin1] at hcp1
  rw [hmin2] at hcp2
  obtain ⟨p, hp⟩ : ∃ p, p = i + 1 := ⟨_, rfl⟩
  rw [← hp] at hcp1
  simp only [← hp] at hov
  have hp1 : IntKind.i64.wrap ((i : Int) + 1) = (p : Int) := by rw [IntWalk.i64_in _ (by omega)]; omega
  have hp2 : (p : Int) ≤ (n : Int) + 1 := by omega
  have hp3 : ¬ cap = p := by omega
  have hp4 : p ≤ n + 1 := by omega
  have hp5 : (0 : Int) ≤ (p : Int) := by omega
  have HCP1 := Lib.hid hcp1
  have HCP2 := Lib.hid hcp2
  have HOV := Lib.hid hov
  have hb1 : ¬ cap = i := by omega
  have hb3 : (i : Int) ≤ (n : Int) := by omega
  have hb4 : ¬ (i : Int) = (n : Int) := by omega
  have hb5 : ((i : Int) == (n : Int)) = false := by simpa using hb4
  have hb6 : i ≤ n := by omega
  have hb7 : ¬ (cap : Int) < (n : Int) + 1 := by omega
  have hb8 : (i : Int) ≤ (n : Int) + 1 := by omega
  have hb9 : (n : Int) + 1 ≤ (cap : Int) := by omega
  clear hp hr hv h2 h3 h4 hx h1c hr1 hr2 hk1 hk2 hs1 hdl hcp1 hcp2 hov hv1 hmin1 hmin2
  unfold RetIns
  generalize xs.take (i * 2) ++ [.int .i64 x0, .int .i64 x1] ++ xs.drop (i * 2) = ys at *
  go_enter Try.func26, Try.ntmps26
  have hov := HOV.out
  go_wp2_with (simp only [hov])
  clear hov
  go_still_tail 8, (by kernel_rfl)
  change wpList _ _ _ _ _ w.drew
  have hcp1 := HCP1.out
  have hcp2 := HCP2.out
  go_wp2_with fail
  go_ret
  exact ⟨_, rfl, HO.out, Or.inl rfl, HK2.out⟩

theorem take_drop0 {xs : List Value} {k j : Nat} {u : Value} (h : (xs.take k)[j]? = some u) : (xs.drop 0)[j]? = some u := by
  rw [List.getElem?_take] at h
  split at h
  · simpa using h
  · cases h

set_option maxHeartbeats 4000000 in
theorem insert_grow (w : World) (B g n cap i vb : Nat) (xs : List Value) (cur : Array Value) (x0 x1 : Int) (hr : Row w g 61 cur) (hv : Row w vb 61 #[.int .i64 x0, .int .i64 x1]) (hB : B ≤ w.heap.size) (h0 : n ≤ cap) (h1 : cap < n + 1) (h2 : cap ≤ maxLen) (h4 : cur.toList.take (n * 2) = xs) (hx : xs.length = n * 2) (h1c : ∀ u ∈ xs, u.oneCell' = true) (hi : i < n) (hn : n ≤ 1000) :
    Calls Try.prog 26 #[.slice (some ⟨g, 0, none⟩) n cap, .int .i64 i, .slice (some ⟨vb, 0, none⟩) 1 1] w (RetIns w B n i (.slice (some ⟨g, 0, none⟩) n cap) xs x0 x1) := by
  obtain ⟨k, hk⟩ : ∃ k, k = n + 1 - i := ⟨_, rfl⟩
  have hdl : (xs.drop (i * 2)).length = (n - i) * 2 := by rw [List.length_drop, hx]; omega
  have htl : (xs.take (i * 2)).length = i * 2 := by rw [List.length_take, hx]; omega
  obtain ⟨gc, hg1, hg2, hap⟩ := appz55 w g i k cap (xs.take (i * 2)) (by omega) htl (fun j u hu => own_cells hr h4 0 j u (take_drop0 hu)) (by omega) (by omega)
  have hik : i + k = n + 1 := by omega
  rw [hik] at hap hg1
  obtain ⟨c0, hc0⟩ : ∃ c0, c0 = (xs.take (i * 2) ++ zvals k ++ zvals (gc - (n + 1))).toArray := ⟨_, rfl⟩
  rw [← hc0] at hap
  have hs0 : c0.size = gc * 2 := by rw [hc0]; simp [zvals_len, htl]; omega
  have ht0 : c0.toList.take (i * 2) = xs.take (i * 2) := by
    rw [hc0]
    show List.take (i * 2) (xs.take (i * 2) ++ zvals k ++ zvals (gc - (n + 1))) = _
    conv => lhs; arg 1; rw [← htl]
    rw [List.append_assoc, List.take_left]
  have hb0 : Below w.heap.size w (w.drew.alloc (.cells c0 61)) := (Below.refl _ _).drew.alloc (Nat.le_refl _) _
  have hrH : Row (w.drew.alloc (.cells c0 61)) w.heap.size 61 c0 := Row.new w.drew 61 c0
  have hv1 := Below.row hb0 hv hv.lt
  have hr1 := Below.row hb0 hr hr.lt
  have hk0 : KeptL [w.heap.size] w (w.drew.alloc (.cells c0 61)) := KeptL.of_below hb0
  generalize w.drew.alloc (.cells c0 61) = W1 at hap hrH hv1 hr1 hk0
  have hmin2 : Nat.min 1 (n + 1 - i) = 1 := by show min _ _ = _; omega
  have hcp1 := fun ty => copy55 W1 ty w.heap.size (i * 2) (n + 1 - i) (gc - i) 1 1 ⟨vb, 0, none⟩ _ [.int .i64 x0, .int .i64 x1] hrH (by rw [hmin2]; rfl) (cells_two hv1) (by simp; omega) (one_two x0 x1)
  have hrH2 := hrH.over (over c0 (i * 2) [.int .i64 x0, .int .i64 x1])
  have hkk := kept_setRow W1 w.heap.size (over c0 (i * 2) [.int .i64 x0, .int .i64 x1])
  have hk2 := hk0.trans hkk
  have hr2 := hkk.row hr1 (by simp; have := hr.lt; omega)
  have hs1 : (over c0 (i * 2) [.int .i64 x0, .int .i64 x1]).size = gc * 2 := by rw [over_size (by simp; omega), hs0]
  generalize W1.setRow w.heap.size (over c0 (i * 2) [.int .i64 x0, .int .i64 x1]) = W2 at hcp1 hrH2 hkk hk2 hr2
  have hmin3 : Nat.min (n - i) (n + 1 - (i + 1)) = n - i := by show min _ _ = _; omega
  have hcp2 := fun ty => copy55 W2.drew ty w.heap.size ((i + 1) * 2) (n + 1 - (i + 1)) (gc - (i + 1)) (n - i) (cap - i) ⟨g, i * 2, none⟩ _ (xs.drop (i * 2)) hrH2 (by rw [hdl, hmin3]) (fun jj u hu => own_cells hr2 h4 (i * 2) jj u hu) (by rw [hdl, hs1]; omega) (fun u hu => h1c u (List.mem_of_mem_drop hu))
  have hrH3 : Row (W2.drew.setRow w.heap.size (over (over c0 (i * 2) [.int .i64 x0, .int .i64 x1]) ((i + 1) * 2) (xs.drop (i * 2)))) w.heap.size 61 _ := Row.over (w := W2.drew) hrH2 (over (over c0 (i * 2) [.int .i64 x0, .int .i64 x1]) ((i + 1) * 2) (xs.drop (i * 2)))
  have hk3 := (hk2.trans (KeptL.of_below (Below.refl W2.heap.size W2).drew)).trans (kept_setRow W2.drew w.heap.size (over (over c0 (i * 2) [.int .i64 x0, .int .i64 x1]) ((i + 1) * 2) (xs.drop (i * 2))))
  generalize W2.drew.setRow w.heap.size (over (over c0 (i * 2) [.int .i64 x0, .int .i64 x1]) ((i + 1) * 2) (xs.drop (i * 2))) = W3 at hcp2 hrH3 hk3
  have HO := Lib.hid (own_laid hrH3 rfl hB hg1 hg2 hs0 ht0 hx hi)
  have HK3 : Hid (KeptL (Value.ownBlock (.slice (some ⟨g, 0, none⟩) n cap)).toList w W3) := (hk3.fresh (Nat.le_refl _)).mono (by simp)
  rw [hmin2] at hcp1
  rw [hmin3] at hcp2
  obtain ⟨p, hp⟩ : ∃ p, p = i + 1 := ⟨_, rfl⟩
  rw [← hp] at hcp2
  have hp1 : IntKind.i64.wrap ((i : Int) + 1) = (p : Int) := by rw [IntWalk.i64_in _ (by omega)]; omega
  have hp2 : (p : Int) ≤ (n : Int) + 1 := by omega
  have hp3 : ¬ gc = p := by omega
  have hp4 : p ≤ n + 1 := by omega
  have hp5 : (0 : Int) ≤ (p : Int) := by omega
  have hkI : (n : Int) + 1 - (i : Int) = (k : Int) := by omega
  have HAP := Lib.hid hap
  have HCP1 := Lib.hid hcp1
  have HCP2 := Lib.hid hcp2
  have hmx : cap ≤ 9223372036854775807 := by unfold maxLen at h2; omega
  have hmy : gc ≤ 9223372036854775807 := by unfold maxLen at hg2; omega
  have hb1 : ¬ cap = i := by omega
  have hb2 : ¬ gc = i := by omega
  have hb3 : (i : Int) ≤ (n : Int) := by omega
  have hb4 : ¬ (i : Int) = (n : Int) := by omega
  have hb5 : ((i : Int) == (n : Int)) = false := by simpa using hb4
  have hb6 : i ≤ n := by omega
  have hb7 : (cap : Int) < (n : Int) + 1 := by omega
  have hb8 : (i : Int) ≤ (n : Int) + 1 := by omega
  have hb9 : (i : Int) ≤ (cap : Int) := by omega
  have hb10 : i ≤ cap := by omega
  have hb11 : ¬ n + 1 ≤ cap := by omega
  have hb12 : i ≤ n + 1 := by omega
  have HH : Hid (w.heap.size ≤ w.heap.size) := Nat.le_refl _
  clear hp hr hv h2 h4 hx h1c hr1 hr2 hrH hrH2 hrH3 hk0 hkk hk2 hk3 hs0 hs1 hdl hcp1 hcp2 hv1 hmin2 hmin3 hap hc0 ht0 htl hb0 hik hk
  unfold RetIns
  generalize xs.take (i * 2) ++ [.int .i64 x0, .int .i64 x1] ++ xs.drop (i * 2) = ys at *
  generalize hH : w.heap.size = H at *
  have HHH := Lib.hid hH
  clear hH
  go_enter Try.func26, Try.ntmps26
  go_wp2_with (at_builtin; refine Lib.wpList_append_run _ rfl (.tmp 34) (.tmp 39) 55 3 rfl _ _ rfl rfl _ _ HAP.out ?_)
  have hcp1 := HCP1.out
  go_wp2_with fail
  rw [hcp1 3]
  clear hcp1
  go_wp2_with fail
  go_still_tail 8, (by kernel_rfl)
  change wpList _ _ _ _ _ W2.drew
  have hcp2 := HCP2.out
  go_wp2_with fail
  go_ret
  exact ⟨_, rfl, HO.out, Or.inr ⟨H, rfl, HH.out⟩, HK3.out⟩

/-- slices.Insert of one timer into a slice that the call owns. -/
theorem insert_any (w : World) (B n i vb : Nat) (v : Value) (xs : List Value) (x0 x1 : Int) (ho : w.ownsRow B 61 2 v n xs) (h1c : ∀ u ∈ xs, u.oneCell' = true) (hv : Row w vb 61 #[.int .i64 x0, .int .i64 x1]) (hne : v.ownBlock ≠ some vb) (hi : i ≤ n) (hn : n ≤ 1000) (hB : B ≤ w.heap.size) :
    Calls Try.prog 26 #[v, .int .i64 i, .slice (some ⟨vb, 0, none⟩) 1 1] w (RetIns w B n i v xs x0 x1) := by
  rcases Nat.lt_or_ge i n with c | c
  · rcases ho.2 with ⟨rfl, h0⟩ | ⟨g, cap, cur, rfl, hBg, hh, h1, h2, h3, h4⟩
    · omega
    · rcases Nat.lt_or_ge cap (n + 1) with c2 | c2
      · exact insert_grow w B g n cap i vb xs cur x0 x1 hh hv hB h1 c2 h2 h4 ho.1 h1c c hn
      · exact insert_room w B g n cap i vb xs cur x0 x1 hh hv (fun e => hne (by rw [e]; rfl)) hBg c2 h2 h3 h4 ho.1 h1c c hn
  · obtain rfl : i = n := by omega
    exact insert_end w B i vb v xs x0 x1 ho hv hn hB

end Go.Proofs.Ytkhceigfmaajdaa
