/- A table as the laws' walks hold it; lists held against one another; the document's example. -/
import Derived.Test.YtkhceigfmaajdaaT9
namespace Go.Proofs.Ytkhceigfmaajdaa
open Go.RowKit
set_option maxRecDepth 100000

theorem stop_ids (l : List (Int × Int)) (id : Int) : id ∉ (stopL l id).map Prod.fst := by
  intro h
  obtain ⟨p, hp, e⟩ := List.mem_map.1 h
  unfold stopL at hp
  have := (List.mem_filter.1 hp).2
  simp [e] at this
theorem ins_perm (x : Int × Int) (l : List (Int × Int)) : (insT x l).Perm (x :: l) := by
  unfold insT
  refine List.perm_middle.trans (List.Perm.cons x ?_)
  exact List.filter_append_perm _ l
theorem ins_good {l : List (Int × Int)} {x : Int × Int} (h : Good l) (hx : x.1 ∉ l.map Prod.fst) (hl : l.length < 32) : Good (insT x l) := by
  have hp := ins_perm x l
  refine ⟨?_, ?_, ?_⟩
  · unfold insT
    rw [List.pairwise_append]
    refine ⟨h.sorted.filter _, ?_, ?_⟩
    · rw [List.pairwise_cons]
      refine ⟨fun y hy => ?_, h.sorted.filter _⟩
      have h1 := List.mem_filter.1 hy
      have h2 : ¬ ltT y x := by simpa using h1.2
      have h3 : y.1 ≠ x.1 := fun e => hx (by rw [← e]; exact List.mem_map_of_mem h1.1)
      unfold ltT at *
      omega
    · intro a ha b hb
      have h1 : ltT a x := by simpa using (List.mem_filter.1 ha).2
      rw [List.mem_cons] at hb
      rcases hb with rfl | hb
      · exact h1
      · have h2 := List.mem_filter.1 hb
        have h3 : ¬ ltT b x := by simpa using h2.2
        unfold ltT at *
        omega
  · have := hp.map Prod.fst
    rw [this.nodup_iff, List.map_cons, List.nodup_cons]
    exact ⟨hx, h.ids⟩
  · rw [hp.length_eq, List.length_cons]; omega

theorem stop_len {l : List (Int × Int)} (h : Good l) (id : Int) : (stopL l id).length + (if hasL l id then 1 else 0) = l.length := by
  rcases find_cases l h.ids id with ⟨_, f2, f3, -⟩ | ⟨i, hi, _, f2, f3, -⟩
  · rw [f2, f3]; simp
  · rw [f2, f3]; simp; omega

theorem start_perm (l : List (Int × Int)) (id at_ : Int) (hf : fullL l id = false) : (startL l id at_).Perm ((id, at_) :: stopL l id) := by
  unfold startL
  rw [if_neg (by simp [hf])]
  exact ins_perm _ _
theorem start_good {l : List (Int × Int)} (h : Good l) (id at_ : Int) : Good (startL l id at_) := by
  unfold startL
  split
  · exact h
  · rename_i hf
    have hf2 : ¬ (hasL l id = false ∧ 32 ≤ l.length) := by simpa [fullL] using hf
    refine ins_good (stop_good h id) (stop_ids l id) ?_
    have h1 := stop_len h id
    have h2 := h.len
    cases e : hasL l id with
    | false => rw [e] at h1; simp at h1; have : ¬ 32 ≤ l.length := fun c => hf2 ⟨e, c⟩; omega
    | true => rw [e] at h1; simp at h1; omega
theorem start_fit {l : List (Int × Int)} (h : Fit l) (id at_ : Int) (h1 : -9223372036854775808 ≤ at_) (h2 : at_ ≤ 9223372036854775807) : Fit (startL l id at_) := by
  unfold startL
  split
  · exact h
  · intro p hp
    have hp2 := (ins_perm _ _).mem_iff.1 hp
    rw [List.mem_cons] at hp2
    rcases hp2 with rfl | hp2
    · exact ⟨h1, h2⟩
    · exact h p (List.mem_filter.1 hp2).1

/-- Nothing has turned but rows of timers, and tables. -/
def Kt (W w' : World) : Prop := ∃ S, KeptL S W w' ∧ ∀ k ∈ S, ∃ t cs, (t = 57 ∨ t = 61) ∧ Row W k t cs
theorem Kt.of_below {W w' : World} (h : Below W.heap.size W w') : Kt W w' := ⟨[], KeptL.of_below h, by simp⟩
theorem Kt.block {W w' : World} (h : Kt W w') {b : Nat} {cur : Array Value} {t : TypeId} {fr : Nat × Nat} (hb : W.heap[b]? = some (.cells cur t fr)) (h1 : t ≠ 57) (h2 : t ≠ 61) : w'.heap[b]? = some (.cells cur t fr) := by
  obtain ⟨S, hk, hS⟩ := h
  refine (hk.block b (heap_lt hb) ?_).trans hb
  intro hm
  obtain ⟨t', cs, ht, hr⟩ := hS b hm
  unfold Row at hr
  rw [hb] at hr
  injection hr with hr
  injection hr with _ hr _
  rcases ht with e | e
  · exact h1 (hr.trans e)
  · exact h2 (hr.trans e)
theorem Kt.own {W w' : World} (h : Kt W w') {B : Nat} {t : TypeId} {s n : Nat} {v : Value} {xs : List Value} (ho : W.ownsRow B t s v n xs) (h1 : t ≠ 57) (h2 : t ≠ 61) : w'.ownsRow B t s v n xs := by
  refine ⟨ho.1, ?_⟩
  rcases ho.2 with h2' | ⟨g, cap, cur, rfl, hg, hh, h3⟩
  · exact Or.inl h2'
  · exact Or.inr ⟨g, cap, cur, rfl, hg, h.block hh h1 h2, h3⟩
theorem Kt.size {W w' : World} (h : Kt W w') : W.heap.size ≤ w'.heap.size := by obtain ⟨S, hk, _⟩ := h; exact hk.size

theorem Tab.kt {w w' : World} {B g : Nat} {h : Option Nat} {l : List (Int × Int)} (ht : Tab w B g h l) (hk : KeptL (g :: h.toList) w w') : Kt w w' := by
  refine ⟨_, hk, ?_⟩
  obtain ⟨hB, v, hr, ho, hv⟩ := ht
  intro k hm
  rw [List.mem_cons] at hm
  rcases hm with rfl | hm
  · exact ⟨57, _, Or.inl rfl, hr⟩
  · have e : v.ownBlock = some k := hv.trans (by simpa using hm)
    rcases ho.2 with ⟨rfl, _⟩ | ⟨g', cap, cur, rfl, _, hh, _⟩
    · cases e
    · have : g' = k := by simpa [Value.ownBlock] using e
      subst this
      exact ⟨61, cur, Or.inr rfl, hh⟩

/-- A table in a walk that began at 'w0'. -/
structure TS (w0 W : World) (B0 g : Nat) (l : List (Int × Int)) : Prop where
  size : B0 ≤ W.heap.size
  below : Below B0 w0 W
  good : Good l
  fit : Fit l
  tab : ∃ B h, B0 ≤ B ∧ B ≤ W.heap.size ∧ Tab W B g h l

theorem TS.call {w0 W W' : World} {B0 g : Nat} {l : List (Int × Int)} (h : TS w0 W B0 g l) (hb : Below W.heap.size W W') : TS w0 W' B0 g l := by
  obtain ⟨h1, h2, h3, h4, B, hh, h5, h6, h7⟩ := h
  exact ⟨Nat.le_trans h1 hb.size, h2.trans (hb.mono h1), h3, h4, B, hh, h5, Nat.le_trans h6 hb.size, h7.below hb⟩

theorem Tab.lows {w w' : World} {B B0 g : Nat} {h : Option Nat} {l : List (Int × Int)} (ht : Tab w B g h l) (hB : B0 ≤ B) (hs : B0 ≤ w.heap.size) (hk : KeptL (g :: h.toList) w w') : Below B0 w w' := by
  refine hk.below hs ?_
  obtain ⟨hg, v, hr, ho, hv⟩ := ht
  intro k hm
  rw [List.mem_cons] at hm
  rcases hm with rfl | hm
  · omega
  · have e : v.ownBlock = some k := hv.trans (by simpa using hm)
    have := (ho.lt k e).1
    omega

theorem ts_new (w0 W : World) (B0 : Nat) (h1 : B0 ≤ W.heap.size) (h2 : Below B0 w0 W) : Calls Try.prog 10 #[] W fun e w' => ∃ g, e = .returned (.pointer (some ⟨g, 0, none⟩)) ∧ TS w0 w' B0 g [] ∧ Below W.heap.size W w' := by
  refine (new_any W).mono ?_
  rintro e w' ⟨rfl, ht, hb, hs⟩
  exact ⟨_, rfl, ⟨Nat.le_trans h1 hb.size, h2.trans (hb.mono h1), ⟨List.Pairwise.nil, List.nodup_nil, by simp⟩, (fun p hp => by simp at hp), W.heap.size, none, h1, by omega, ht⟩, hb⟩

theorem ts_start (w0 W : World) (B0 g : Nat) (l : List (Int × Int)) (id at_ : Int) (h : TS w0 W B0 g l) (h1 : -9223372036854775808 ≤ at_) (h2 : at_ ≤ 9223372036854775807) :
    Calls Try.prog 13 #[.pointer (some ⟨g, 0, none⟩), .int .i64 id, .int .i64 at_] W fun e w' => e = .returned (.int .i64 (startE l id)) ∧ TS w0 w' B0 g (startL l id at_) ∧ Kt W w' := by
  obtain ⟨B, hh, h5, h6, h7⟩ := h.tab
  refine (start_any W B g hh l id at_ h7 h.good h6).mono ?_
  rintro e w' ⟨rfl, h', ht, _, hk⟩
  exact ⟨rfl, ⟨Nat.le_trans h.size hk.size, h.below.trans (h7.lows h5 h.size hk), start_good h.good _ _, start_fit h.fit _ _ h1 h2, B, h', h5, Nat.le_trans h6 hk.size, ht⟩, h7.kt hk⟩

theorem ts_stop (w0 W : World) (B0 g : Nat) (l : List (Int × Int)) (id : Int) (h : TS w0 W B0 g l) :
    Calls Try.prog 15 #[.pointer (some ⟨g, 0, none⟩), .int .i64 id] W fun e w' => e = .returned (.bool (hasL l id)) ∧ TS w0 w' B0 g (stopL l id) ∧ Kt W w' := by
  obtain ⟨B, hh, h5, h6, h7⟩ := h.tab
  refine (stop_any W B g hh l id h7 h.good).mono ?_
  rintro e w' ⟨rfl, ht, hk⟩
  exact ⟨rfl, ⟨Nat.le_trans h.size hk.size, h.below.trans (h7.lows h5 h.size hk), stop_good h.good _, fun p hp => h.fit p (List.mem_filter.1 hp).1, B, hh, h5, Nat.le_trans h6 hk.size, ht⟩, h7.kt hk⟩

theorem ts_ended (w0 W : World) (B0 g : Nat) (l : List (Int × Int)) (now : Int) (h : TS w0 W B0 g l) :
    Calls Try.prog 16 #[.pointer (some ⟨g, 0, none⟩), .int .i64 now] W fun e w' => ∃ v, e = .returned v ∧ w'.ownsRow B0 3 1 v (endL l now).length (ivals ((endL l now).map Prod.fst)) ∧ TS w0 w' B0 g (restL l now) ∧ Kt W w' := by
  obtain ⟨B, hh, h5, h6, h7⟩ := h.tab
  refine (ended_any W B g hh l now h7 h.good).mono ?_
  rintro e w' ⟨v, rfl, ho, ht, hk⟩
  exact ⟨v, rfl, own_base ho h.size, ⟨Nat.le_trans h.size hk.size, h.below.trans (h7.lows h5 h.size hk), end_good h.good _, fun p hp => h.fit p (List.mem_filter.1 hp).1, B, hh, h5, Nat.le_trans h6 hk.size, ht⟩, h7.kt hk⟩

theorem ts_left (w0 W : World) (B0 g : Nat) (l : List (Int × Int)) (id now : Int) (h : TS w0 W B0 g l) (h1 : -9223372036854775808 ≤ now) (h2 : now ≤ 9223372036854775807) :
    Calls Try.prog 18 #[.pointer (some ⟨g, 0, none⟩), .int .i64 id, .int .i64 now] W fun e w' => e = .returned (.tuple #[.int .i64 (leftL l id now).1, .bool (leftL l id now).2]) ∧ Below W.heap.size W w' := by
  obtain ⟨B, hh, h5, h6, h7⟩ := h.tab
  exact left_any W B g hh l id now h7 h.good h.fit h1 h2

theorem ts_len (w0 W : World) (B0 g : Nat) (l : List (Int × Int)) (h : TS w0 W B0 g l) : Calls Try.prog 20 #[.pointer (some ⟨g, 0, none⟩)] W fun e w' => e = .returned (.int .i64 (l.length : Int)) ∧ W = w' := by
  obtain ⟨B, hh, h5, h6, h7⟩ := h.tab
  exact len_any W B g hh l h7

set_option maxHeartbeats 2000000 in
theorem ints_any (w : World) (D : Nat) (va vb : Value) (xs ys : List Int) (ha : Rd w D va (ivals xs)) (hb : Rd w D vb (ivals ys)) (hl : xs.length ≤ 1000000) : Calls Try.prog 22 #[va, vb] w (RetB (decide (xs = ys)) w) := by
  have HA := Lib.hid ha; have HB := Lib.hid hb
  obtain ⟨A, c, rfl, -, -⟩ := ha
  obtain ⟨A', c', rfl, -, -⟩ := hb
  simp only [ivals_length] at *
  by_cases hne : xs.length = ys.length
  · obtain ⟨n, hn⟩ : ∃ n, n = xs.length := ⟨_, rfl⟩
    rw [← hne, ← hn]
    rw [← hn] at hl
    have HN : Hid (n = xs.length ∧ n = ys.length) := ⟨hn, by omega⟩
    clear hn hne
    go_enter Try.func22, Try.ntmps22
    go_wp2
    go_loopw [5] (fun t wr => ∃ i : Nat, i ≤ n ∧ t = .int .i64 i ∧ Hid (xs.take i = ys.take i) ∧ ∃ m, wr = w.drewN m) (fun t _ => n - (intOf t).toNat)
    case atStart => exact ⟨0, Nat.zero_le _, rfl, rfl, 0, rfl⟩
    case round =>
      obtain ⟨i, hi, rfl, HE, m, rfl⟩ := hrel
      by_cases hlt : i < n
      · have hix : i < xs.length := by have := HN.out; omega
        have hiy : i < ys.length := by have := HN.out; omega
        have HT : Hid (xs[i] = ys[i] → xs.take (i + 1) = ys.take (i + 1)) := take_snoc_eq HE.out hix hiy
        have HD : Hid (xs[i] ≠ ys[i] → xs ≠ ys) := fun h1 h2 => h1 (by subst h2; rfl)
        obtain ⟨b, o, rfl, _, h1⟩ := HA.out.at (ivals_get xs i hix)
        obtain ⟨b', o', rfl, _, h2⟩ := HB.out.at (ivals_get ys i hiy)
        generalize xs[i] = x at *
        generalize ys[i] = y at *
        by_cases hxy : x = y
        · have HT2 := Lib.hid (HT.out hxy)
          clear HT HD
          subst hxy
          go_wp2
          go_quiet (fail)
          go_wp2
          go_roundw
          case rel => exact ⟨i + 1, by omega, by go_num, HT2, _, rfl⟩
          case measure => simp [intOf]; omega
        · have HD2 := Lib.hid (HD.out hxy)
          have hd : (x == y) = false := by simpa using hxy
          clear hxy HT HD
          go_wp2
          go_quiet (fail)
          go_wp2
          go_ret
          exact ⟨ret_bool (by rw [decide_eq_false HD2.out]), m + nq, World.drewN_drewN _ _ _⟩

      · have HF : Hid (xs = ys) := by
          have := HE.out
          rw [List.take_of_length_le (by have := HN.out; omega), List.take_of_length_le (by have := HN.out; omega)] at this
          exact this
        go_wp2
        go_ret
        exact ⟨ret_bool (by rw [decide_eq_true HF.out]), m, rfl⟩
  · have HF : Hid (xs ≠ ys) := fun h => hne (by rw [h])
    have hcmp : ((xs.length : Int) == (ys.length : Int)) = false := by simp; omega
    clear hne
    generalize xs.length = la at *
    generalize ys.length = lb at *
    go_enter Try.func22, Try.ntmps22
    go_wp2
    go_ret
    exact ⟨ret_bool (by rw [decide_eq_false HF.out]), 0, rfl⟩

theorem lit_rd (w : World) (xs : List Int) : Rd (w.alloc (.cells (ivals xs).toArray 3)) (w.alloc (.cells (ivals xs).toArray 3)).heap.size (.slice (some ⟨w.heap.size, 0, none⟩) xs.length xs.length) (ivals xs) := by
  have hr := Row.new w 3 (ivals xs).toArray
  refine ⟨_, xs.length, by rw [ivals_length], ⟨fun h => (by cases h), by rw [ivals_length]; exact Nat.le_refl _⟩, fun _ => ⟨_, _, rfl, by simp, fun j u hu => ?_⟩⟩
  rw [Nat.zero_add, hr.cell j]
  simpa using hu

set_option maxHeartbeats 2000000 in
/-- The document's example. -/
theorem three_any (W : World) : Calls Try.prog 9 #[] W fun e w' => e = .returned (.bool true) ∧ Below W.heap.size W w' := by
  have HB := Lib.hid (Below.refl W.heap.size W)
  go_enter Try.func9, Try.ntmps9
  go_wp2_with fail
  refine (ts_new W W W.heap.size (Nat.le_refl _) HB.out).mono ?_; rintro e w1 ⟨g, rfl, ht1, hb1⟩
  have HT1 := Lib.hid ht1
  clear ht1 hb1
  go_wp2_with fail
  refine (ts_start W w1 _ g _ 5 9 HT1.out (by decide) (by decide)).mono ?_; rintro e w2 ⟨rfl, ht2, _⟩
  have e2 : startL [] 5 9 = [(5, 9)] := by decide
  rw [e2] at ht2
  have HT2 := Lib.hid ht2
  clear ht2 e2
  go_wp2_with fail
  refine (ts_start W w2 _ g _ 3 9 HT2.out (by decide) (by decide)).mono ?_; rintro e w3 ⟨rfl, ht3, _⟩
  have e3 : startL [(5, 9)] 3 9 = [(3, 9), (5, 9)] := by decide
  rw [e3] at ht3
  have HT3 := Lib.hid ht3
  clear ht3 e3
  go_wp2_with fail
  refine (ts_start W w3 _ g _ 7 2 HT3.out (by decide) (by decide)).mono ?_; rintro e w4 ⟨rfl, ht4, _⟩
  have e4 : startL [(3, 9), (5, 9)] 7 2 = [(7, 2), (3, 9), (5, 9)] := by decide
  rw [e4] at ht4
  have HT4 := Lib.hid ht4
  clear ht4 e4
  go_wp2_with fail
  refine (ts_ended W w4 _ g _ 9 HT4.out).mono ?_; rintro e w5 ⟨v5, rfl, ho5, ht5, _⟩
  have e5 : endL [(7, 2), (3, 9), (5, 9)] 9 = [(7, 2), (3, 9), (5, 9)] := by decide
  have e6 : restL [(7, 2), (3, 9), (5, 9)] 9 = [] := by decide
  rw [e6] at ht5
  rw [e5] at ho5
  have HT5 := Lib.hid ht5
  have HO5 := Lib.hid ho5
  obtain ⟨A5, c5, hA5⟩ := own_slice ho5
  subst hA5
  clear ht5 ho5 e5 e6
  have HOA : Hid (Rd (w5.alloc (.cells #[.int .i64 7, .int .i64 3, .int .i64 5] 3)) (w5.alloc (.cells #[.int .i64 7, .int .i64 3, .int .i64 5] 3)).heap.size (.slice A5 3 c5) (ivals [7, 3, 5])) := Rd.of_own (HO5.out.alloc _)
  have HOB : Hid (Rd (w5.alloc (.cells #[.int .i64 7, .int .i64 3, .int .i64 5] 3)) (w5.alloc (.cells #[.int .i64 7, .int .i64 3, .int .i64 5] 3)).heap.size (.slice (some ⟨w5.heap.size, 0, none⟩) 3 3) (ivals [7, 3, 5])) := lit_rd w5 [7, 3, 5]
  have HT6 := Lib.hid (HT5.out.call ((Below.refl _ _).alloc (Nat.le_refl _) (.cells #[.int .i64 7, .int .i64 3, .int .i64 5] 3)))
  go_wp2_with fail
  refine (ints_any _ _ _ _ [7, 3, 5] [7, 3, 5] HOA.out HOB.out (by decide)).mono ?_; rintro e w6 ⟨rfl, n6, rfl⟩
  have hd : decide (([7, 3, 5] : List Int) = [7, 3, 5]) = true := by decide
  rw [hd]
  have HT7 := Lib.hid (HT6.out.call (Below.drewN (Below.refl _ _) n6))
  generalize (w5.alloc (.cells #[.int .i64 7, .int .i64 3, .int .i64 5] 3)).drewN n6 = w7 at *
  clear hd HOA HOB HT6
  go_wp2_with fail
  refine (ts_len W w7 _ g [] HT7.out).mono ?_; rintro e w8 ⟨rfl, rfl⟩
  go_wp2_with fail
  go_ret
  exact ⟨rfl, HT7.out.below⟩

end Go.Proofs.Ytkhceigfmaajdaa
