/- Memory: copy, clear, append over rows of timers. Contract: slices.Delete. -/
import Derived.Test.YtkhceigfmaajdaaT3
import Derived.Lib.AppendZeros
namespace Go.Proofs.Ytkhceigfmaajdaa
open Go.RowKit
set_option maxRecDepth 100000

theorem Try.info61 : (Try.prog.info? 61).map (fun i => (i.zero, i.size, i.bytes)) = some (some (.agg #[.int .i64 0, .int .i64 0]), 2, 16) := by kernel_rfl
theorem Try.size61 : (Try.prog.info? 61).map (·.size) = some 2 := by kernel_rfl

/-- A row with some cells written over. -/
def over (cur : Array Value) (o : Nat) (cs : List Value) : Array Value := (cur.toList.take o ++ cs ++ cur.toList.drop (o + cs.length)).toArray
theorem over_size {cur : Array Value} {o : Nat} {cs : List Value} (h : o + cs.length ≤ cur.size) : (over cur o cs).size = cur.size := by
  simp [over]; omega

theorem kept_setRow (w : World) (g : Nat) (cs : Array Value) : KeptL [g] w (w.setRow g cs) :=
  ⟨rfl, rfl, rfl, by simp, fun k _ hk => setRow_other w g k cs (by simpa using hk)⟩
theorem Row.over {w : World} {g : Nat} {t : TypeId} {cur : Array Value} (h : Row w g t cur) (cs : Array Value) : Row (w.setRow g cs) g t cs := setRow_heap w g cur cs t (0, 0) h

theorem copy55 (w : World) (ty : TypeId) (g o dLen dCap sLen sCap : Nat) (a : Addr) (cur : Array Value) (cs : List Value) (hr : Row w g 61 cur)
    (hl : cs.length = Nat.min sLen dLen * 2) (hsrc : ∀ j v, cs[j]? = some v → w.cell? (a.add j) = some v) (hfit : o + cs.length ≤ cur.size) (h1 : ∀ v ∈ cs, v.oneCell' = true) :
    (Builtin.copy_ #[55, 55] ty #[.slice (some ⟨g, o, none⟩) dLen dCap, .slice (some a) sLen sCap]).run Try.prog w = .ok (goInt (Nat.min sLen dLen)) (w.setRow g (Ytkhceigfmaajdaa.over cur o cs)) := by
  have hf := run_firstCells_some (P := Try.prog) w 2 (Nat.min sLen dLen) a sLen sCap cs hl hsrc
  have hst := run_storeCells_at Try.prog g o 61 cs 0 cur w hr (by simpa using hfit) h1
  simp only [Nat.add_zero] at hst
  have hq := Try.size61
  cases e : Try.prog.info? 61 with
  | none => simp [e] at hq
  | some i =>
    have hi : i.size = 2 := by simpa [e] using hq
    simp [Builtin.copy_, run_underlying Try.underlying55, Builtin.lenOf, sizeOf, typeInfo, e, hi, hf, hst, over]

def zvals (n : Nat) : List Value := (Builtin.zeroCells #[.int .i64 0, .int .i64 0] n).toList
theorem zvals_len (n : Nat) : (zvals n).length = n * 2 := by simp [zvals, Builtin.zeroCells]
theorem zvals_get (n j : Nat) (h : j < n * 2) : (zvals n)[j]? = some (.int .i64 0) := by
  have : ([Value.int .i64 0, Value.int .i64 0] : List Value)[j % 2]?.getD default = .int .i64 0 := by
    rcases Nat.mod_two_eq_zero_or_one j with e | e <;> rw [e] <;> rfl
  simp [zvals, Builtin.zeroCells, h, this]
theorem zvals_mem (n : Nat) : ∀ v ∈ zvals n, v = .int .i64 0 := by
  intro v hv
  obtain ⟨j, hj, e⟩ := List.getElem_of_mem hv
  have h := zvals_get n j (by rw [← zvals_len]; exact hj)
  rw [List.getElem?_eq_getElem hj, e] at h
  injection h
theorem zvals_one (n : Nat) : ∀ v ∈ zvals n, v.oneCell' = true := by
  intro v hv
  rw [zvals_mem n v hv]; rfl

theorem clear55 (w : World) (ty : TypeId) (g o n c : Nat) (cur : Array Value) (hr : Row w g 61 cur) (hfit : o + n * 2 ≤ cur.size) (hn : 0 < n) :
    (Builtin.clear_ #[55] ty #[.slice (some ⟨g, o, none⟩) n c]).run Try.prog w = .ok (.tuple #[]) (w.setRow g (Ytkhceigfmaajdaa.over cur o (zvals n))) := by
  have hst := run_storeCells_at Try.prog g o 61 (zvals n) 0 cur w hr (by rw [zvals_len]; simpa using hfit) (zvals_one n)
  simp only [Nat.add_zero] at hst
  have hv : (zeroValue 61).run Try.prog w = .ok (.agg #[.int .i64 0, .int .i64 0]) w := Try.zeroValue61 w
  cases n with
  | zero => omega
  | succ n =>
    simp [Builtin.clear_, run_underlying Try.underlying55, hv, Value.cells]
    erw [hst]
    rfl

theorem own_cells {w : World} {g : Nat} {cur : Array Value} {xs : List Value} {n : Nat} (hr : Row w g 61 cur) (hx : cur.toList.take (n * 2) = xs) (o : Nat) : ∀ j u, (xs.drop o)[j]? = some u → w.cell? ((⟨g, o, none⟩ : Addr).add j) = some u := by
  intro j u hu
  rw [add_at, hr.cell]
  rw [List.getElem?_drop, ← hx, List.getElem?_take] at hu
  split at hu
  · simpa using hu
  · cases hu

set_option maxHeartbeats 4000000 in
theorem delete_same (w : World) (A : Option Addr) (n c i : Nat) (hi : i ≤ n) (hn : n ≤ c) (hc : c ≤ 9223372036854775807) (hA : A = none → c = 0) :
    Calls Try.prog 29 #[.slice A n c, .int .i64 i, .int .i64 i] w fun e w' => e = .returned (.slice A n c) ∧ w = w' := by
  have h1 : (i : Int) ≤ (n : Int) := by omega
  have h2 : (n : Int) ≤ (c : Int) := by omega
  have h3 : (0 : Int) ≤ (i : Int) := by omega
  have h4 : i ≤ c := by omega
  have HA := Lib.hid hA
  clear hA
  cases A with
  | none =>
    have hc0 := HA.out rfl
    subst hc0
    obtain rfl : n = 0 := by omega
    obtain rfl : i = 0 := by omega
    go_enter Try.func29, Try.ntmps29
    go_wp2_with fail
    go_ret
    exact ⟨rfl, rfl⟩
  | some a =>
    go_enter Try.func29, Try.ntmps29
    go_wp2_with fail
    all_goals (go_ret; exact ⟨rfl, rfl⟩)

theorem app55 (w : World) (ty : TypeId) (g n m cap c : Nat) (a : Addr) (cur : Array Value) (news : List Value) (hr : Row w g 61 cur) (hl : news.length = m * 2) (hs : ∀ j u, news[j]? = some u → w.cell? (a.add j) = some u) (h1 : ∀ u ∈ news, u.oneCell' = true) (hroom : n + m ≤ cap) (hfit : n * 2 + news.length ≤ cur.size) :
    (Builtin.append_ #[55, 55] ty #[.slice (some ⟨g, 0, none⟩) n cap, .slice (some a) m c]).run Try.prog w = .ok (.slice (some ⟨g, 0, none⟩) (n + m) cap) (w.setRow g (over cur (n * 2) news)) := by
  obtain ⟨i6, hi6, hz60, hz61, hz62⟩ := info_parts Try.info61
  have h := run_append_room (P := Try.prog) w 55 ty 61 i6 Try.underlying55 hi6 g n cap cur hr a m c news (by rw [hz61]; exact hl) hs h1 hroom (by rw [hz61]; exact hfit)
  rw [hz61] at h
  exact h

/-- Struck: what is left stands at the row's head. -/
theorem own_struck {W : World} {B g n cap i j q : Nat} {cur : Array Value} {xs : List Value} (hr : Row W g 61 (over (over cur (i * 2) (xs.drop (j * 2))) (q * 2) (zvals (n - q)))) (hB : B ≤ g) (h1 : n ≤ cap) (h2 : cap ≤ maxLen) (h3 : cur.size = cap * 2) (h4 : cur.toList.take (n * 2) = xs) (hx : xs.length = n * 2) (hij : i < j) (hj : j ≤ n) (hq : q = i + (n - j)) :
    W.ownsRow B 61 2 (.slice (some ⟨g, 0, none⟩) q cap) q (xs.take (i * 2) ++ xs.drop (j * 2)) := by
  have hl : (xs.take (i * 2) ++ xs.drop (j * 2)).length = q * 2 := by rw [List.length_append, List.length_take, List.length_drop, hx]; omega
  have hdl : (xs.drop (j * 2)).length = (n - j) * 2 := by rw [List.length_drop, hx]; omega
  have hs1 : (over cur (i * 2) (xs.drop (j * 2))).size = cap * 2 := by rw [over_size (by rw [hdl, h3]; omega), h3]
  refine ⟨hl, .inr ⟨g, cap, _, rfl, hB, hr, by omega, h2, ?_, ?_⟩⟩
  · rw [over_size (by rw [zvals_len, hs1]; omega), hs1]
  · have e1 : (over cur (i * 2) (xs.drop (j * 2))).toList.take (q * 2) = xs.take (i * 2) ++ xs.drop (j * 2) := by
      show List.take (q * 2) (List.take (i * 2) cur.toList ++ xs.drop (j * 2) ++ _) = _
      have e2 : List.take (i * 2) cur.toList = xs.take (i * 2) := by rw [← h4, List.take_take]; congr 1; omega
      rw [e2, ← hl, List.take_left]
    show List.take (q * 2) (List.take (q * 2) (over cur (i * 2) (xs.drop (j * 2))).toList ++ zvals (n - q) ++ _) = _
    rw [e1, ← hl, List.append_assoc, List.take_left]

set_option maxHeartbeats 4000000 in
theorem delete_some (w : World) (B g n cap i j : Nat) (xs : List Value) (cur : Array Value) (hr : Row w g 61 cur) (hB : B ≤ g) (h1 : n ≤ cap) (h2 : cap ≤ maxLen) (h3 : cur.size = cap * 2) (h4 : cur.toList.take (n * 2) = xs) (hx : xs.length = n * 2) (h1c : ∀ u ∈ xs, u.oneCell' = true) (hij : i < j) (hj : j ≤ n) (hn : n ≤ 1000) :
    Calls Try.prog 29 #[.slice (some ⟨g, 0, none⟩) n cap, .int .i64 i, .int .i64 j] w fun e w' => ∃ v', e = .returned v' ∧ w'.ownsRow B 61 2 v' (i + (n - j)) (xs.take (i * 2) ++ xs.drop (j * 2)) ∧ v'.ownBlock = some g ∧ KeptL [g] w w' := by
  have hmx : cap ≤ 9223372036854775807 := by unfold maxLen at h2; omega
  obtain ⟨q, hq⟩ : ∃ q, q = i + (n - j) := ⟨_, rfl⟩
  have hdl : (xs.drop (j * 2)).length = (n - j) * 2 := by rw [List.length_drop, hx]; omega
  obtain ⟨a, ha, hsrc⟩ : ∃ a : Addr, (if cap = j then some (⟨g, 0, none⟩ : Addr) else some ⟨g, j * 2, none⟩) = some a ∧ ∀ jj u, (xs.drop (j * 2))[jj]? = some u → w.drew.cell? (a.add jj) = some u := by
    by_cases e : cap = j
    · rw [if_pos e]
      refine ⟨_, rfl, fun jj u hu => ?_⟩
      have := (List.getElem?_eq_some_iff.1 hu).1
      rw [hdl] at this; omega
    · rw [if_neg e]
      exact ⟨_, rfl, fun jj u hu => own_cells hr h4 (j * 2) jj u hu⟩
  have hs1 : (over cur (i * 2) (xs.drop (j * 2))).size = cap * 2 := by rw [over_size (by rw [hdl, h3]; omega), h3]
  have hr1 : Row (w.drew.setRow g (over cur (i * 2) (xs.drop (j * 2)))) g 61 _ := Row.over (w := w.drew) (cur := cur) hr (over cur (i * 2) (xs.drop (j * 2)))
  have hap := fun ty => app55 w.drew ty g i (n - j) cap (cap - j) a cur (xs.drop (j * 2)) hr hdl hsrc (fun u hu => h1c u (List.mem_of_mem_drop hu)) (by omega) (by rw [hdl, h3]; omega)
  have hk1 : KeptL [g] w (w.drew.setRow g (over cur (i * 2) (xs.drop (j * 2)))) := (KeptL.of_below (Below.refl w.heap.size w).drew).trans (kept_setRow w.drew g _)
  rw [← hq] at hap
  generalize w.drew.setRow g (over cur (i * 2) (xs.drop (j * 2))) = W1 at hap hr1 hk1
  have hcl := fun ty => clear55 W1 ty g (q * 2) (n - q) (cap - q) _ hr1 (by rw [hs1]; omega) (by omega)
  have hr2 := hr1.over (over (over cur (i * 2) (xs.drop (j * 2))) (q * 2) (zvals (n - q)))
  have hk2 := hk1.trans (kept_setRow W1 g (over (over cur (i * 2) (xs.drop (j * 2))) (q * 2) (zvals (n - q))))
  generalize W1.setRow g (over (over cur (i * 2) (xs.drop (j * 2))) (q * 2) (zvals (n - q))) = W2 at hcl hr2 hk2
  have HO : Hid (W2.ownsRow B 61 2 (.slice (some ⟨g, 0, none⟩) q cap) q (xs.take (i * 2) ++ xs.drop (j * 2))) := own_struck hr2 hB h1 h2 h3 h4 hx hij hj hq
  have HK2 := Lib.hid hk2
  have HAP := Lib.hid hap
  have HA := Lib.hid ha
  have hq1 : q < n := by omega
  have hq2 : ¬ cap = q := by omega
  have hq3 : (q : Int) ≤ (n : Int) := by omega
  rw [← hq]
  have ha1 : i ≤ cap := by omega
  have ha2 : j ≤ cap := by omega
  have ha3 : i ≤ n := by omega
  have ha4 : ¬ i = j := by omega
  have ha5 : (i : Int) ≤ (n : Int) := by omega
  have ha6 : (j : Int) ≤ (n : Int) := by omega
  have ha7 : (i : Int) ≤ (j : Int) := by omega
  clear hr h2 h3 h4 hx h1c hr1 hr2 hk1 hk2 hs1 hsrc hap ha hdl hq
  generalize xs.take (i * 2) ++ xs.drop (j * 2) = ys at *
  go_enter Try.func29, Try.ntmps29
  go_upto_region 5 with (fail)
  go_still_tail 6, (by kernel_rfl)
  change wpList _ _ _ _ _ w.drew
  rw [HA.out]
  refine Lib.wpList_append_run _ rfl (.tmp 22) (.tmp 25) 55 55 rfl _ _ rfl rfl _ _ (HAP.out 55) ?_
  go_wp2_with fail
  go_ret
  exact ⟨_, rfl, HO.out, rfl, HK2.out⟩

/-- slices.Delete of a slice that the call owns. -/
theorem delete_any (w : World) (B n i j : Nat) (v : Value) (xs : List Value) (ho : w.ownsRow B 61 2 v n xs) (h1c : ∀ u ∈ xs, u.oneCell' = true) (hij : i ≤ j) (hj : j ≤ n) (hn : n ≤ 1000) :
    Calls Try.prog 29 #[v, .int .i64 i, .int .i64 j] w fun e w' => ∃ v', e = .returned v' ∧ w'.ownsRow B 61 2 v' (i + (n - j)) (xs.take (i * 2) ++ xs.drop (j * 2)) ∧ v'.ownBlock = v.ownBlock ∧ KeptL v.ownBlock.toList w w' := by
  rcases Nat.lt_or_ge i j with c | c
  · rcases ho.2 with ⟨rfl, h0⟩ | ⟨g, cap, cur, rfl, hB, hh, h1, h2, h3, h4⟩
    · omega
    · exact delete_some w B g n cap i j xs cur hh hB h1 h2 h3 h4 ho.1 h1c c hj hn
  · obtain rfl : i = j := by omega
    have e1 : i + (n - i) = n := by omega
    have e2 : xs.take (i * 2) ++ xs.drop (i * 2) = xs := List.take_append_drop _ _
    rw [e1, e2]
    have hv : ∃ A c, v = .slice A n c ∧ n ≤ c ∧ c ≤ 9223372036854775807 ∧ (A = none → c = 0) := by
      rcases ho.2 with ⟨rfl, h0⟩ | ⟨g, cap, cur, rfl, hB, hh, h1, h2, h3, h4⟩
      · exact ⟨none, 0, by rw [h0], by omega, by omega, fun _ => rfl⟩
      · exact ⟨_, cap, rfl, h1, by unfold maxLen at h2; omega, fun e => by cases e⟩
    obtain ⟨A, c, rfl, q1, q2, q3⟩ := hv
    refine (delete_same w A n c i hj q1 q2 q3).mono ?_
    rintro e w' ⟨rfl, rfl⟩
    exact ⟨_, rfl, ho, rfl, KeptL.refl _ _⟩

end Go.Proofs.Ytkhceigfmaajdaa
