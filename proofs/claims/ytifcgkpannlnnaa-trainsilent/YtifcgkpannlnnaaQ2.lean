/- The law's walk: TrainNil. -/
import Derived.Test.YtifcgkpannlnnaaQ1
namespace Go.Proofs.Ytifcgkpannlnnaa
open Go.RowKit Fl
set_option maxRecDepth 100000

theorem u16_in {n : Int} (h : (Lit.int .u16 n).wf = true) : 0 ≤ n ∧ n < 65536 := by
  simp only [Lit.wf, Bool.and_eq_true, decide_eq_true_eq] at h
  rw [show IntKind.u16.min = 0 from by decide, show IntKind.u16.max = 65535 from by decide] at h
  omega
theorem u8_in {n : Int} (h : (Lit.int .u8 n).wf = true) : 0 ≤ n ∧ n < 256 := by
  simp only [Lit.wf, Bool.and_eq_true, decide_eq_true_eq] at h
  rw [show IntKind.u8.min = 0 from by decide, show IntKind.u8.max = 255 from by decide] at h
  omega

set_option maxHeartbeats 8000000 in
theorem lawNil (w : World) (id now : Int) (hn : 0 ≤ now ∧ now < 65536) : Calls Try.prog 7 #[.int .i64 id, .int .u16 now] w (RetL true w) := by
  have hwr : IntKind.i64.wrap now = now := IntWalk.i64_in _ (by omega)
  obtain ⟨hn0, hn1⟩ := hn
  go_enter Try.func7, Try.ntmps7
  go_wp2_with fail
  refine (get_nil w id).mono ?_; rintro x w1 ⟨v, rfl, ho, hb⟩
  obtain ⟨A, c, hv⟩ := own_slice ho
  subst hv
  have HB1 : Hid (Below w.heap.size w (w1.alloc (.cells (tcells 0 0 0 0 0 (.slice A 0 c)) 58))) := hb.alloc hb.size _
  clear ho hb
  go_upto_region 3 with (fail)
  generalize w1.alloc (.cells #[.int .i64 0, .int .i64 0, .int .i64 0, .int .i64 0, .int .i64 0, .slice A 0 c] 58) = w2 at *
  go_wp2_with fail
  refine (nothing_any w2).mono ?_; rintro x w3 ⟨rfl, hb⟩
  have HB3 : Hid (Below w.heap.size w w3) := HB1.out.trans (hb.mono HB1.out.size)
  clear hb HB1
  go_wp2_with fail
  refine (open_nil w3 id now).mono ?_; rintro x w' ⟨rfl, rfl⟩
  go_wp2_with fail
  refine (close_nil w3 id).mono ?_; rintro x w4 ⟨rfl, hb⟩
  have HB4 : Hid (Below w.heap.size w w4) := HB3.out.trans (hb.mono HB3.out.size)
  clear hb HB3
  go_wp2_with fail
  refine (all_nil w4).mono ?_; rintro x w' ⟨rfl, rfl⟩
  go_wp2_with fail
  refine (mute_nil w4 now 1).mono ?_; rintro x w5 ⟨rfl, hb⟩
  have HB5 : Hid (Below w.heap.size w w5) := HB4.out.trans (hb.mono HB4.out.size)
  clear hb HB4
  go_wp2_with fail
  refine (doubt_nil w5 now 1).mono ?_; rintro x w6 ⟨rfl, hb⟩
  have HB6 : Hid (Below w.heap.size w w6) := HB5.out.trans (hb.mono HB5.out.size)
  clear hb HB5
  go_wp2_with fail
  refine (note_nil w6 now).mono ?_; rintro x w7 ⟨rfl, hb⟩
  have HB7 : Hid (Below w.heap.size w w7) := HB6.out.trans (hb.mono HB6.out.size)
  clear hb HB6
  go_wp2_with fail
  go_ret
  exact ⟨rfl, HB7.out⟩

end Go.Proofs.Ytifcgkpannlnnaa
