/-
  pair.plays: Update, and the whole.
-/
import Derived.Test.YtemdmpfifcihfaaR58
set_option linter.unusedVariables false
namespace Go.Proofs.Ytemdmpfifcihfaa
open Go.RowKit

theorem ansU_nn (l pre : List Int) (x : Int) : 0 ≤ ansU l pre x := adr_nn _

set_option maxRecDepth 20000 in
set_option maxHeartbeats 4000000 in
theorem p5_update (base r b N n0 : Nat) (S : Sta) (F G : List Nat) (t n x : Int) (sec : Bool) (la : Option Addr) (l : List Int) (lc : Nat) (hN : N < 8796092982208) (hn0 : n0 ≤ base) (W : World) (hcm : Came n0 W la l) (P : Pp W base r b N S F G) :
    Calls Try.prog 31 #[.agg #[.pointer (some ⟨r, 0, none⟩), .pointer (some ⟨b, 0, none⟩)], .agg #[.int .i64 14, .int .i64 t, .int .i64 n, .int .i64 x, .bool sec, .slice la l.length lc]] W fun e W' => e = .returned (.bool true) ∧ Done W base r b N S F G W' := by
  have tt : Touch [] W ((W.alloc (.cells #[.pointer (some ⟨r, 0, none⟩), .pointer (some ⟨b, 0, none⟩)] 61)).alloc (.cells #[.int .i64 14, .int .i64 t, .int .i64 n, .int .i64 x, .bool sec, .slice la l.length lc] 48)) := (Touch.alloc _ _ _).trans (Touch.alloc _ _ _)
  have bx := Bx.new W r b 14 t n x sec la l.length lc
  have P2 := P.nil tt
  have HL : Hid (∀ k, k ∈ F ++ G → base ≤ k ∧ k < W.heap.size) := fun k hk => P.lt k hk
  have HT : Hid _ := tt
  have hq := P.rt.queN
  have hbw := P.ba
  have HC2 : Hid (Came n0 ((W.alloc (.cells #[.pointer (some ⟨r, 0, none⟩), .pointer (some ⟨b, 0, none⟩)] 61)).alloc (.cells #[.int .i64 14, .int .i64 t, .int .i64 n, .int .i64 x, .bool sec, .slice la l.length lc] 48)) la l) := hcm.keep (fun k hk => tt.block k (by omega) (by simp))
  clear tt P hcm
  obtain ⟨ll, hll⟩ : ∃ ll, ll = l.length := ⟨_, rfl⟩
  rw [← hll] at bx HT HC2 P2 ⊢
  have HLL : Hid (ll = l.length) := hll
  clear hll
  go_enter Try.func31, Try.ntmps31
  go_upto_region 42 with fail
  generalize (W.alloc (.cells #[.pointer (some ⟨r, 0, none⟩), .pointer (some ⟨b, 0, none⟩)] 61)).alloc (.cells #[.int .i64 14, .int .i64 t, .int .i64 n, .int .i64 x, .bool sec, .slice la ll lc] 48) = W2 at *
  obtain ⟨PB, hPB⟩ : ∃ PB, PB = W.heap.size := ⟨_, rfl⟩
  rw [← hPB] at bx ⊢
  have hPO := heap_lt bx.o
  have o5 := bx.o5
  have HPB : Hid (PB = W.heap.size) := hPB
  clear hPB
  go_upto_region 43 with fail
  have hPB := HPB.out
  have t3 : Touch [] W2 (W2.alloc (.cells #[.slice la ll lc, .slice none 0 0] 56)) := Touch.alloc _ _ _
  have hK : (W2.alloc (.cells #[.slice la ll lc, .slice none 0 0] 56)).heap[W2.heap.size]? = some (.cells #[.slice la ll lc, .slice none 0 0] 56 (0, 0)) := heap_alloc_new W2 _
  have P3 := P2.nil t3
  have bx3 := bx.touch t3 (by simp) (by simp)
  have hs23 := t3.size
  have hs12 := HT.out.size
  have C3 : Came n0 (W2.alloc (.cells #[.slice la ll lc, .slice none 0 0] 56)) la l := HC2.out.keep (fun k hk => t3.block k (by omega) (by simp))
  clear o5
  generalize W2.alloc (.cells #[.slice la ll lc, .slice none 0 0] 56) = W3 at *
  obtain ⟨K, hKe⟩ : ∃ K, K = W2.heap.size := ⟨_, rfl⟩
  rw [← hKe] at hK ⊢
  have hKF : K ∉ F := fun h => by have := HL.out K (List.mem_append_left G h); omega
  have hKG : K ∉ G := fun h => by have := HL.out K (List.mem_append_right F h); omega
  rw [HLL.out] at hK
  have hc := update_any base r N K n0 lc la l S F W3 P3.rt P3.ok hN hK C3 hKF hn0 (by omega)
  have p0 := bx3.p0
  have H3 : Hid (Pp W2 base r b N S F G ∧ Pp W3 base r b N S F G ∧ Bx W3 PB (PB + 1) r b 14 t n x sec la ll lc ∧ Came n0 W3 la l ∧ K ∉ F ∧ K ∉ G ∧ Touch [] W2 W3 ∧ K = W2.heap.size ∧ PB = W.heap.size ∧ PB + 1 < W2.heap.size ∧ W2.heap.size ≤ W3.heap.size ∧ W.heap.size ≤ W2.heap.size) := ⟨P2, P3, bx3, C3, hKF, hKG, t3, hKe, hPB, hPO, hs23, hs12⟩
  clear P2 bx P3 bx3 C3 hKF hKG hK t3 hKe hPB hPO hs23 hs12 HC2
  go_wp2_with fail
  refine hc.mono ?_
  rintro e W4 ⟨rfl, h4, ⟨v, hK4, o4⟩, t4⟩
  obtain ⟨q1, q2, q3, q4, q5, q6, q7, q8, q9, q10, q11, q12⟩ := H3.out
  have hGlt : ∀ k, k ∈ G → k < W.heap.size := fun k hk => (HL.out k (List.mem_append_right F hk)).2
  have rf4 : Rfs W4 base b S G := q2.rf.keep t4 (fun k hk hm => by
    rcases List.mem_cons.1 hm with rfl | hm
    · exact q6 hk
    · exact q1.ap k hm hk)
  have bx4 := q3.touch t4 (fun hm => by
    rcases List.mem_cons.1 hm with e | hm
    · omega
    · have := HL.out _ (List.mem_append_left G hm); omega) (fun hm => by
    rcases List.mem_cons.1 hm with e | hm
    · omega
    · have := HL.out _ (List.mem_append_left G hm); omega)
  have C4 : Came n0 W4 la l := q4.keep (fun k hk => t4.block k (by omega) (fun hm => by
    rcases List.mem_cons.1 hm with e | hm
    · omega
    · have := HL.out _ (List.mem_append_left G hm); omega))
  have hc2 := rall_any base b S G W4 rf4 q1.ok (by omega)
  have p1 := bx4.p1
  have T24 : Touch F W2 W4 := (q7.mono (fun k h => by cases h)).then t4 (fun k hk => by
    rcases List.mem_cons.1 hk with rfl | hm
    · exact .inr (by omega)
    · exact .inl hm)
  have H4 : Hid (Rts W4 base r N (S.vis (ansU l)) F ∧ Rfs W4 base b S G ∧ Bx W4 PB (PB + 1) r b 14 t n x sec la ll lc ∧ Came n0 W4 la l ∧ W4.heap[K]? = some (.cells #[.slice la l.length lc, v] 56 (0, 0)) ∧ W4.ownsRow W3.heap.size 3 1 v S.all.length (ints S.all) ∧ Touch F W2 W4 ∧ (∀ k, k ∈ G → k < W.heap.size) ∧ W3.heap.size ≤ W4.heap.size) := ⟨h4, rf4, bx4, C4, hK4, o4, T24, hGlt, t4.size⟩
  clear hc h4 hK4 o4 t4 rf4 bx4 C4 T24 hGlt q1 q2 q3 q4 q5 q6 q7 q8 q9 q10 q11 q12 p0
  go_wp2_with fail
  refine hc2.mono ?_
  rintro e W5 ⟨v5, rfl, o5, b5⟩
  obtain ⟨a5, c5, e5⟩ := own_slice o5
  subst e5
  obtain ⟨h4, rf4, bx4, C4, hK4, o4, T24, hGlt, hs34⟩ := H4.out
  have rf5 := rf4.nil (Touch.of_below b5 [])
  have bx5 := bx4.touch (Touch.of_below b5 []) (by simp) (by simp)
  have hb4 : base ≤ W4.heap.size := by have := H3.out.2.2.2.2.2.2.2.2.2.2; omega
  have C5 : Came n0 W5 la l := C4.keep (fun k hk => b5.block k (by omega))
  have hc3 := rlay_any base b n0 lc la l S G W5 rf5 H3.out.1.ok (by omega) C5 hn0
  rw [← HLL.out] at hc3
  have p1' := bx5.p1
  have o5' := bx5.o5
  have H5 : Hid (W5.ownsRow W4.heap.size 3 1 (.slice a5 S.all.length c5) S.all.length (ints S.all) ∧ Below W4.heap.size W4 W5) := ⟨o5, b5⟩
  clear hc2 o5 b5 h4 rf4 bx4 C4 hK4 o4 T24 hGlt hs34 rf5 bx5 C5 p1 hb4
  generalize hal : S.all.length = al at *
  go_wp2_with fail
  refine hc3.mono ?_
  rintro e W6 ⟨rfl, h6, t6⟩
  obtain ⟨h4, rf4, bx4, C4, hK4, o4, T24, hGlt, hs34⟩ := H4.out
  have hs45 := H5.out.2.size
  have hK6 : W6.heap[K]? = some (.cells #[.slice la l.length lc, v] 56 (0, 0)) := by
    rw [t6.block K (by have := heap_lt hK4; omega) H3.out.2.2.2.2.2.1, H5.out.2.block K (heap_lt hK4)]
    exact hK4
  have hsz := H3.out.2.2.2.2.2.2.2.2.2.2
  have o6 : W6.ownsRow W3.heap.size 3 1 v al (ints S.all) := own_keep (k := 0) o4 (fun i e => by
    have := o4.lt i e
    rw [t6.block i (by omega) (fun hm => by have := hGlt i hm; omega), H5.out.2.block i this.2])
  have o7 : W6.ownsRow W4.heap.size 3 1 (.slice a5 al c5) al (ints S.all) := own_keep (k := 0) H5.out.1 (fun i e => by
    have := H5.out.1.lt i e
    rw [t6.block i (by omega) (fun hm => by have := hGlt i hm; omega)])
  obtain ⟨a6, c6, e6⟩ := own_slice o6
  subst e6
  have k1 : W6.cell? ⟨K, 1, none⟩ = some (.slice a6 al c6) := by have := heap_cell hK6 1; simpa using this
  have hsm := same_any _ _ _ _ W6 (own_is o6) (own_is o7) (by have := all_len H3.out.1.ok; omega)
  simp only [decide_true] at hsm
  have HG : Hid (∀ nq, Done W base r b N S F G (W6.drewN nq)) := fun nq => (H3.out.1.step T24 (Newer.refl _ _) h4 (((Touch.of_below H5.out.2 G).trans t6).trans (Touch.drewN _ _ nq)) (Newer.refl _ _) (h6.nil (Touch.drewN _ _ _)) (H3.out.1.ok.vis (fun pre x _ => ansU_nn l pre x)) (by omega) rfl).before HT.out (fun k hk => (HL.out k hk).2)
  clear hc3 h4 rf4 bx4 C4 hK4 o4 T24 hGlt hs34 hs45 hK6 o6 o7 h6 t6 p1' o5' hsz H3 H4 H5 hal
  go_wp2_with fail
  refine hsm.mono ?_
  rintro e W7 ⟨rfl, nq, rfl⟩
  have HG7 : Hid _ := HG.out nq
  clear hsm HG k1
  go_wp2
  go_ret
  exact ⟨rfl, HG7.out⟩

set_option maxRecDepth 20000 in
set_option maxHeartbeats 4000000 in
theorem p5_none (base r b N : Nat) (S : Sta) (F G : List Nat) (kd t n x : Int) (sec : Bool) (la : Option Addr) (ll lc : Nat) (hk : kd < 1 ∨ 14 < kd) (W : World) (P : Pp W base r b N S F G) :
    Calls Try.prog 31 #[.agg #[.pointer (some ⟨r, 0, none⟩), .pointer (some ⟨b, 0, none⟩)], .agg #[.int .i64 kd, .int .i64 t, .int .i64 n, .int .i64 x, .bool sec, .slice la ll lc]] W fun e W' => e = .returned (.bool true) ∧ Done W base r b N S F G W' := by
  have tt : Touch [] W ((W.alloc (.cells #[.pointer (some ⟨r, 0, none⟩), .pointer (some ⟨b, 0, none⟩)] 61)).alloc (.cells #[.int .i64 kd, .int .i64 t, .int .i64 n, .int .i64 x, .bool sec, .slice la ll lc] 48)) := (Touch.alloc _ _ _).trans (Touch.alloc _ _ _)
  have o0 := (Bx.new W r b kd t n x sec la ll lc).o0
  have HG : Hid (Done W base r b N S F G ((W.alloc (.cells #[.pointer (some ⟨r, 0, none⟩), .pointer (some ⟨b, 0, none⟩)] 61)).alloc (.cells #[.int .i64 kd, .int .i64 t, .int .i64 n, .int .i64 x, .bool sec, .slice la ll lc] 48))) := P.idle tt
  have k1 : (kd == 1) = false := by simp; omega
  have k2 : (kd == 2) = false := by simp; omega
  have k3 : (kd == 3) = false := by simp; omega
  have k4 : (kd == 4) = false := by simp; omega
  have k5 : (kd == 5) = false := by simp; omega
  have k6 : (kd == 6) = false := by simp; omega
  have k7 : (kd == 7) = false := by simp; omega
  have k8 : (kd == 8) = false := by simp; omega
  have k9 : (kd == 9) = false := by simp; omega
  have k10 : (kd == 10) = false := by simp; omega
  have k11 : (kd == 11) = false := by simp; omega
  have k12 : (kd == 12) = false := by simp; omega
  have k13 : (kd == 13) = false := by simp; omega
  have k14 : (kd == 14) = false := by simp; omega
  clear hk tt P
  go_enter Try.func31, Try.ntmps31
  go_upto_region 1 with fail
  generalize (W.alloc (.cells #[.pointer (some ⟨r, 0, none⟩), .pointer (some ⟨b, 0, none⟩)] 61)).alloc (.cells #[.int .i64 kd, .int .i64 t, .int .i64 n, .int .i64 x, .bool sec, .slice la ll lc] 48) = W2 at *
  generalize W.heap.size = PB at *
  go_wp2
  go_ret
  exact ⟨rfl, HG.out⟩

theorem p5_any (base r b N n0 : Nat) (S : Sta) (F G : List Nat) (kd t n x : Int) (sec : Bool) (la : Option Addr) (l : List Int) (lc : Nat) (hN : N < 8796092982208) (hn0 : n0 ≤ base) (bn : -9223372036854775808 ≤ n ∧ n < 9223372036854775808) (W : World) (hcm : Came n0 W la l) (P : Pp W base r b N S F G) :
    Calls Try.prog 31 #[.agg #[.pointer (some ⟨r, 0, none⟩), .pointer (some ⟨b, 0, none⟩)], .agg #[.int .i64 kd, .int .i64 t, .int .i64 n, .int .i64 x, .bool sec, .slice la l.length lc]] W fun e W' => e = .returned (.bool true) ∧ Done W base r b N S F G W' := by
  by_cases hk : kd < 1 ∨ 14 < kd
  · exact p5_none base r b N S F G kd t n x sec la l.length lc hk W P
  · obtain rfl | rfl | rfl | rfl | rfl | rfl | rfl | rfl | rfl | rfl | rfl | rfl | rfl | rfl : kd = 1 ∨ kd = 2 ∨ kd = 3 ∨ kd = 4 ∨ kd = 5 ∨ kd = 6 ∨ kd = 7 ∨ kd = 8 ∨ kd = 9 ∨ kd = 10 ∨ kd = 11 ∨ kd = 12 ∨ kd = 13 ∨ kd = 14 := by omega
    · exact p5_push base r b N S F G t n x sec la l.length lc W P
    · exact p5_pop base r b N S F G t n x sec la l.length lc W P
    · exact p5_frames base r b N S F G t n x sec la l.length lc W P
    · exact p5_get base r b N S F G t n x sec la l.length lc bn W P
    · exact p5_set base r b N S F G t n x sec la l.length lc bn W P
    · exact p5_open base r b N S F G t n x sec la l.length lc W P
    · exact p5_handle base r b N S F G t n x sec la l.length lc W P
    · exact p5_close base r b N S F G t n x sec la l.length lc W P
    · exact p5_handles base r b N S F G t n x sec la l.length lc W P
    · exact p5_enq base r b N S F G t n x sec la l.length lc (by omega) W P
    · exact p5_deq base r b N S F G t n x sec la l.length lc (by omega) W P
    · exact p5_queue base r b N S F G t n x sec la l.length lc hN W P
    · exact p5_all base r b N S F G t n x sec la l.length lc hN W P
    · exact p5_update base r b N n0 S F G t n x sec la l lc hN hn0 W hcm P
end Go.Proofs.Ytemdmpfifcihfaa
