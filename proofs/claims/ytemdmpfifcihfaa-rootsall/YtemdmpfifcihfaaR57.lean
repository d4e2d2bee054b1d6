/-
  pair.plays: the calls that answer numbers.
-/
import Derived.Test.YtemdmpfifcihfaaR56
set_option linter.unusedVariables false
namespace Go.Proofs.Ytemdmpfifcihfaa
open Go.RowKit

set_option maxRecDepth 20000 in
set_option maxHeartbeats 4000000 in
theorem p5_push (base r b N : Nat) (S : Sta) (F G : List Nat) (t n x : Int) (sec : Bool) (la : Option Addr) (ll lc : Nat) (W : World) (P : Pp W base r b N S F G) :
    Calls Try.prog 31 #[.agg #[.pointer (some ⟨r, 0, none⟩), .pointer (some ⟨b, 0, none⟩)], .agg #[.int .i64 1, .int .i64 t, .int .i64 n, .int .i64 x, .bool sec, .slice la ll lc]] W fun e W' => e = .returned (.bool true) ∧ Done W base r b N S F G W' := by
  have tt : Touch [] W ((W.alloc (.cells #[.pointer (some ⟨r, 0, none⟩), .pointer (some ⟨b, 0, none⟩)] 61)).alloc (.cells #[.int .i64 1, .int .i64 t, .int .i64 n, .int .i64 x, .bool sec, .slice la ll lc] 48)) := (Touch.alloc _ _ _).trans (Touch.alloc _ _ _)
  have bx := Bx.new W r b 1 t n x sec la ll lc
  have P2 := P.nil tt
  have HL : Hid (∀ k, k ∈ F ++ G → k < W.heap.size) := fun k hk => (P.lt k hk).2
  have HT : Hid _ := tt
  clear tt P
  go_enter Try.func31, Try.ntmps31
  go_upto_region 1 with fail
  generalize (W.alloc (.cells #[.pointer (some ⟨r, 0, none⟩), .pointer (some ⟨b, 0, none⟩)] 61)).alloc (.cells #[.int .i64 1, .int .i64 t, .int .i64 n, .int .i64 x, .bool sec, .slice la ll lc] 48) = W2 at *
  obtain ⟨PB, hPB⟩ : ∃ PB, PB = W.heap.size := ⟨_, rfl⟩
  rw [← hPB] at bx ⊢
  have HP : Hid (PB = W.heap.size) := hPB
  clear hPB
  have nF : PB ∉ F ∧ PB + 1 ∉ F := ⟨fun h => by have := HL.out _ (List.mem_append_left G h); have := HP.out; omega, fun h => by have := HL.out _ (List.mem_append_left G h); have := HP.out; omega⟩
  have p0 := bx.p0
  have o0 := bx.o0
  have o1 := bx.o1
  have o2 := bx.o2
  have o3 := bx.o3
  have hc := push_any base r N t n S F W2 P2.rt P2.ok P2.ba
  have H2 : Hid (Pp W2 base r b N S F G ∧ Bx W2 PB (PB + 1) r b 1 t n x sec la ll lc ∧ PB ∉ F ∧ PB + 1 ∉ F) := ⟨P2, bx, nF.1, nF.2⟩
  clear P2 bx nF
  go_wp2_with fail
  refine hc.mono ?_
  rintro e W3 ⟨rfl, F', h1, t1, n1⟩
  skip
  have rf3 := H2.out.1.mid t1
  have bx3 := H2.out.2.1.touch t1 H2.out.2.2.1 H2.out.2.2.2
  have q1 := bx3.p1
  have q2 := bx3.o1
  have q3 := bx3.o2
  have q4 := bx3.o3
  have hc2 := rpush_any base b t n S G W3 rf3 H2.out.1.ok (Nat.le_trans H2.out.1.ba t1.size)
  have H3 : Hid _ := And.intro t1 (And.intro n1 h1)
  clear hc p0 o0 o1 o2 o3 rf3 bx3 t1 n1 h1
  go_wp2_with fail
  refine hc2.mono ?_
  rintro e W4 ⟨rfl, G', h2, t2, n2⟩
  skip
  have HG : Hid (Done W base r b N S F G W4) := (H2.out.1.step H3.out.1 H3.out.2.1 H3.out.2.2 t2 n2 h2 (H2.out.1.ok.pushS t n) (by omega) (by unfold Sta.pushS; split <;> rfl)).before HT.out HL.out
  clear hc2 q1 q2 q3 q4 t2 n2 h2 H2 H3
  go_wp2
  go_ret
  exact ⟨by simp, HG.out⟩

set_option maxRecDepth 20000 in
set_option maxHeartbeats 4000000 in
theorem p5_pop (base r b N : Nat) (S : Sta) (F G : List Nat) (t n x : Int) (sec : Bool) (la : Option Addr) (ll lc : Nat) (W : World) (P : Pp W base r b N S F G) :
    Calls Try.prog 31 #[.agg #[.pointer (some ⟨r, 0, none⟩), .pointer (some ⟨b, 0, none⟩)], .agg #[.int .i64 2, .int .i64 t, .int .i64 n, .int .i64 x, .bool sec, .slice la ll lc]] W fun e W' => e = .returned (.bool true) ∧ Done W base r b N S F G W' := by
  have tt : Touch [] W ((W.alloc (.cells #[.pointer (some ⟨r, 0, none⟩), .pointer (some ⟨b, 0, none⟩)] 61)).alloc (.cells #[.int .i64 2, .int .i64 t, .int .i64 n, .int .i64 x, .bool sec, .slice la ll lc] 48)) := (Touch.alloc _ _ _).trans (Touch.alloc _ _ _)
  have bx := Bx.new W r b 2 t n x sec la ll lc
  have P2 := P.nil tt
  have HL : Hid (∀ k, k ∈ F ++ G → k < W.heap.size) := fun k hk => (P.lt k hk).2
  have HT : Hid _ := tt
  clear tt P
  go_enter Try.func31, Try.ntmps31
  go_upto_region 1 with fail
  generalize (W.alloc (.cells #[.pointer (some ⟨r, 0, none⟩), .pointer (some ⟨b, 0, none⟩)] 61)).alloc (.cells #[.int .i64 2, .int .i64 t, .int .i64 n, .int .i64 x, .bool sec, .slice la ll lc] 48) = W2 at *
  obtain ⟨PB, hPB⟩ : ∃ PB, PB = W.heap.size := ⟨_, rfl⟩
  rw [← hPB] at bx ⊢
  have HP : Hid (PB = W.heap.size) := hPB
  clear hPB
  have nF : PB ∉ F ∧ PB + 1 ∉ F := ⟨fun h => by have := HL.out _ (List.mem_append_left G h); have := HP.out; omega, fun h => by have := HL.out _ (List.mem_append_left G h); have := HP.out; omega⟩
  have p0 := bx.p0
  have o0 := bx.o0
  have o1 := bx.o1
  have o2 := bx.o2
  have o3 := bx.o3
  have hc := pop_any base r N t S F W2 P2.rt P2.ok
  have H2 : Hid (Pp W2 base r b N S F G ∧ Bx W2 PB (PB + 1) r b 2 t n x sec la ll lc ∧ PB ∉ F ∧ PB + 1 ∉ F) := ⟨P2, bx, nF.1, nF.2⟩
  clear P2 bx nF
  go_wp2_with fail
  refine hc.mono ?_
  rintro e W3 ⟨rfl, F', h1, t1, n1⟩
  skip
  have rf3 := H2.out.1.mid t1
  have bx3 := H2.out.2.1.touch t1 H2.out.2.2.1 H2.out.2.2.2
  have q1 := bx3.p1
  have q2 := bx3.o1
  have q3 := bx3.o2
  have q4 := bx3.o3
  have hc2 := rpop_any base b t S G W3 rf3 H2.out.1.ok (Nat.le_trans H2.out.1.ba t1.size)
  have H3 : Hid _ := And.intro t1 (And.intro n1 h1)
  clear hc p0 o0 o1 o2 o3 rf3 bx3 t1 n1 h1
  go_wp2_with fail
  refine hc2.mono ?_
  rintro e W4 ⟨rfl, G', h2, t2, n2⟩
  skip
  have HG : Hid (Done W base r b N S F G W4) := (H2.out.1.step H3.out.1 H3.out.2.1 H3.out.2.2 t2 n2 h2 (H2.out.1.ok.popS t) (by omega) (by unfold Sta.popS; split <;> rfl)).before HT.out HL.out
  clear hc2 q1 q2 q3 q4 t2 n2 h2 H2 H3
  go_wp2
  go_ret
  exact ⟨by simp, HG.out⟩

set_option maxRecDepth 20000 in
set_option maxHeartbeats 4000000 in
theorem p5_get (base r b N : Nat) (S : Sta) (F G : List Nat) (t n x : Int) (sec : Bool) (la : Option Addr) (ll lc : Nat) (bn : -9223372036854775808 ≤ n ∧ n < 9223372036854775808) (W : World) (P : Pp W base r b N S F G) :
    Calls Try.prog 31 #[.agg #[.pointer (some ⟨r, 0, none⟩), .pointer (some ⟨b, 0, none⟩)], .agg #[.int .i64 4, .int .i64 t, .int .i64 n, .int .i64 x, .bool sec, .slice la ll lc]] W fun e W' => e = .returned (.bool true) ∧ Done W base r b N S F G W' := by
  have tt : Touch [] W ((W.alloc (.cells #[.pointer (some ⟨r, 0, none⟩), .pointer (some ⟨b, 0, none⟩)] 61)).alloc (.cells #[.int .i64 4, .int .i64 t, .int .i64 n, .int .i64 x, .bool sec, .slice la ll lc] 48)) := (Touch.alloc _ _ _).trans (Touch.alloc _ _ _)
  have bx := Bx.new W r b 4 t n x sec la ll lc
  have P2 := P.nil tt
  have HL : Hid (∀ k, k ∈ F ++ G → k < W.heap.size) := fun k hk => (P.lt k hk).2
  have HT : Hid _ := tt
  clear tt P
  go_enter Try.func31, Try.ntmps31
  go_upto_region 1 with fail
  generalize (W.alloc (.cells #[.pointer (some ⟨r, 0, none⟩), .pointer (some ⟨b, 0, none⟩)] 61)).alloc (.cells #[.int .i64 4, .int .i64 t, .int .i64 n, .int .i64 x, .bool sec, .slice la ll lc] 48) = W2 at *
  obtain ⟨PB, hPB⟩ : ∃ PB, PB = W.heap.size := ⟨_, rfl⟩
  rw [← hPB] at bx ⊢
  have HP : Hid (PB = W.heap.size) := hPB
  clear hPB
  have nF : PB ∉ F ∧ PB + 1 ∉ F := ⟨fun h => by have := HL.out _ (List.mem_append_left G h); have := HP.out; omega, fun h => by have := HL.out _ (List.mem_append_left G h); have := HP.out; omega⟩
  have p0 := bx.p0
  have o0 := bx.o0
  have o1 := bx.o1
  have o2 := bx.o2
  have o3 := bx.o3
  have hc := get_any base r N t n S F W2 P2.rt P2.ok
  have H2 : Hid (Pp W2 base r b N S F G ∧ Bx W2 PB (PB + 1) r b 4 t n x sec la ll lc ∧ PB ∉ F ∧ PB + 1 ∉ F) := ⟨P2, bx, nF.1, nF.2⟩
  clear P2 bx nF
  go_wp2_with fail
  refine hc.mono ?_
  rintro e W3 ⟨rfl, nq, rfl⟩
  have t1 : Touch F W2 (W2.drewN nq) := Touch.drewN _ _ _
  have n1 : Newer W2.heap.size F F := Newer.refl _ _
  have h1 : Rts (W2.drewN nq) base r N S F := H2.out.1.rt.nil (Touch.drewN _ _ _)
  have rf3 := H2.out.1.mid t1
  have bx3 := H2.out.2.1.touch t1 H2.out.2.2.1 H2.out.2.2.2
  have q1 := bx3.p1
  have q2 := bx3.o1
  have q3 := bx3.o2
  have q4 := bx3.o3
  have hc2 := rget_any base b t n S G (W2.drewN nq) rf3 H2.out.1.ok bn
  have H3 : Hid _ := And.intro t1 (And.intro n1 h1)
  clear hc p0 o0 o1 o2 o3 rf3 bx3 t1 n1 h1
  go_wp2_with fail
  refine hc2.mono ?_
  rintro e W4 ⟨rfl, b4⟩
  have t2 : Touch G (W2.drewN nq) W4 := Touch.of_below b4 _
  have n2 : Newer (W2.drewN nq).heap.size G G := Newer.refl _ _
  have h2 : Rfs W4 base b S G := (H2.out.1.mid H3.out.1).nil (Touch.of_below b4 _)
  have HG : Hid (Done W base r b N S F G W4) := (H2.out.1.step H3.out.1 H3.out.2.1 H3.out.2.2 t2 n2 h2 (H2.out.1.ok) (by omega) (by rfl)).before HT.out HL.out
  clear hc2 q1 q2 q3 q4 t2 n2 h2 H2 H3
  go_wp2
  go_ret
  exact ⟨by simp, HG.out⟩

set_option maxRecDepth 20000 in
set_option maxHeartbeats 4000000 in
theorem p5_set (base r b N : Nat) (S : Sta) (F G : List Nat) (t n x : Int) (sec : Bool) (la : Option Addr) (ll lc : Nat) (bn : -9223372036854775808 ≤ n ∧ n < 9223372036854775808) (W : World) (P : Pp W base r b N S F G) :
    Calls Try.prog 31 #[.agg #[.pointer (some ⟨r, 0, none⟩), .pointer (some ⟨b, 0, none⟩)], .agg #[.int .i64 5, .int .i64 t, .int .i64 n, .int .i64 x, .bool sec, .slice la ll lc]] W fun e W' => e = .returned (.bool true) ∧ Done W base r b N S F G W' := by
  have tt : Touch [] W ((W.alloc (.cells #[.pointer (some ⟨r, 0, none⟩), .pointer (some ⟨b, 0, none⟩)] 61)).alloc (.cells #[.int .i64 5, .int .i64 t, .int .i64 n, .int .i64 x, .bool sec, .slice la ll lc] 48)) := (Touch.alloc _ _ _).trans (Touch.alloc _ _ _)
  have bx := Bx.new W r b 5 t n x sec la ll lc
  have P2 := P.nil tt
  have HL : Hid (∀ k, k ∈ F ++ G → k < W.heap.size) := fun k hk => (P.lt k hk).2
  have HT : Hid _ := tt
  clear tt P
  go_enter Try.func31, Try.ntmps31
  go_upto_region 1 with fail
  generalize (W.alloc (.cells #[.pointer (some ⟨r, 0, none⟩), .pointer (some ⟨b, 0, none⟩)] 61)).alloc (.cells #[.int .i64 5, .int .i64 t, .int .i64 n, .int .i64 x, .bool sec, .slice la ll lc] 48) = W2 at *
  obtain ⟨PB, hPB⟩ : ∃ PB, PB = W.heap.size := ⟨_, rfl⟩
  rw [← hPB] at bx ⊢
  have HP : Hid (PB = W.heap.size) := hPB
  clear hPB
  have nF : PB ∉ F ∧ PB + 1 ∉ F := ⟨fun h => by have := HL.out _ (List.mem_append_left G h); have := HP.out; omega, fun h => by have := HL.out _ (List.mem_append_left G h); have := HP.out; omega⟩
  have p0 := bx.p0
  have o0 := bx.o0
  have o1 := bx.o1
  have o2 := bx.o2
  have o3 := bx.o3
  have hc := set_any base r N t n x S F W2 P2.rt P2.ok
  have H2 : Hid (Pp W2 base r b N S F G ∧ Bx W2 PB (PB + 1) r b 5 t n x sec la ll lc ∧ PB ∉ F ∧ PB + 1 ∉ F) := ⟨P2, bx, nF.1, nF.2⟩
  clear P2 bx nF
  go_wp2_with fail
  refine hc.mono ?_
  rintro e W3 ⟨rfl, h1, t1⟩
  have n1 : Newer W2.heap.size F F := Newer.refl _ _
  have rf3 := H2.out.1.mid t1
  have bx3 := H2.out.2.1.touch t1 H2.out.2.2.1 H2.out.2.2.2
  have q1 := bx3.p1
  have q2 := bx3.o1
  have q3 := bx3.o2
  have q4 := bx3.o3
  have hc2 := rset_any base b t n x S G W3 rf3 H2.out.1.ok bn
  have H3 : Hid _ := And.intro t1 (And.intro n1 h1)
  clear hc p0 o0 o1 o2 o3 rf3 bx3 t1 n1 h1
  go_wp2_with fail
  refine hc2.mono ?_
  rintro e W4 ⟨rfl, h2, t2⟩
  have n2 : Newer W3.heap.size G G := Newer.refl _ _
  have HG : Hid (Done W base r b N S F G W4) := (H2.out.1.step H3.out.1 H3.out.2.1 H3.out.2.2 t2 n2 h2 (H2.out.1.ok.setS t n x) (by omega) (by unfold Sta.setS; split <;> rfl)).before HT.out HL.out
  clear hc2 q1 q2 q3 q4 t2 n2 h2 H2 H3
  go_wp2
  go_ret
  exact ⟨by simp, HG.out⟩

set_option maxRecDepth 20000 in
set_option maxHeartbeats 4000000 in
theorem p5_open (base r b N : Nat) (S : Sta) (F G : List Nat) (t n x : Int) (sec : Bool) (la : Option Addr) (ll lc : Nat) (W : World) (P : Pp W base r b N S F G) :
    Calls Try.prog 31 #[.agg #[.pointer (some ⟨r, 0, none⟩), .pointer (some ⟨b, 0, none⟩)], .agg #[.int .i64 6, .int .i64 t, .int .i64 n, .int .i64 x, .bool sec, .slice la ll lc]] W fun e W' => e = .returned (.bool true) ∧ Done W base r b N S F G W' := by
  have tt : Touch [] W ((W.alloc (.cells #[.pointer (some ⟨r, 0, none⟩), .pointer (some ⟨b, 0, none⟩)] 61)).alloc (.cells #[.int .i64 6, .int .i64 t, .int .i64 n, .int .i64 x, .bool sec, .slice la ll lc] 48)) := (Touch.alloc _ _ _).trans (Touch.alloc _ _ _)
  have bx := Bx.new W r b 6 t n x sec la ll lc
  have P2 := P.nil tt
  have HL : Hid (∀ k, k ∈ F ++ G → k < W.heap.size) := fun k hk => (P.lt k hk).2
  have HT : Hid _ := tt
  clear tt P
  go_enter Try.func31, Try.ntmps31
  go_upto_region 1 with fail
  generalize (W.alloc (.cells #[.pointer (some ⟨r, 0, none⟩), .pointer (some ⟨b, 0, none⟩)] 61)).alloc (.cells #[.int .i64 6, .int .i64 t, .int .i64 n, .int .i64 x, .bool sec, .slice la ll lc] 48) = W2 at *
  obtain ⟨PB, hPB⟩ : ∃ PB, PB = W.heap.size := ⟨_, rfl⟩
  rw [← hPB] at bx ⊢
  have HP : Hid (PB = W.heap.size) := hPB
  clear hPB
  have nF : PB ∉ F ∧ PB + 1 ∉ F := ⟨fun h => by have := HL.out _ (List.mem_append_left G h); have := HP.out; omega, fun h => by have := HL.out _ (List.mem_append_left G h); have := HP.out; omega⟩
  have p0 := bx.p0
  have o0 := bx.o0
  have o1 := bx.o1
  have o2 := bx.o2
  have o3 := bx.o3
  have hc := hopen_any base r N x S F W2 P2.rt P2.ok
  have H2 : Hid (Pp W2 base r b N S F G ∧ Bx W2 PB (PB + 1) r b 6 t n x sec la ll lc ∧ PB ∉ F ∧ PB + 1 ∉ F) := ⟨P2, bx, nF.1, nF.2⟩
  clear P2 bx nF
  go_wp2_with fail
  refine hc.mono ?_
  rintro e W3 ⟨rfl, h1, t1⟩
  have n1 : Newer W2.heap.size F F := Newer.refl _ _
  have rf3 := H2.out.1.mid t1
  have bx3 := H2.out.2.1.touch t1 H2.out.2.2.1 H2.out.2.2.2
  have q1 := bx3.p1
  have q2 := bx3.o1
  have q3 := bx3.o2
  have q4 := bx3.o3
  have hc2 := ropen_any base b x S G W3 rf3 H2.out.1.ok
  have H3 : Hid _ := And.intro t1 (And.intro n1 h1)
  clear hc p0 o0 o1 o2 o3 rf3 bx3 t1 n1 h1
  go_wp2_with fail
  refine hc2.mono ?_
  rintro e W4 ⟨rfl, h2, t2⟩
  have n2 : Newer W3.heap.size G G := Newer.refl _ _
  have HG : Hid (Done W base r b N S F G W4) := (H2.out.1.step H3.out.1 H3.out.2.1 H3.out.2.2 t2 n2 h2 (H2.out.1.ok.openS x) (by omega) (by unfold Sta.openS; split <;> rfl)).before HT.out HL.out
  clear hc2 q1 q2 q3 q4 t2 n2 h2 H2 H3
  go_wp2
  go_ret
  exact ⟨by simp, HG.out⟩

set_option maxRecDepth 20000 in
set_option maxHeartbeats 4000000 in
theorem p5_close (base r b N : Nat) (S : Sta) (F G : List Nat) (t n x : Int) (sec : Bool) (la : Option Addr) (ll lc : Nat) (W : World) (P : Pp W base r b N S F G) :
    Calls Try.prog 31 #[.agg #[.pointer (some ⟨r, 0, none⟩), .pointer (some ⟨b, 0, none⟩)], .agg #[.int .i64 8, .int .i64 t, .int .i64 n, .int .i64 x, .bool sec, .slice la ll lc]] W fun e W' => e = .returned (.bool true) ∧ Done W base r b N S F G W' := by
  have tt : Touch [] W ((W.alloc (.cells #[.pointer (some ⟨r, 0, none⟩), .pointer (some ⟨b, 0, none⟩)] 61)).alloc (.cells #[.int .i64 8, .int .i64 t, .int .i64 n, .int .i64 x, .bool sec, .slice la ll lc] 48)) := (Touch.alloc _ _ _).trans (Touch.alloc _ _ _)
  have bx := Bx.new W r b 8 t n x sec la ll lc
  have P2 := P.nil tt
  have HL : Hid (∀ k, k ∈ F ++ G → k < W.heap.size) := fun k hk => (P.lt k hk).2
  have HT : Hid _ := tt
  clear tt P
  go_enter Try.func31, Try.ntmps31
  go_upto_region 1 with fail
  generalize (W.alloc (.cells #[.pointer (some ⟨r, 0, none⟩), .pointer (some ⟨b, 0, none⟩)] 61)).alloc (.cells #[.int .i64 8, .int .i64 t, .int .i64 n, .int .i64 x, .bool sec, .slice la ll lc] 48) = W2 at *
  obtain ⟨PB, hPB⟩ : ∃ PB, PB = W.heap.size := ⟨_, rfl⟩
  rw [← hPB] at bx ⊢
  have HP : Hid (PB = W.heap.size) := hPB
  clear hPB
  have nF : PB ∉ F ∧ PB + 1 ∉ F := ⟨fun h => by have := HL.out _ (List.mem_append_left G h); have := HP.out; omega, fun h => by have := HL.out _ (List.mem_append_left G h); have := HP.out; omega⟩
  have p0 := bx.p0
  have o0 := bx.o0
  have o1 := bx.o1
  have o2 := bx.o2
  have o3 := bx.o3
  have hc := hclose_any base r N n S F W2 P2.rt P2.ok
  have H2 : Hid (Pp W2 base r b N S F G ∧ Bx W2 PB (PB + 1) r b 8 t n x sec la ll lc ∧ PB ∉ F ∧ PB + 1 ∉ F) := ⟨P2, bx, nF.1, nF.2⟩
  clear P2 bx nF
  go_wp2_with fail
  refine hc.mono ?_
  rintro e W3 ⟨rfl, h1, t1⟩
  have n1 : Newer W2.heap.size F F := Newer.refl _ _
  have rf3 := H2.out.1.mid t1
  have bx3 := H2.out.2.1.touch t1 H2.out.2.2.1 H2.out.2.2.2
  have q1 := bx3.p1
  have q2 := bx3.o1
  have q3 := bx3.o2
  have q4 := bx3.o3
  have hc2 := rclose_any base b n S G W3 rf3 H2.out.1.ok
  have H3 : Hid _ := And.intro t1 (And.intro n1 h1)
  clear hc p0 o0 o1 o2 o3 rf3 bx3 t1 n1 h1
  go_wp2_with fail
  refine hc2.mono ?_
  rintro e W4 ⟨rfl, h2, t2⟩
  have n2 : Newer W3.heap.size G G := Newer.refl _ _
  have HG : Hid (Done W base r b N S F G W4) := (H2.out.1.step H3.out.1 H3.out.2.1 H3.out.2.2 t2 n2 h2 (H2.out.1.ok.closeS n) (by omega) (by unfold Sta.closeS; split <;> rfl)).before HT.out HL.out
  clear hc2 q1 q2 q3 q4 t2 n2 h2 H2 H3
  go_wp2
  go_ret
  exact ⟨by simp, HG.out⟩

set_option maxRecDepth 20000 in
set_option maxHeartbeats 4000000 in
theorem p5_handle (base r b N : Nat) (S : Sta) (F G : List Nat) (t n x : Int) (sec : Bool) (la : Option Addr) (ll lc : Nat) (W : World) (P : Pp W base r b N S F G) :
    Calls Try.prog 31 #[.agg #[.pointer (some ⟨r, 0, none⟩), .pointer (some ⟨b, 0, none⟩)], .agg #[.int .i64 7, .int .i64 t, .int .i64 n, .int .i64 x, .bool sec, .slice la ll lc]] W fun e W' => e = .returned (.bool true) ∧ Done W base r b N S F G W' := by
  have tt : Touch [] W ((W.alloc (.cells #[.pointer (some ⟨r, 0, none⟩), .pointer (some ⟨b, 0, none⟩)] 61)).alloc (.cells #[.int .i64 7, .int .i64 t, .int .i64 n, .int .i64 x, .bool sec, .slice la ll lc] 48)) := (Touch.alloc _ _ _).trans (Touch.alloc _ _ _)
  have bx := Bx.new W r b 7 t n x sec la ll lc
  have P2 := P.nil tt
  have HL : Hid (∀ k, k ∈ F ++ G → k < W.heap.size) := fun k hk => (P.lt k hk).2
  have HT : Hid _ := tt
  clear tt P
  go_enter Try.func31, Try.ntmps31
  go_upto_region 1 with fail
  generalize (W.alloc (.cells #[.pointer (some ⟨r, 0, none⟩), .pointer (some ⟨b, 0, none⟩)] 61)).alloc (.cells #[.int .i64 7, .int .i64 t, .int .i64 n, .int .i64 x, .bool sec, .slice la ll lc] 48) = W2 at *
  obtain ⟨PB, hPB⟩ : ∃ PB, PB = W.heap.size := ⟨_, rfl⟩
  rw [← hPB] at bx ⊢
  have HP : Hid (PB = W.heap.size) := hPB
  clear hPB
  have nF : PB ∉ F ∧ PB + 1 ∉ F := ⟨fun h => by have := HL.out _ (List.mem_append_left G h); have := HP.out; omega, fun h => by have := HL.out _ (List.mem_append_left G h); have := HP.out; omega⟩
  have p0 := bx.p0
  have o0 := bx.o0
  have o1 := bx.o1
  have o2 := bx.o2
  have o3 := bx.o3
  have hc := hhandle_any base r N n S F W2 P2.rt P2.ok
  have H2 : Hid (Pp W2 base r b N S F G ∧ Bx W2 PB (PB + 1) r b 7 t n x sec la ll lc ∧ PB ∉ F ∧ PB + 1 ∉ F) := ⟨P2, bx, nF.1, nF.2⟩
  clear P2 bx nF
  go_wp2_with fail
  refine hc.mono ?_
  rintro e W3 ⟨rfl, hw⟩
  subst hw
  have t1 : Touch F W2 W2 := Touch.refl _ _
  have n1 : Newer W2.heap.size F F := Newer.refl _ _
  have h1 : Rts W2 base r N S F := H2.out.1.rt
  have rf3 := H2.out.1.mid t1
  have bx3 := H2.out.2.1.touch t1 H2.out.2.2.1 H2.out.2.2.2
  have q1 := bx3.p1
  have q2 := bx3.o1
  have q3 := bx3.o2
  have q4 := bx3.o3
  have hc2 := rhandle_any base b n S G W2 rf3 H2.out.1.ok
  have H3 : Hid _ := And.intro t1 (And.intro n1 h1)
  clear hc p0 o0 o1 o2 o3 rf3 bx3 t1 n1 h1
  go_wp2_with fail
  refine hc2.mono ?_
  rintro e W4 ⟨rfl, hw⟩
  subst hw
  have t2 : Touch G W2 W2 := Touch.refl _ _
  have n2 : Newer W2.heap.size G G := Newer.refl _ _
  have h2 : Rfs W2 base b S G := H2.out.1.rf
  have HG : Hid (Done W base r b N S F G W2) := (H2.out.1.step H3.out.1 H3.out.2.1 H3.out.2.2 t2 n2 h2 (H2.out.1.ok) (by omega) (by rfl)).before HT.out HL.out
  clear hc2 q1 q2 q3 q4 t2 n2 h2 H2 H3
  go_wp2
  go_ret
  exact ⟨by simp, HG.out⟩

set_option maxRecDepth 20000 in
set_option maxHeartbeats 4000000 in
theorem p5_enq (base r b N : Nat) (S : Sta) (F G : List Nat) (t n x : Int) (sec : Bool) (la : Option Addr) (ll lc : Nat) (hN : N < 8796093022208) (W : World) (P : Pp W base r b N S F G) :
    Calls Try.prog 31 #[.agg #[.pointer (some ⟨r, 0, none⟩), .pointer (some ⟨b, 0, none⟩)], .agg #[.int .i64 10, .int .i64 t, .int .i64 n, .int .i64 x, .bool sec, .slice la ll lc]] W fun e W' => e = .returned (.bool true) ∧ Done W base r b N S F G W' := by
  have tt : Touch [] W ((W.alloc (.cells #[.pointer (some ⟨r, 0, none⟩), .pointer (some ⟨b, 0, none⟩)] 61)).alloc (.cells #[.int .i64 10, .int .i64 t, .int .i64 n, .int .i64 x, .bool sec, .slice la ll lc] 48)) := (Touch.alloc _ _ _).trans (Touch.alloc _ _ _)
  have bx := Bx.new W r b 10 t n x sec la ll lc
  have P2 := P.nil tt
  have HL : Hid (∀ k, k ∈ F ++ G → k < W.heap.size) := fun k hk => (P.lt k hk).2
  have HT : Hid _ := tt
  clear tt P
  go_enter Try.func31, Try.ntmps31
  go_upto_region 1 with fail
  generalize (W.alloc (.cells #[.pointer (some ⟨r, 0, none⟩), .pointer (some ⟨b, 0, none⟩)] 61)).alloc (.cells #[.int .i64 10, .int .i64 t, .int .i64 n, .int .i64 x, .bool sec, .slice la ll lc] 48) = W2 at *
  obtain ⟨PB, hPB⟩ : ∃ PB, PB = W.heap.size := ⟨_, rfl⟩
  rw [← hPB] at bx ⊢
  have HP : Hid (PB = W.heap.size) := hPB
  clear hPB
  have nF : PB ∉ F ∧ PB + 1 ∉ F := ⟨fun h => by have := HL.out _ (List.mem_append_left G h); have := HP.out; omega, fun h => by have := HL.out _ (List.mem_append_left G h); have := HP.out; omega⟩
  have p0 := bx.p0
  have o0 := bx.o0
  have o1 := bx.o1
  have o2 := bx.o2
  have o3 := bx.o3
  have hc := enqueue_any base r N x S F W2 P2.rt P2.ba hN
  have H2 : Hid (Pp W2 base r b N S F G ∧ Bx W2 PB (PB + 1) r b 10 t n x sec la ll lc ∧ PB ∉ F ∧ PB + 1 ∉ F) := ⟨P2, bx, nF.1, nF.2⟩
  clear P2 bx nF
  go_wp2_with fail
  refine hc.mono ?_
  rintro e W3 ⟨rfl, F', h1, t1, n1⟩
  skip
  have rf3 := H2.out.1.mid t1
  have bx3 := H2.out.2.1.touch t1 H2.out.2.2.1 H2.out.2.2.2
  have q1 := bx3.p1
  have q2 := bx3.o1
  have q3 := bx3.o2
  have q4 := bx3.o3
  have hc2 := renqueue_any base b x S G W3 rf3 (Nat.le_trans H2.out.1.ba t1.size) (by have := H2.out.1.rt.queN; omega)
  have H3 : Hid _ := And.intro t1 (And.intro n1 h1)
  clear hc p0 o0 o1 o2 o3 rf3 bx3 t1 n1 h1
  go_wp2_with fail
  refine hc2.mono ?_
  rintro e W4 ⟨rfl, G', h2, t2, n2⟩
  skip
  have HG : Hid (Done W base r b N S F G W4) := (H2.out.1.step H3.out.1 H3.out.2.1 H3.out.2.2 t2 n2 h2 (H2.out.1.ok.enqS x) (by omega) (by rfl)).before HT.out HL.out
  clear hc2 q1 q2 q3 q4 t2 n2 h2 H2 H3
  go_wp2
  go_ret
  exact ⟨rfl, HG.out⟩

set_option maxRecDepth 20000 in
set_option maxHeartbeats 4000000 in
theorem p5_deq (base r b N : Nat) (S : Sta) (F G : List Nat) (t n x : Int) (sec : Bool) (la : Option Addr) (ll lc : Nat) (hN : N < 8796093022208) (W : World) (P : Pp W base r b N S F G) :
    Calls Try.prog 31 #[.agg #[.pointer (some ⟨r, 0, none⟩), .pointer (some ⟨b, 0, none⟩)], .agg #[.int .i64 11, .int .i64 t, .int .i64 n, .int .i64 x, .bool sec, .slice la ll lc]] W fun e W' => e = .returned (.bool true) ∧ Done W base r b N S F G W' := by
  have tt : Touch [] W ((W.alloc (.cells #[.pointer (some ⟨r, 0, none⟩), .pointer (some ⟨b, 0, none⟩)] 61)).alloc (.cells #[.int .i64 11, .int .i64 t, .int .i64 n, .int .i64 x, .bool sec, .slice la ll lc] 48)) := (Touch.alloc _ _ _).trans (Touch.alloc _ _ _)
  have bx := Bx.new W r b 11 t n x sec la ll lc
  have P2 := P.nil tt
  have HL : Hid (∀ k, k ∈ F ++ G → k < W.heap.size) := fun k hk => (P.lt k hk).2
  have HT : Hid _ := tt
  clear tt P
  go_enter Try.func31, Try.ntmps31
  go_upto_region 1 with fail
  generalize (W.alloc (.cells #[.pointer (some ⟨r, 0, none⟩), .pointer (some ⟨b, 0, none⟩)] 61)).alloc (.cells #[.int .i64 11, .int .i64 t, .int .i64 n, .int .i64 x, .bool sec, .slice la ll lc] 48) = W2 at *
  obtain ⟨PB, hPB⟩ : ∃ PB, PB = W.heap.size := ⟨_, rfl⟩
  rw [← hPB] at bx ⊢
  have HP : Hid (PB = W.heap.size) := hPB
  clear hPB
  have nF : PB ∉ F ∧ PB + 1 ∉ F := ⟨fun h => by have := HL.out _ (List.mem_append_left G h); have := HP.out; omega, fun h => by have := HL.out _ (List.mem_append_left G h); have := HP.out; omega⟩
  have p0 := bx.p0
  have o0 := bx.o0
  have o1 := bx.o1
  have o2 := bx.o2
  have o3 := bx.o3
  have hc := dequeue_any base r N S F W2 P2.rt hN
  have H2 : Hid (Pp W2 base r b N S F G ∧ Bx W2 PB (PB + 1) r b 11 t n x sec la ll lc ∧ PB ∉ F ∧ PB + 1 ∉ F) := ⟨P2, bx, nF.1, nF.2⟩
  clear P2 bx nF
  go_wp2_with fail
  refine hc.mono ?_
  rintro e W3 ⟨rfl, h1, t1⟩
  have n1 : Newer W2.heap.size F F := Newer.refl _ _
  have rf3 := H2.out.1.mid t1
  have bx3 := H2.out.2.1.touch t1 H2.out.2.2.1 H2.out.2.2.2
  have q1 := bx3.p1
  have q2 := bx3.o1
  have q3 := bx3.o2
  have q4 := bx3.o3
  have hc2 := rdequeue_any base b S G W3 rf3 (Nat.le_trans H2.out.1.ba t1.size) (by have := H2.out.1.rt.queN; omega)
  rw [show S.qs.headD 0 = S.deqV from rfl] at hc2
  have H3 : Hid _ := And.intro t1 (And.intro n1 h1)
  clear hc p0 o0 o1 o2 o3 rf3 bx3 t1 n1 h1
  go_wp2_with fail
  refine hc2.mono ?_
  rintro e W4 ⟨rfl, G', h2, t2, n2⟩
  skip
  have HG : Hid (Done W base r b N S F G W4) := (H2.out.1.step H3.out.1 H3.out.2.1 H3.out.2.2 t2 n2 h2 (H2.out.1.ok.deqS) (by omega) (by rfl)).before HT.out HL.out
  clear hc2 q1 q2 q3 q4 t2 n2 h2 H2 H3
  go_wp2
  go_ret
  exact ⟨by simp, HG.out⟩

end Go.Proofs.Ytemdmpfifcihfaa
