/-
  pair.plays: the calls that answer lists.
-/
import Derived.Test.YtemdmpfifcihfaaR57
set_option linter.unusedVariables false
namespace Go.Proofs.Ytemdmpfifcihfaa
open Go.RowKit

theorem frames_len {S : Sta} (h : S.Ok) (t : Int) : (S.frames t).length ≤ 4096 := by
  unfold Sta.frames
  split
  · have := h.frames (t := t.toNat) (by omega); omega
  · simp

set_option maxRecDepth 20000 in
set_option maxHeartbeats 4000000 in
theorem p5_handles (base r b N : Nat) (S : Sta) (F G : List Nat) (t n x : Int) (sec : Bool) (la : Option Addr) (ll lc : Nat) (W : World) (P : Pp W base r b N S F G) :
    Calls Try.prog 31 #[.agg #[.pointer (some ⟨r, 0, none⟩), .pointer (some ⟨b, 0, none⟩)], .agg #[.int .i64 9, .int .i64 t, .int .i64 n, .int .i64 x, .bool sec, .slice la ll lc]] W fun e W' => e = .returned (.bool true) ∧ Done W base r b N S F G W' := by
  have tt : Touch [] W ((W.alloc (.cells #[.pointer (some ⟨r, 0, none⟩), .pointer (some ⟨b, 0, none⟩)] 61)).alloc (.cells #[.int .i64 9, .int .i64 t, .int .i64 n, .int .i64 x, .bool sec, .slice la ll lc] 48)) := (Touch.alloc _ _ _).trans (Touch.alloc _ _ _)
  have bx := Bx.new W r b 9 t n x sec la ll lc
  have P2 := P.nil tt
  have HL : Hid (∀ k, k ∈ F ++ G → k < W.heap.size) := fun k hk => (P.lt k hk).2
  have HT : Hid _ := tt
  have hq := P.rt.queN
  clear tt P
  go_enter Try.func31, Try.ntmps31
  go_upto_region 29 with fail
  generalize (W.alloc (.cells #[.pointer (some ⟨r, 0, none⟩), .pointer (some ⟨b, 0, none⟩)] 61)).alloc (.cells #[.int .i64 9, .int .i64 t, .int .i64 n, .int .i64 x, .bool sec, .slice la ll lc] 48) = W2 at *
  obtain ⟨PB, hPB⟩ : ∃ PB, PB = W.heap.size := ⟨_, rfl⟩
  rw [← hPB] at bx ⊢
  have nF : PB ∉ F ∧ PB + 1 ∉ F := ⟨fun h => by have := HL.out _ (List.mem_append_left G h); omega, fun h => by have := HL.out _ (List.mem_append_left G h); omega⟩
  clear hPB
  have p0 := bx.p0
  have p1 := bx.p1
  have o1 := bx.o1
  have P3 := P2.nil (Touch.drew [] W2)
  have hc := handles_any base r N S F W2.drew P3.rt P3.ok
  have H2 : Hid (Pp W2 base r b N S F G ∧ Pp W2.drew base r b N S F G) := ⟨P2, P3⟩
  have HBx : Hid (Bx W2 PB (PB + 1) r b 9 t n x sec la ll lc ∧ PB ∉ F ∧ PB + 1 ∉ F) := ⟨bx, nF.1, nF.2⟩
  have Hsm : Hid (∀ (w' : World) (va vb : Value), SliceIs w'.heap.size w' va (tolds S.hs) → SliceIs w'.heap.size w' vb (tolds S.hs) → Calls Try.prog 28 #[va, vb] w' fun e w'' => e = .returned (.bool true) ∧ ∃ nq, w'' = w'.drewN nq) := fun w' va vb h1 h2 => by
    have := same_any va vb _ _ w' h1 h2 (by rw [tolds_length]; have := H2.out.1.ok.hn; omega)
    simpa using this
  clear P2 P3 bx nF
  go_region_held3 (fun w' => w'.cell? ⟨PB, 0, none⟩ = some (.pointer (some ⟨r, 0, none⟩)) ∧ w'.cell? ⟨PB, 1, none⟩ = some (.pointer (some ⟨b, 0, none⟩))) (first | go_keep | (exact And.intro ‹_› ‹_›) | (exact And.intro ‹_› (And.intro ‹_› ‹_›))) (first | (go_at_call 13; refine hc.mono ?_; rintro e w3 ⟨v3, rfl, o3, b3⟩; have t3' : Touch F W2.drew w3 := Touch.of_below b3 F; have h3 := H2.out.2.rt.nil (Touch.of_below b3 []); have bx3 := HBx.out.1.touch ((Touch.drew F W2).trans t3') HBx.out.2.1 HBx.out.2.2; have k0 := bx3.p0; have k1 := bx3.p1; have k2 := bx3.o1; have rf3 := H2.out.2.mid t3'; have hc3 := rhandles_any base b S G w3 rf3 H2.out.1.ok) | (go_at_call 58; refine hc3.mono ?_; rintro e w4 ⟨v4, rfl, o4, b4⟩; have bx4 := bx3.touch (Touch.of_below b4 []) (by simp) (by simp); have m0 := bx4.p0; have m1 := bx4.p1; have m2 := bx4.o1; have i3 := is_keep (own_is o3) b4; have i4 := own_is o4) | (go_at_call 28; refine (Hsm.out _ _ _ i3 i4).mono ?_; rintro e w5 ⟨rfl, nq, rfl⟩))
  have HG : Hid (Done W base r b N S F G (w4.drewN nq)) := (H2.out.1.step ((Touch.drew F W2).trans t3') (Newer.refl _ _) h3 ((Touch.of_below b4 G).trans (Touch.drewN _ _ _)) (Newer.refl _ _) ((rf3.nil (Touch.of_below b4 [])).nil (Touch.drewN _ _ _)) H2.out.1.ok (by omega) rfl).before HT.out HL.out
  clear hc hc3 o3 o4 i3 i4 bx3 bx4 k0 k1 k2 m0 m1 m2 rf3 t3' h3 H2 HBx Hsm p0 p1 o1
  go_wp2
  go_ret
  exact ⟨rfl, HG.out⟩

set_option maxRecDepth 20000 in
set_option maxHeartbeats 4000000 in
theorem p5_frames (base r b N : Nat) (S : Sta) (F G : List Nat) (t n x : Int) (sec : Bool) (la : Option Addr) (ll lc : Nat) (W : World) (P : Pp W base r b N S F G) :
    Calls Try.prog 31 #[.agg #[.pointer (some ⟨r, 0, none⟩), .pointer (some ⟨b, 0, none⟩)], .agg #[.int .i64 3, .int .i64 t, .int .i64 n, .int .i64 x, .bool sec, .slice la ll lc]] W fun e W' => e = .returned (.bool true) ∧ Done W base r b N S F G W' := by
  have tt : Touch [] W ((W.alloc (.cells #[.pointer (some ⟨r, 0, none⟩), .pointer (some ⟨b, 0, none⟩)] 61)).alloc (.cells #[.int .i64 3, .int .i64 t, .int .i64 n, .int .i64 x, .bool sec, .slice la ll lc] 48)) := (Touch.alloc _ _ _).trans (Touch.alloc _ _ _)
  have bx := Bx.new W r b 3 t n x sec la ll lc
  have P2 := P.nil tt
  have HL : Hid (∀ k, k ∈ F ++ G → k < W.heap.size) := fun k hk => (P.lt k hk).2
  have HT : Hid _ := tt
  have hq := P.rt.queN
  clear tt P
  go_enter Try.func31, Try.ntmps31
  go_upto_region 9 with fail
  generalize (W.alloc (.cells #[.pointer (some ⟨r, 0, none⟩), .pointer (some ⟨b, 0, none⟩)] 61)).alloc (.cells #[.int .i64 3, .int .i64 t, .int .i64 n, .int .i64 x, .bool sec, .slice la ll lc] 48) = W2 at *
  obtain ⟨PB, hPB⟩ : ∃ PB, PB = W.heap.size := ⟨_, rfl⟩
  rw [← hPB] at bx ⊢
  have nF : PB ∉ F ∧ PB + 1 ∉ F := ⟨fun h => by have := HL.out _ (List.mem_append_left G h); omega, fun h => by have := HL.out _ (List.mem_append_left G h); omega⟩
  clear hPB
  have p0 := bx.p0
  have p1 := bx.p1
  have o1 := bx.o1
  have P3 := P2.nil (Touch.drew [] W2)
  have hc := frames_any base r N t S F W2.drew P3.rt P3.ok
  have H2 : Hid (Pp W2 base r b N S F G ∧ Pp W2.drew base r b N S F G) := ⟨P2, P3⟩
  have HBx : Hid (Bx W2 PB (PB + 1) r b 3 t n x sec la ll lc ∧ PB ∉ F ∧ PB + 1 ∉ F) := ⟨bx, nF.1, nF.2⟩
  have Hsm : Hid (∀ (w' : World) (va vb : Value), SliceIs w'.heap.size w' va (S.frames t) → SliceIs w'.heap.size w' vb (S.frames t) → Calls Try.prog 28 #[va, vb] w' fun e w'' => e = .returned (.bool true) ∧ ∃ nq, w'' = w'.drewN nq) := fun w' va vb h1 h2 => by
    have := same_any va vb _ _ w' h1 h2 (by have := frames_len H2.out.1.ok t; omega)
    simpa using this
  clear P2 P3 bx nF
  go_region_held3 (fun w' => w'.cell? ⟨PB, 0, none⟩ = some (.pointer (some ⟨r, 0, none⟩)) ∧ w'.cell? ⟨PB, 1, none⟩ = some (.pointer (some ⟨b, 0, none⟩)) ∧ w'.cell? ⟨PB + 1, 1, none⟩ = some (.int .i64 t)) (first | go_keep | (exact And.intro ‹_› ‹_›) | (exact And.intro ‹_› (And.intro ‹_› ‹_›))) (first | (go_at_call 20; refine hc.mono ?_; rintro e w3 ⟨v3, rfl, o3, b3⟩; have t3' : Touch F W2.drew w3 := Touch.of_below b3 F; have h3 := H2.out.2.rt.nil (Touch.of_below b3 []); have bx3 := HBx.out.1.touch ((Touch.drew F W2).trans t3') HBx.out.2.1 HBx.out.2.2; have k0 := bx3.p0; have k1 := bx3.p1; have k2 := bx3.o1; have rf3 := H2.out.2.mid t3'; have hc3 := rframes_any base b t S G w3 rf3 H2.out.1.ok) | (go_at_call 52; refine hc3.mono ?_; rintro e w4 ⟨v4, rfl, o4, b4⟩; have bx4 := bx3.touch (Touch.of_below b4 []) (by simp) (by simp); have m0 := bx4.p0; have m1 := bx4.p1; have m2 := bx4.o1; have i3 := is_keep (own_is o3) b4; have i4 := own_is o4) | (go_at_call 28; refine (Hsm.out _ _ _ i3 i4).mono ?_; rintro e w5 ⟨rfl, nq, rfl⟩))
  have HG : Hid (Done W base r b N S F G (w4.drewN nq)) := (H2.out.1.step ((Touch.drew F W2).trans t3') (Newer.refl _ _) h3 ((Touch.of_below b4 G).trans (Touch.drewN _ _ _)) (Newer.refl _ _) ((rf3.nil (Touch.of_below b4 [])).nil (Touch.drewN _ _ _)) H2.out.1.ok (by omega) rfl).before HT.out HL.out
  clear hc hc3 o3 o4 i3 i4 bx3 bx4 k0 k1 k2 m0 m1 m2 rf3 t3' h3 H2 HBx Hsm p0 p1 o1
  go_wp2
  go_ret
  exact ⟨rfl, HG.out⟩

set_option maxRecDepth 20000 in
set_option maxHeartbeats 4000000 in
theorem p5_queue (base r b N : Nat) (S : Sta) (F G : List Nat) (t n x : Int) (sec : Bool) (la : Option Addr) (ll lc : Nat) (hN : N < 8796092982208) (W : World) (P : Pp W base r b N S F G) :
    Calls Try.prog 31 #[.agg #[.pointer (some ⟨r, 0, none⟩), .pointer (some ⟨b, 0, none⟩)], .agg #[.int .i64 12, .int .i64 t, .int .i64 n, .int .i64 x, .bool sec, .slice la ll lc]] W fun e W' => e = .returned (.bool true) ∧ Done W base r b N S F G W' := by
  have tt : Touch [] W ((W.alloc (.cells #[.pointer (some ⟨r, 0, none⟩), .pointer (some ⟨b, 0, none⟩)] 61)).alloc (.cells #[.int .i64 12, .int .i64 t, .int .i64 n, .int .i64 x, .bool sec, .slice la ll lc] 48)) := (Touch.alloc _ _ _).trans (Touch.alloc _ _ _)
  have bx := Bx.new W r b 12 t n x sec la ll lc
  have P2 := P.nil tt
  have HL : Hid (∀ k, k ∈ F ++ G → k < W.heap.size) := fun k hk => (P.lt k hk).2
  have HT : Hid _ := tt
  have hq := P.rt.queN
  clear tt P
  go_enter Try.func31, Try.ntmps31
  go_upto_region 38 with fail
  generalize (W.alloc (.cells #[.pointer (some ⟨r, 0, none⟩), .pointer (some ⟨b, 0, none⟩)] 61)).alloc (.cells #[.int .i64 12, .int .i64 t, .int .i64 n, .int .i64 x, .bool sec, .slice la ll lc] 48) = W2 at *
  obtain ⟨PB, hPB⟩ : ∃ PB, PB = W.heap.size := ⟨_, rfl⟩
  rw [← hPB] at bx ⊢
  have nF : PB ∉ F ∧ PB + 1 ∉ F := ⟨fun h => by have := HL.out _ (List.mem_append_left G h); omega, fun h => by have := HL.out _ (List.mem_append_left G h); omega⟩
  clear hPB
  have p0 := bx.p0
  have p1 := bx.p1
  have o1 := bx.o1
  have P3 := P2.nil (Touch.drew [] W2)
  have hc := queue_any base r N S F W2.drew P3.rt (by omega)
  have H2 : Hid (Pp W2 base r b N S F G ∧ Pp W2.drew base r b N S F G) := ⟨P2, P3⟩
  have HBx : Hid (Bx W2 PB (PB + 1) r b 12 t n x sec la ll lc ∧ PB ∉ F ∧ PB + 1 ∉ F) := ⟨bx, nF.1, nF.2⟩
  have Hsm : Hid (∀ (w' : World) (va vb : Value), SliceIs w'.heap.size w' va S.qs → SliceIs w'.heap.size w' vb S.qs → Calls Try.prog 28 #[va, vb] w' fun e w'' => e = .returned (.bool true) ∧ ∃ nq, w'' = w'.drewN nq) := fun w' va vb h1 h2 => by
    have := same_any va vb _ _ w' h1 h2 (by omega)
    simpa using this
  clear P2 P3 bx nF
  go_region_held3 (fun w' => w'.cell? ⟨PB, 0, none⟩ = some (.pointer (some ⟨r, 0, none⟩)) ∧ w'.cell? ⟨PB, 1, none⟩ = some (.pointer (some ⟨b, 0, none⟩))) (first | go_keep | (exact And.intro ‹_› ‹_›) | (exact And.intro ‹_› (And.intro ‹_› ‹_›))) (first | (go_at_call 12; refine hc.mono ?_; rintro e w3 ⟨v3, rfl, o3, b3⟩; have t3' : Touch F W2.drew w3 := Touch.of_below b3 F; have h3 := H2.out.2.rt.nil (Touch.of_below b3 []); have bx3 := HBx.out.1.touch ((Touch.drew F W2).trans t3') HBx.out.2.1 HBx.out.2.2; have k0 := bx3.p0; have k1 := bx3.p1; have k2 := bx3.o1; have rf3 := H2.out.2.mid t3'; have hc3 := rqueue_any base b S G w3 rf3 (by omega)) | (go_at_call 61; refine hc3.mono ?_; rintro e w4 ⟨v4, rfl, o4, b4⟩; have bx4 := bx3.touch (Touch.of_below b4 []) (by simp) (by simp); have m0 := bx4.p0; have m1 := bx4.p1; have m2 := bx4.o1; have i3 := is_keep (own_is o3) b4; have i4 := own_is o4) | (go_at_call 28; refine (Hsm.out _ _ _ i3 i4).mono ?_; rintro e w5 ⟨rfl, nq, rfl⟩))
  have HG : Hid (Done W base r b N S F G (w4.drewN nq)) := (H2.out.1.step ((Touch.drew F W2).trans t3') (Newer.refl _ _) h3 ((Touch.of_below b4 G).trans (Touch.drewN _ _ _)) (Newer.refl _ _) ((rf3.nil (Touch.of_below b4 [])).nil (Touch.drewN _ _ _)) H2.out.1.ok (by omega) rfl).before HT.out HL.out
  clear hc hc3 o3 o4 i3 i4 bx3 bx4 k0 k1 k2 m0 m1 m2 rf3 t3' h3 H2 HBx Hsm p0 p1 o1
  go_wp2
  go_ret
  exact ⟨rfl, HG.out⟩

set_option maxRecDepth 20000 in
set_option maxHeartbeats 4000000 in
theorem p5_all (base r b N : Nat) (S : Sta) (F G : List Nat) (t n x : Int) (sec : Bool) (la : Option Addr) (ll lc : Nat) (hN : N < 8796092982208) (W : World) (P : Pp W base r b N S F G) :
    Calls Try.prog 31 #[.agg #[.pointer (some ⟨r, 0, none⟩), .pointer (some ⟨b, 0, none⟩)], .agg #[.int .i64 13, .int .i64 t, .int .i64 n, .int .i64 x, .bool sec, .slice la ll lc]] W fun e W' => e = .returned (.bool true) ∧ Done W base r b N S F G W' := by
  have tt : Touch [] W ((W.alloc (.cells #[.pointer (some ⟨r, 0, none⟩), .pointer (some ⟨b, 0, none⟩)] 61)).alloc (.cells #[.int .i64 13, .int .i64 t, .int .i64 n, .int .i64 x, .bool sec, .slice la ll lc] 48)) := (Touch.alloc _ _ _).trans (Touch.alloc _ _ _)
  have bx := Bx.new W r b 13 t n x sec la ll lc
  have P2 := P.nil tt
  have HL : Hid (∀ k, k ∈ F ++ G → k < W.heap.size) := fun k hk => (P.lt k hk).2
  have HT : Hid _ := tt
  have hq := P.rt.queN
  clear tt P
  go_enter Try.func31, Try.ntmps31
  go_upto_region 40 with fail
  generalize (W.alloc (.cells #[.pointer (some ⟨r, 0, none⟩), .pointer (some ⟨b, 0, none⟩)] 61)).alloc (.cells #[.int .i64 13, .int .i64 t, .int .i64 n, .int .i64 x, .bool sec, .slice la ll lc] 48) = W2 at *
  obtain ⟨PB, hPB⟩ : ∃ PB, PB = W.heap.size := ⟨_, rfl⟩
  rw [← hPB] at bx ⊢
  have nF : PB ∉ F ∧ PB + 1 ∉ F := ⟨fun h => by have := HL.out _ (List.mem_append_left G h); omega, fun h => by have := HL.out _ (List.mem_append_left G h); omega⟩
  clear hPB
  have p0 := bx.p0
  have p1 := bx.p1
  have o1 := bx.o1
  have P3 := P2.nil (Touch.drew [] W2)
  have hc := all_any base r N S F W2.drew P3.rt P3.ok hN
  have H2 : Hid (Pp W2 base r b N S F G ∧ Pp W2.drew base r b N S F G) := ⟨P2, P3⟩
  have HBx : Hid (Bx W2 PB (PB + 1) r b 13 t n x sec la ll lc ∧ PB ∉ F ∧ PB + 1 ∉ F) := ⟨bx, nF.1, nF.2⟩
  have Hsm : Hid (∀ (w' : World) (va vb : Value), SliceIs w'.heap.size w' va S.all → SliceIs w'.heap.size w' vb S.all → Calls Try.prog 28 #[va, vb] w' fun e w'' => e = .returned (.bool true) ∧ ∃ nq, w'' = w'.drewN nq) := fun w' va vb h1 h2 => by
    have := same_any va vb _ _ w' h1 h2 (by have := all_len H2.out.1.ok; omega)
    simpa using this
  clear P2 P3 bx nF
  go_region_held3 (fun w' => w'.cell? ⟨PB, 0, none⟩ = some (.pointer (some ⟨r, 0, none⟩)) ∧ w'.cell? ⟨PB, 1, none⟩ = some (.pointer (some ⟨b, 0, none⟩))) (first | go_keep | (exact And.intro ‹_› ‹_›) | (exact And.intro ‹_› (And.intro ‹_› ‹_›))) (first | (go_at_call 11; refine hc.mono ?_; rintro e w3 ⟨v3, rfl, o3, h3, t3⟩; have t3' : Touch F W2.drew w3 := t3; have bx3 := HBx.out.1.touch ((Touch.drew F W2).trans t3') HBx.out.2.1 HBx.out.2.2; have k0 := bx3.p0; have k1 := bx3.p1; have k2 := bx3.o1; have rf3 := H2.out.2.mid t3'; have hc3 := rall_any base b S G w3 rf3 H2.out.1.ok (by omega)) | (go_at_call 62; refine hc3.mono ?_; rintro e w4 ⟨v4, rfl, o4, b4⟩; have bx4 := bx3.touch (Touch.of_below b4 []) (by simp) (by simp); have m0 := bx4.p0; have m1 := bx4.p1; have m2 := bx4.o1; have i3 := is_keep (own_is o3) b4; have i4 := own_is o4) | (go_at_call 28; refine (Hsm.out _ _ _ i3 i4).mono ?_; rintro e w5 ⟨rfl, nq, rfl⟩))
  have HG : Hid (Done W base r b N S F G (w4.drewN nq)) := (H2.out.1.step ((Touch.drew F W2).trans t3') (Newer.refl _ _) h3 ((Touch.of_below b4 G).trans (Touch.drewN _ _ _)) (Newer.refl _ _) ((rf3.nil (Touch.of_below b4 [])).nil (Touch.drewN _ _ _)) H2.out.1.ok (by omega) rfl).before HT.out HL.out
  clear hc hc3 o3 o4 i3 i4 bx3 bx4 k0 k1 k2 m0 m1 m2 rf3 t3' h3 H2 HBx Hsm p0 p1 o1
  go_wp2
  go_ret
  exact ⟨rfl, HG.out⟩

end Go.Proofs.Ytemdmpfifcihfaa
