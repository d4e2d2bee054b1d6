/-
  Next, Has, New, Words, Clear.
-/
import Derived.Test.YtlnfhnahnmblmabDoorM6
import Derived.Laws.MakeOwn
import Derived.Maps.AppendAt
set_option linter.unusedVariables false
namespace Go.Proofs.YtlnfhnahnmblmabDoor
open Go.RowKit Go.Shelf

theorem sk_ex (M : Nat → Bool) (fl : Bool) (e : Nat) : ∀ d f, e - f = d → ∃ k, Sk M fl f e k
  | 0, f, h => ⟨e, .inl ⟨rfl, fun k h1 h2 => by omega⟩⟩
  | d + 1, f, h => by
    by_cases hM : M f = fl
    · obtain ⟨k, hk⟩ := sk_ex M fl e d (f + 1) (by omega)
      refine ⟨k, ?_⟩
      rcases hk with ⟨h1, h2⟩ | ⟨h1, h2, h3, h4⟩
      · exact .inl ⟨h1, fun j h5 h6 => by by_cases h7 : j = f; (subst h7; exact hM); exact h2 j (by omega) h6⟩
      · exact .inr ⟨by omega, h2, h3, fun j h5 h6 => by by_cases h7 : j = f; (subst h7; exact hM); exact h4 j (by omega) h6⟩
    · exact ⟨f, .inr ⟨Nat.le_refl _, by omega, by cases hf : M f <;> cases fl <;> simp_all, fun j h5 h6 => by omega⟩⟩

theorem Sk.uniq {M : Nat → Bool} {fl : Bool} {f e j k : Nat} (h : Sk M fl f e j) (h' : Sk M fl f e k) : j = k := by
  rcases h with ⟨h1, h2⟩ | ⟨h1, h2, h3, h4⟩ <;> rcases h' with ⟨k1, k2⟩ | ⟨k1, k2, k3, k4⟩
  · omega
  · rw [h2 k k1 k2] at k3; cases fl <;> cases k3
  · rw [k2 j h1 h2] at h3; cases fl <;> cases h3
  · rcases Nat.lt_trichotomy j k with h5 | h5 | h5
    · rw [k4 j h1 h5] at h3; cases fl <;> cases h3
    · exact h5
    · rw [h4 k k1 h5] at k3; cases fl <;> cases k3

theorem seek_at (M : Nat → Bool) (fl : Bool) (p : Option Addr) (L C f e k : Nat) (hk : Sk M fl f e k) (hel : e ≤ 1048576) (hf63 : f < 9223372036854775808) (w : World)
    (hc : ∀ i, 64 * i < e → i < L ∧ ∃ g, p = some ⟨g, 0, none⟩ ∧ w.cell? ⟨g, i, none⟩ = some (.int .u64 (wd M i : Nat))) (hL : Laid w) :
    Calls Tryd.prog 26 #[.slice p L C, .int .i64 f, .int .i64 e, .int .u64 (flip fl)] w fun r w' => r = .returned (.int .i64 (k : Nat)) ∧ Below w.heap.size w w' :=
  (seek_any M fl p L C f e hel hf63 w hc hL).mono fun _ _ ⟨j, hj, hr, hb⟩ => by rw [hr, hj.uniq hk]; exact ⟨rfl, hb⟩

/-- A world that has only grown. -/
structure Bel (w : World) where
  v : World
  h : Below w.heap.size w v

theorem region_below {P : Program} {id : Nat} {Q : Exit → Act → World → Prop} {a : Act} {w : World} {l : List Oper} (hm : P.follows .mixedOrders = true) (hB : Region.lexB .any l.toArray = true)
    (h : wpQuiet P l.toArray (fun w' => ∃ p : Bel w, w' = p.v) (fun a' => ∀ w', (∃ p : Bel w, w' = p.v) → Q .normal a' w') l a) : (Code.region id l.toArray true).wp P Q a w :=
  wp_region_quiet (C := fun w' => ∃ p : Bel w, w' = p.v) hm hB ⟨⟨w.drewN 1, below_drewN (Below.refl _ _) 1⟩, rfl⟩ (by simpa using h)

theorem calls_bel {P : Program} {f : FuncId} {args : Array Value} {w : World} {p : Bel w} {v : Value} (h : Calls P f args p.v fun e w' => e = .returned v ∧ Below p.v.heap.size p.v w') : Calls P f args p.v fun e w'' => e = .returned v ∧ ∃ q : Bel w, w'' = q.v :=
  h.mono fun _ w'' ⟨he, l⟩ => ⟨he, ⟨w'', p.h.trans (l.mono p.h.size)⟩, rfl⟩

theorem Mp.words {w : World} {b g n : Nat} {M : Nat → Bool} (h : Mp w b g n M) : ∀ i, 64 * i < n → i < wds n ∧ ∃ g', some (⟨g, 0, none⟩ : Addr) = some ⟨g', 0, none⟩ ∧ w.cell? ⟨g', i, none⟩ = some (.int .u64 (wd M i : Nat)) :=
  fun i hi => by
    have hw : i < wds n := by unfold wds; omega
    exact ⟨hw, g, rfl, h.at hw⟩

set_option maxRecDepth 100000 in
set_option maxHeartbeats 4000000 in
theorem next_nat (b g n f k : Nat) (M : Nat → Bool) (at' : Int) (hf : (if at' < 0 then 0 else at') = f) (hf63 : f < 9223372036854775808) (hk : Sk M false f n k) (w : World) (hM : Mp w b g n M) (hL : Laid w) :
    Calls Tryd.prog 13 #[.pointer (some ⟨b, 0, none⟩), .int .i64 at'] w fun r w' => r = .returned (.int .i64 (if k = n then -1 else (k : Int))) ∧ Below w.heap.size w w' := by
  have hn := hM.le
  have c0 : ∀ p : Bel w, p.v.cell? ⟨b, 0, none⟩ = some (.int .i64 n) := fun p => (hM.below p.h).c0
  have c1 : ∀ p : Bel w, p.v.cell? ⟨b, 1, none⟩ = some (.slice (some ⟨g, 0, none⟩) (wds n) (wds n)) := fun p => (hM.below p.h).c1
  have HS : Hid (∀ p : Bel w, Calls Tryd.prog 26 #[.slice (some ⟨g, 0, none⟩) (wds n) (wds n), .int .i64 f, .int .i64 n, .int .u64 0] p.v fun r w' => r = .returned (.int .i64 (k : Nat)) ∧ Below p.v.heap.size p.v w') := fun p => seek_at M false _ _ _ f n k hk hn hf63 p.v (hM.below p.h).words (hL.below p.h)
  have HM : Hid (Mp w b g n M) := hM
  haveI hinh : Inhabited (Bel w) := ⟨⟨w, Below.refl _ _⟩⟩
  clear hM hL
  go_enter Tryd.func13, Tryd.ntmps13
  go_wp2
  refine region_below mixed (by kernel_rfl) ?_
  by_cases h0 : at' < 0
  · rw [if_pos h0] at hf
    have hf' : f = 0 := by omega
    subst hf'
    clear hf
    simp only [Int.natCast_zero] at HS
    repeat (go_big_quiet_step (first | (go_at_call 26; exact calls_bel (HS.out _))))
    refine wpQuiet_nil ?_
    rintro w6 ⟨⟨w6, b8⟩, rfl⟩
    have k0 := (HM.out.below b8).c0
    clear c0 c1
    by_cases hkn : k = n
    · subst hkn
      go_wp2
      go_ret
      exact ⟨by simp, b8⟩
    · go_wp2
      go_ret
      exact ⟨by simp, b8⟩
  · rw [if_neg h0] at hf
    subst hf
    repeat (go_big_quiet_step (first | (go_at_call 26; exact calls_bel (HS.out _))))
    refine wpQuiet_nil ?_
    rintro w6 ⟨⟨w6, b8⟩, rfl⟩
    have k0 := (HM.out.below b8).c0
    clear c0 c1
    by_cases hkn : k = n
    · subst hkn
      go_wp2
      go_ret
      exact ⟨by simp, b8⟩
    · go_wp2
      go_ret
      exact ⟨by simp, b8⟩
theorem next_any (b g n : Nat) (M : Nat → Bool) (at' : Int) (hat : at' ≤ 9223372036854775807) (w : World) (hM : Mp w b g n M) (hL : Laid w) :
    Calls Tryd.prog 13 #[.pointer (some ⟨b, 0, none⟩), .int .i64 at'] w fun r w' => (∃ k, Sk M false at'.toNat n k ∧ r = .returned (.int .i64 (if k = n then -1 else (k : Int)))) ∧ Below w.heap.size w w' := by
  obtain ⟨k, hk⟩ := sk_ex M false n _ at'.toNat rfl
  refine (next_nat b g n at'.toNat k M at' (by split <;> omega) (by omega) hk w hM hL).mono ?_
  rintro r w' ⟨rfl, hb⟩
  exact ⟨⟨k, hk, rfl⟩, hb⟩

theorem words_any (b g n : Nat) (M : Nat → Bool) (w : World) (hM : Mp w b g n M) :
    Calls Tryd.prog 12 #[.pointer (some ⟨b, 0, none⟩)] w fun r w' => r = .returned (.int .i64 n) ∧ w = w' := by
  have c0 := hM.c0
  clear hM
  go_enter Tryd.func12, Tryd.ntmps12
  go_wp2
  go_ret
  exact ⟨rfl, rfl⟩

/-- Is this word marked? -/
def hasB (M : Nat → Bool) (a : Int) : Bool := decide (0 ≤ a) && M a.toNat

theorem has_out (b g n : Nat) (M : Nat → Bool) (a : Int) (h : a < 0 ∨ (n : Int) ≤ a) (w : World) (hM : Mp w b g n M) :
    Calls Tryd.prog 17 #[.pointer (some ⟨b, 0, none⟩), .int .i64 a] w fun r w' => r = .returned (.bool (hasB M a)) ∧ w = w' := by
  have hv : hasB M a = false := by
    rcases h with h | h
    · simp [hasB, show ¬ (0 ≤ a) by omega]
    · simp [hasB, hM.out a.toNat (by omega)]
  rw [hv]
  have c0 := hM.c0
  clear hM hv
  by_cases h0 : a < 0
  · clear h
    go_enter Tryd.func17, Tryd.ntmps17
    go_wp2
    go_ret
    exact ⟨rfl, rfl⟩
  · have h1 : (n : Int) ≤ a := by omega
    clear h
    go_enter Tryd.func17, Tryd.ntmps17
    go_wp2
    go_ret
    exact ⟨rfl, rfl⟩

theorem has_in (b g n a : Nat) (M : Nat → Bool) (h : a < n) (w : World) (hM : Mp w b g n M) :
    Calls Tryd.prog 17 #[.pointer (some ⟨b, 0, none⟩), .int .i64 a] w fun r w' => r = .returned (.bool (M a)) ∧ w = w' := by
  have hn := hM.le
  have c0 := hM.c0
  have c1 := hM.c1
  have hia : a / 64 < wds n := by unfold wds; omega
  have c2 := hM.at hia
  have hw := wd_lt M (a / 64)
  have hb : (wd M (a / 64)).testBit (a % 64) = M a := by
    rw [wd_bit, decide_eq_true (show a % 64 < 64 by omega), Bool.true_and, show 64 * (a / 64) + a % 64 = a by omega]
  clear hM
  have Hb : Hid ((wd M (a / 64)).testBit (a % 64) = M a) := hb
  clear hb
  generalize wd M (a / 64) = u at *
  go_enter Tryd.func17, Tryd.ntmps17
  go_wp2
  go_ret
  refine ⟨?_, rfl⟩
  have e : (bits BinOp.and IntKind.u64 ((u : Int) / 2 ^ (a % 64)) 1 == 1) = M a := by
    have h1 : u / 2 ^ (a % 64) ≤ u := Nat.div_le_self _ _
    have h2 := u64_and_nat (u / 2 ^ (a % 64)) 1 (by omega) (by decide)
    rw [cast2] at h2
    rw [← Hb.out, Nat.testBit_eq_decide_div_mod_eq]
    have h3 : bits BinOp.and IntKind.u64 ((u : Int) / 2 ^ (a % 64)) 1 = ((u / 2 ^ (a % 64) % 2 : Nat) : Int) := by
      rw [← Nat.and_one_is_mod]; exact h2
    rw [h3, Bool.eq_iff_iff]
    simp only [beq_iff_eq, decide_eq_true_eq]
    omega
  rw [← e]
  rfl

theorem has_any (b g n : Nat) (M : Nat → Bool) (a : Int) (w : World) (hM : Mp w b g n M) :
    Calls Tryd.prog 17 #[.pointer (some ⟨b, 0, none⟩), .int .i64 a] w fun r w' => r = .returned (.bool (hasB M a)) ∧ w = w' := by
  by_cases h : a < 0 ∨ (n : Int) ≤ a
  · exact has_out b g n M a h w hM
  · obtain ⟨k, rfl⟩ := Int.eq_ofNat_of_zero_le (show 0 ≤ a by omega)
    have : hasB M (k : Int) = M k := by simp [hasB]
    rw [this]
    exact has_in b g n k M (by omega) w hM

theorem Tryd.infoU64 : (Tryd.prog.info? 59).map (fun i => (i.zero, i.size, i.bytes)) = some (some (.int .u64 0), 1, 8) := by kernel_rfl

theorem blank_mp (w : World) (n : Nat) (hn : n ≤ 1048576) : Mp ((w.alloc (.cells (madeCells #[.int .u64 0] (wds n)) 59)).alloc (.cells #[.int .i64 n, .slice (some ⟨w.heap.size, 0, none⟩) (wds n) (wds n)] 57)) (w.heap.size + 1) w.heap.size n (fun _ => false) := by
  have h1 := World.rowIs_alloc (w.alloc (.cells (madeCells #[.int .u64 0] (wds n)) 59)) #[.int .i64 n, .slice (some ⟨w.heap.size, 0, none⟩) (wds n) (wds n)] 57 (mf n w.heap.size) (by
    intro i hi
    match i, hi with
    | 0, _ | 1, _ => rfl
    | j + 2, h => exact absurd (show j + 2 < 2 from h) (by omega))
  rw [World.size_alloc] at h1
  have h2 := (World.rowIs_made w (.int .u64 0) (wds n) 59).alloc (.cells #[.int .i64 n, .slice (some ⟨w.heap.size, 0, none⟩) (wds n) (wds n)] 57)
  exact ⟨h1, h2.congr (fun i _ => by rw [wd_none]; rfl), hn, fun _ _ => rfl⟩

set_option maxHeartbeats 1000000 in
theorem blank_any (n : Nat) (hn : n ≤ 1048576) (w : World) :
    Calls Tryd.prog 25 #[.int .i64 n] w fun r w' => ∃ b g, r = .returned (.pointer (some ⟨b, 0, none⟩)) ∧ Mp w' b g n (fun _ => false) ∧ Below w.heap.size w w' ∧ w.heap.size ≤ b ∧ w.heap.size ≤ g := by
  obtain ⟨i0, hi0, hz0, hz1, hz2⟩ := info_parts Tryd.infoU64
  have hmk : ∀ w, (Instr.makeSlice 55 (.int .i64 (((n : Int) + 64 - 1) / 64)) (.int .i64 (((n : Int) + 64 - 1) / 64))).run Tryd.prog w = .ok (.slice (some ⟨w.heap.size, 0, none⟩) (wds n) (wds n)) (w.alloc (.cells (madeCells #[.int .u64 0] (wds n)) 59)) := fun w => by
    have := run_make (P := Tryd.prog) w 55 59 i0 (.int .u64 0) Tryd.underlying55 hi0 hz0 .i64 .i64 (((n : Int) + 64 - 1) / 64) (((n : Int) + 64 - 1) / 64) (by omega) (Int.le_refl _) (by rw [hz2]; omega) (by omega)
    rw [hz1, Nat.mul_one, show (((n : Int) + 64 - 1) / 64).toNat = wds n by unfold wds; omega] at this
    exact this
  clear hi0 hz0 hz1 hz2
  go_enter Tryd.func25, Tryd.ntmps25
  go_wp2
  go_ret
  exact ⟨w.heap.size + 1, w.heap.size, rfl, blank_mp w n hn, by go_grown, by omega, Nat.le_refl _⟩

theorem new_out (n : Int) (h : n < 0 ∨ 1048576 < n) (w : World) :
    Calls Tryd.prog 9 #[.int .i64 n] w fun r w' => r = .returned (.tuple #[.pointer none, .int .i64 40]) ∧ w = w' := by
  by_cases h0 : n < 0
  · clear h
    go_enter Tryd.func9, Tryd.ntmps9
    go_wp2
    go_ret2
    exact ⟨rfl, rfl⟩
  · have h1 : 1048576 < n := by omega
    clear h
    go_enter Tryd.func9, Tryd.ntmps9
    go_wp2
    go_ret2
    exact ⟨rfl, rfl⟩

theorem new_in (n : Nat) (hn : n ≤ 1048576) (w : World) :
    Calls Tryd.prog 9 #[.int .i64 n] w fun r w' => ∃ b g, r = .returned (.tuple #[.pointer (some ⟨b, 0, none⟩), .int .i64 0]) ∧ Mp w' b g n (fun _ => false) ∧ Below w.heap.size w w' ∧ w.heap.size ≤ b ∧ w.heap.size ≤ g := by
  have hb := blank_any n hn w
  go_enter Tryd.func9, Tryd.ntmps9
  go_wp2_with fail
  refine hb.mono ?_
  rintro r w1 ⟨b, g, rfl, h1, h2, h3, h4⟩
  clear hb
  go_wp2
  go_ret2
  exact ⟨b, g, rfl, h1, h2, h3, h4⟩

end Go.Proofs.YtlnfhnahnmblmabDoor
