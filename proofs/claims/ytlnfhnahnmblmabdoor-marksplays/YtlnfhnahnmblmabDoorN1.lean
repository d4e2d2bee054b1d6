/-
  The reference's map: New, Has, Count, Next.
-/
import Derived.Test.YtlnfhnahnmblmabDoorM15
set_option linter.unusedVariables false
set_option maxRecDepth 20000
namespace Go.Proofs.YtlnfhnahnmblmabDoor
open Go.RowKit Go.Shelf

/-- The reference's map in block r, its truths in block h. -/
structure Rm (w : World) (r h n : Nat) (M : Nat → Bool) : Prop where
  own : w.rowIs r 53 1 (fun _ => .slice (some ⟨h, 0, none⟩) n n)
  row : w.rowIs h 4 n (fun i => .bool (M i))
  le : n ≤ 1048576
  out : ∀ k, n ≤ k → M k = false

theorem Rm.keep {w w' : World} {r h n : Nat} {M : Nat → Bool} (x : Rm w r h n M) (hr : w'.heap[r]? = w.heap[r]?) (hh : w'.heap[h]? = w.heap[h]?) : Rm w' r h n M := ⟨x.own.of_block hr, x.row.of_block hh, x.le, x.out⟩
theorem Rm.below {w w' : World} {r h n : Nat} {M : Nat → Bool} (x : Rm w r h n M) (l : Below w.heap.size w w') : Rm w' r h n M := x.keep (l.block _ x.own.lt) (l.block _ x.row.lt)
theorem Rm.touch {w w' : World} {r h n : Nat} {M : Nat → Bool} {F : List Nat} (x : Rm w r h n M) (l : Touch F w w') (hr : r ∉ F) (hh : h ∉ F) : Rm w' r h n M := x.keep (l.block _ x.own.lt hr) (l.block _ x.row.lt hh)
theorem Rm.c0 {w : World} {r h n : Nat} {M : Nat → Bool} (x : Rm w r h n M) : w.cell? ⟨r, 0, none⟩ = some (.slice (some ⟨h, 0, none⟩) n n) := x.own.cell (i := 0) (by decide)
theorem Rm.at {w : World} {r h n : Nat} {M : Nat → Bool} (x : Rm w r h n M) {i : Nat} (hi : i < n) : w.cell? ⟨h, i, none⟩ = some (.bool (M i)) := x.row.cell hi
theorem Rm.ne {w : World} {r h n : Nat} {M : Nat → Bool} (x : Rm w r h n M) : r ≠ h := by
  rintro rfl
  obtain ⟨c1, h1, -, -⟩ := x.own
  obtain ⟨c2, h2, -, -⟩ := x.row
  rw [h1] at h2
  simp only [Option.some.injEq, Obj.cells.injEq] at h2
  exact absurd h2.2.1 (by decide)

theorem rnew_out (n : Int) (h : n < 0 ∨ 1048576 < n) (w : World) :
    Calls Tryd.prog 10 #[.int .i64 n] w fun r w' => r = .returned (.tuple #[.pointer none, .int .i64 40]) ∧ w = w' := by
  by_cases h0 : n < 0
  · clear h
    go_enter Tryd.func10, Tryd.ntmps10
    go_wp2
    go_ret2
    exact ⟨rfl, rfl⟩
  · have h1 : 1048576 < n := by omega
    clear h
    go_enter Tryd.func10, Tryd.ntmps10
    go_wp2
    go_ret2
    exact ⟨rfl, rfl⟩

theorem Tryd.infoBool : (Tryd.prog.info? 4).map (fun i => (i.zero, i.size, i.bytes)) = some (some (.bool false), 1, 1) := by kernel_rfl

theorem rblank (w : World) (n : Nat) (hn : n ≤ 1048576) : Rm ((w.alloc (.cells (madeCells #[.bool false] n) 4)).alloc (.cells #[.slice (some ⟨w.heap.size, 0, none⟩) n n] 53)) (w.heap.size + 1) w.heap.size n (fun _ => false) := by
  have h1 := World.rowIs_alloc (w.alloc (.cells (madeCells #[.bool false] n) 4)) #[.slice (some ⟨w.heap.size, 0, none⟩) n n] 53 (fun _ => .slice (some ⟨w.heap.size, 0, none⟩) n n) (by
    intro i hi
    match i, hi with
    | 0, _ => rfl
    | j + 1, h => exact absurd (show j + 1 < 1 from h) (by omega))
  rw [World.size_alloc] at h1
  exact ⟨h1, (World.rowIs_made w (.bool false) n 4).alloc _, hn, fun _ _ => rfl⟩

set_option maxHeartbeats 1000000 in
theorem rnew_in (n : Nat) (hn : n ≤ 1048576) (w : World) :
    Calls Tryd.prog 10 #[.int .i64 n] w fun r w' => ∃ b g, r = .returned (.tuple #[.pointer (some ⟨b, 0, none⟩), .int .i64 0]) ∧ Rm w' b g n (fun _ => false) ∧ Below w.heap.size w w' ∧ w.heap.size ≤ b ∧ w.heap.size ≤ g := by
  obtain ⟨i0, hi0, hz0, hz1, hz2⟩ := info_parts Tryd.infoBool
  have hmk : ∀ w, (Instr.makeSlice 51 (.int .i64 n) (.int .i64 n)).run Tryd.prog w = .ok (.slice (some ⟨w.heap.size, 0, none⟩) n n) (w.alloc (.cells (madeCells #[.bool false] n) 4)) := fun w => by
    have := run_make (P := Tryd.prog) w 51 4 i0 (.bool false) Tryd.underlying51 hi0 hz0 .i64 .i64 n n (by omega) (Int.le_refl _) (by rw [hz2]; omega) (by omega)
    rw [hz1, Nat.mul_one, Int.toNat_natCast] at this
    exact this
  clear hi0 hz0 hz1 hz2
  go_enter Tryd.func10, Tryd.ntmps10
  go_wp2
  go_ret2
  exact ⟨w.heap.size + 1, w.heap.size, rfl, rblank w n hn, by go_grown, by omega, Nat.le_refl _⟩

theorem rhas_any (r h n : Nat) (M : Nat → Bool) (a : Int) (w : World) (hM : Rm w r h n M) :
    Calls Tryd.prog 18 #[.pointer (some ⟨r, 0, none⟩), .int .i64 a] w fun r w' => r = .returned (.bool (hasB M a)) ∧ w = w' := by
  have c0 := hM.c0
  have hn := hM.le
  by_cases h0 : a < 0
  · have hv : hasB M a = false := by simp [hasB, show ¬ (0 ≤ a) by omega]
    rw [hv]
    clear hM hv
    go_enter Tryd.func18, Tryd.ntmps18
    go_wp2
    go_ret
    exact ⟨rfl, rfl⟩
  · by_cases h1 : (n : Int) ≤ a
    · have hv : hasB M a = false := by simp [hasB, hM.out a.toNat (by omega)]
      rw [hv]
      clear hM hv
      go_enter Tryd.func18, Tryd.ntmps18
      go_wp2
      go_ret
      exact ⟨rfl, rfl⟩
    · obtain ⟨k, rfl⟩ := Int.eq_ofNat_of_zero_le (show 0 ≤ a by omega)
      have hk : k < n := by omega
      have c1 := hM.at hk
      have hv : hasB M (k : Int) = M k := by simp [hasB]
      rw [hv]
      clear hM hv
      generalize M k = v at *
      go_enter Tryd.func18, Tryd.ntmps18
      go_wp2
      go_ret
      exact ⟨rfl, rfl⟩

theorem rk_cut2 (M : Nat → Bool) (f e : Nat) (h : f ≤ e) : rk (cut M f e) e = rk M e - rk M f := by
  obtain ⟨d, rfl⟩ := Nat.le.dest h
  have h1 : rk (cut M f (f + d)) f = 0 := rk_none f (fun j hj => by simp [cut]; omega)
  rw [rk_add, rk_add M, h1]
  have h2 : rk (fun j => cut M f (f + d) (f + j)) d = rk (fun j => M (f + j)) d := rk_congr d (fun j hj => by simp [cut, hj])
  rw [h2]; omega

/-- A word that is marked and lies within. -/
def inB (M : Nat → Bool) (x y : Int) (k : Nat) : Bool := M k && (decide (x ≤ k) && decide ((k : Int) < y))

theorem inB_rk (M : Nat → Bool) (n : Nat) (x y : Int) : rk (inB M x y) n = rk M (min y n).toNat - rk M (max x 0).toNat := by
  by_cases h : (max x 0).toNat ≤ (min y n).toNat
  · rw [← rk_cut2 M _ _ h]
    obtain ⟨e, he⟩ : ∃ e, e = (min y (n : Int)).toNat := ⟨_, rfl⟩
    rw [← he]
    have hen : e ≤ n := by omega
    have e1 : rk (inB M x y) n = rk (cut M (max x 0).toNat e) n := rk_congr n (fun j hj => by
      unfold inB cut
      congr 1
      rw [Bool.eq_iff_iff]
      simp only [Bool.and_eq_true, decide_eq_true_eq]
      omega)
    rw [e1]
    exact rk_out (fun k hk => by simp [cut]; omega) hen
  · have h1 := rk_mono M (show (min y (n : Int)).toNat ≤ (max x 0).toNat by omega)
    rw [rk_none n (fun j hj => by
      unfold inB
      rw [show (decide (x ≤ (j : Int)) && decide ((j : Int) < y)) = false by simp; omega, Bool.and_false])]
    omega

set_option maxHeartbeats 1000000 in
theorem rcount_any (r h n : Nat) (M : Nat → Bool) (x y : Int) (w : World) (hM : Rm w r h n M) :
    Calls Tryd.prog 19 #[.pointer (some ⟨r, 0, none⟩), .int .i64 x, .int .i64 y] w fun e w' => e = .returned (.int .i64 (rk M (min y n).toNat - rk M (max x 0).toNat : Nat)) ∧ w = w' := by
  rw [← inB_rk M n x y]
  have c0 := hM.c0
  have hn := hM.le
  have HM : Hid (Rm w r h n M) := hM
  clear hM
  go_enter Tryd.func19, Tryd.ntmps19
  go_wp2
  go_loopw [7, 8] (fun c v wr => ∃ i k : Nat, v = .int .i64 i ∧ c = .int .i64 k ∧ i ≤ n ∧ k ≤ i ∧ Hid (k = rk (inB M x y) i) ∧ wr = w) (fun _ v _ => (n - intOf v).toNat)
  case atStart => exact ⟨0, 0, rfl, rfl, Nat.zero_le _, Nat.le_refl _, (rfl : 0 = rk (inB M x y) 0), rfl⟩
  case round =>
    obtain ⟨i, k, rfl, rfl, hi, hki, hk, rfl⟩ := hrel
    by_cases hlt : i < n
    · have c1 := HM.out.at hlt
      cases hMi : M i
      · rw [hMi] at c1
        have hk2 : Hid (k = rk (inB M x y) (i + 1)) := by show _ = _; simp [rk, inB, hMi, hk.out]
        clear hMi
        go_wp2
        go_roundw
        case rel => exact ⟨i + 1, k, by simp, rfl, by omega, by omega, hk2, by trivial⟩
        case measure => simp [intOf]; omega
      · rw [hMi] at c1
        by_cases d1 : x ≤ i
        · by_cases d2 : (i : Int) < y
          · have hk2 : Hid (k + 1 = rk (inB M x y) (i + 1)) := by show _ = _; simp [rk, inB, hMi, hk.out, d1, d2]
            clear hMi
            go_wp2
            go_roundw
            case rel => exact ⟨i + 1, k + 1, by simp, by simp, by omega, by omega, hk2, by trivial⟩
            case measure => simp [intOf]; omega
          · have hk2 : Hid (k = rk (inB M x y) (i + 1)) := by show _ = _; simp [rk, inB, hMi, hk.out, d2]
            clear hMi
            go_wp2
            go_roundw
            case rel => exact ⟨i + 1, k, by simp, rfl, by omega, by omega, hk2, by trivial⟩
            case measure => simp [intOf]; omega
        · have hk2 : Hid (k = rk (inB M x y) (i + 1)) := by show _ = _; simp [rk, inB, hMi, hk.out, d1]
          clear hMi
          go_wp2
          go_roundw
          case rel => exact ⟨i + 1, k, by simp, rfl, by omega, by omega, hk2, by trivial⟩
          case measure => simp [intOf]; omega
    · have : i = n := by omega
      subst this
      go_wp2
      go_ret
      exact ⟨by rw [← hk.out]; rfl, rfl⟩

set_option maxHeartbeats 1000000 in
theorem rnext_any (r h n k : Nat) (M : Nat → Bool) (x : Int) (hk : Sk M false x.toNat n k) (w : World) (hM : Rm w r h n M) :
    Calls Tryd.prog 20 #[.pointer (some ⟨r, 0, none⟩), .int .i64 x] w fun e w' => e = .returned (.int .i64 (if k = n then -1 else (k : Int))) ∧ w = w' := by
  have c0 := hM.c0
  have hn := hM.le
  have HM : Hid (Rm w r h n M) := hM
  have HK : Hid (Sk M false x.toNat n k) := hk
  clear hM hk
  go_enter Tryd.func20, Tryd.ntmps20
  go_wp2
  go_loopw [5] (fun v wr => ∃ i : Nat, v = .int .i64 i ∧ i ≤ n ∧ Hid (∀ j, j < i → x ≤ j → M j = false) ∧ wr = w) (fun v _ => (n - intOf v).toNat)
  case atStart => exact ⟨0, rfl, Nat.zero_le _, (fun j hj => absurd hj (Nat.not_lt_zero _) : ∀ j, j < 0 → x ≤ (j : Nat) → M j = false), rfl⟩
  case round =>
    obtain ⟨i, rfl, hi, hI, rfl⟩ := hrel
    by_cases hlt : i < n
    · have c1 := HM.out.at hlt
      cases hMi : M i
      · rw [hMi] at c1
        have hk2 : Hid (∀ j, j < i + 1 → x ≤ j → M j = false) := fun j hj hx => by
          by_cases e : j = i
          · subst e; exact hMi
          · exact hI.out j (by omega) hx
        clear hMi
        go_wp2
        go_roundw
        case rel => exact ⟨i + 1, by simp, by omega, hk2, by trivial⟩
        case measure => simp [intOf]; omega
      · rw [hMi] at c1
        by_cases d1 : x ≤ i
        · have hki : k = i := HK.out.uniq (.inr ⟨by omega, hlt, hMi, fun j h1 h2 => hI.out j h2 (by omega)⟩)
          clear hMi
          go_wp2
          go_ret
          exact ⟨rfl, rfl⟩
        · have hk2 : Hid (∀ j, j < i + 1 → x ≤ j → M j = false) := fun j hj hx => hI.out j (by omega) hx
          clear hMi
          go_wp2
          go_roundw
          case rel => exact ⟨i + 1, by simp, by omega, hk2, by trivial⟩
          case measure => simp [intOf]; omega
    · have hin : i = n := by omega
      subst hin
      have hki : k = i := HK.out.uniq (.inl ⟨rfl, fun j h1 h2 => hI.out j h2 (by omega)⟩)
      go_wp2
      go_ret
      exact ⟨rfl, rfl⟩
end Go.Proofs.YtlnfhnahnmblmabDoor
