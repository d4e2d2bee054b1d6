/-
  The two arenas side by side: Check of any arena; the steps 17, 18, and those that do nothing.
-/
import Derived.Test.YtbdkcelggffneaaGreatDoorB36
set_option linter.unusedVariables false
set_option maxRecDepth 20000
namespace Go.Proofs.YtbdkcelggffneaaGreatDoor
open Go.RowKit Go.Shelf

theorem walk_upE {c : Cfg} {ws : Nat → Int} {top p e : Int} {l : List Int} (h : Walk c ws top p l e) : p ≤ e := by
  induction h with
  | done _ => exact Int.le_refl _
  | fail _ _ => exact Int.le_refl _
  | @obj a a' _ _ ht _ hp _ ih => have := hp.ge; have := osz_in c ws a; omega

section
variable (p a h r : Nat) (g : Nat → Nat) (c : Cfg) (x : Tps) (sw : Bool) (ws : Nat → Int)

set_option maxHeartbeats 2000000 in
theorem check_no (b q : Nat) (L : Nat → List Int) (E : Nat → Int) (t : Nat) (t1 : 1 ≤ t) (t4 : t ≤ 4) (hg : ∀ s, 1 ≤ s → s ≤ t → Goes c x ws s (L s) (E s)) (ht : ∀ s : Nat, 1 ≤ s → s < t → x.top s ≤ E s) (hE : E t < x.top t) (w : World) (hA : Ar w b q c x sw ws) (hL : Laid w) :
    Calls Tryz.prog 37 #[.pointer (some ⟨b, 0, none⟩)] w fun r w' => r = .returned (.tuple #[.int .i64 (E t), .int .i64 31]) ∧ Below w.heap.size w w' := by
  have hwo := hA.words
  have HW : Hid (∀ (s : Nat) w1, 1 ≤ s → s ≤ t → Below w.heap.size w w1 → Calls Tryz.prog 84 #[.pointer (some ⟨b, 0, none⟩), .int .i64 s] w1 fun r w' => r = .returned (.int .i64 (E s)) ∧ Below w1.heap.size w1 w') := fun s w1 s1 s4 l => by
    obtain ⟨p, hp, hwk⟩ := (hg s s1 s4).go
    have hsub := hA.sub_in s
    exact walked_any b q c x sw ws s (L s) p _ (fun y hy => by have := walk_in hwk (by have := hp.ge; omega) y hy; omega) hp hwk w1 (hA.below l) (hL.keep l)
  have HT : Hid (∀ s w1, Below w.heap.size w w1 → Calls Tryz.prog 16 #[.pointer (some ⟨b, 0, none⟩), .int .i64 s] w1 fun r w' => r = .returned (.int .i64 (x.top s)) ∧ Below w1.heap.size w1 w') := fun s w1 l => top_any b q c x sw ws s w1 (hA.below l)
  have Ht : Hid (∀ s : Nat, 1 ≤ s → s < t → x.top s ≤ E s) := ht
  clear hA hL hg ht hwo
  go_enter Tryz.func37, Tryz.ntmps37
  go_wp2
  go_loopw [4] (fun v wr => ∃ s : Nat, 1 ≤ s ∧ s ≤ t ∧ v = .int .i64 s ∧ Below w.heap.size w wr) (fun v _ => 5 - (intOf v).toNat)
  case atStart => exact ⟨1, by decide, t1, rfl, Below.refl _ _⟩
  case round =>
    obtain ⟨s, h1, h5, rfl, bl⟩ := hrel
    have hs5 : (s : Int) ≤ 4 := by omega
    go_wp2_with fail
    refine (HW.out s _ h1 h5 bl).mono ?_
    rintro e w1 ⟨rfl, l1⟩
    have b1 := bl.trans (l1.mono bl.size)
    clear bl l1
    go_wp2_with fail
    refine (HT.out s w1 b1).mono ?_
    rintro e w2 ⟨rfl, l2⟩
    have b2 := b1.trans (l2.mono b1.size)
    clear b1 l2
    by_cases h4 : s < t
    · have hge : ¬ E s < x.top s := by have := Ht.out s h1 h4; omega
      clear hE
      go_wp2
      go_roundw
      case rel => exact ⟨s + 1, by omega, by omega, by go_num, b2⟩
      case measure => simp [intOf]; omega
    · obtain rfl : s = t := by omega
      go_wp2
      go_ret2
      exact ⟨rfl, b2⟩

theorem goes_ex (w : World) (hB : Bo w p a h r g c x sw ws) : ∃ f : Nat → List Int × Int, ∀ s : Nat, Goes c x ws s (f s).1 (f s).2 := by
  have hex : ∀ s : Nat, ∃ le : List Int × Int, Goes c x ws s le.1 le.2 := fun s => by
    obtain ⟨l, ⟨⟨q, e, hp, hw⟩, hlen, -⟩, -⟩ := gone_ex p a h r g c x sw ws s w hB
    exact ⟨(l, e), ⟨⟨q, hp, hw⟩, hlen⟩⟩
  exact ⟨fun s => Classical.choose (hex s), fun s => Classical.choose_spec (hex s)⟩

theorem goes_pos (w : World) (hB : Bo w p a h r g c x sw ws) (s : Nat) (s1 : 1 ≤ s) (s4 : s ≤ 4) (l : List Int) (e : Int) (hg : Goes c x ws s l e) : 0 < e ∧ e ≤ 1000000 := by
  obtain ⟨q, hp, hw⟩ := hg.go
  have h1 := hp.ge
  have h2 := walk_upE hw
  have hsub := hB.ar.sub_in s
  have hwo := hB.ar.words
  have hok := hB.ra.ok
  have hf : 1 ≤ fst c s := by
    obtain ⟨e0, e1, s0, s1', t0, t1, -⟩ := hok
    obtain rfl | rfl | rfl | rfl : s = 1 ∨ s = 2 ∨ s = 3 ∨ s = 4 := by omega
    all_goals (simp only [fst]; omega)
  refine ⟨by omega, ?_⟩
  have : ∀ {p e : Int} {l : List Int}, Walk c ws (x.top s) p l e → p ≤ 262145 → e ≤ 1000000 := fun hk => by
    induction hk with
    | done _ => intro h; omega
    | fail _ _ => intro h; omega
    | @obj a' a'' e' l' ht hs hp' _ ih =>
      intro _
      apply ih
      have h3 := hs.2
      have h4 : ∀ {u v : Int}, Past c ws (x.top s) u v → u ≤ x.top s → v ≤ x.top s := fun hpp => by
        induction hpp with
        | done _ => intro h; exact h
        | step h5 h6 h7 _ ih2 => intro _; exact ih2 (by omega)
      have := h4 hp' (by omega)
      omega
  have h4 : ∀ {u v : Int}, Past c ws (x.top s) u v → u ≤ x.top s → v ≤ x.top s := fun hpp => by
    induction hpp with
    | done _ => intro h; exact h
    | step h5 h6 h7 _ ih2 => intro _; exact ih2 (by omega)
  have h5 := h4 hp hsub.2.1
  exact this hw (by omega)

/-- What Check answers, of both. -/
theorem checks_any (w : World) (hB : Bo w p a h r g c x sw ws) : ∃ (z n : Int), (n = 0 ∨ n = 31) ∧
    (∀ w1, Bo w1 p a h r g c x sw ws → Calls Tryz.prog 37 #[.pointer (some ⟨a, 0, none⟩)] w1 fun e w' => e = .returned (.tuple #[.int .i64 z, .int .i64 n]) ∧ Below w1.heap.size w1 w') ∧
    (∀ w1, Bo w1 p a h r g c x sw ws → Calls Tryz.prog 38 #[.pointer (some ⟨r, 0, none⟩)] w1 fun e w' => e = .returned (.tuple #[.int .i64 z, .int .i64 n]) ∧ Below w1.heap.size w1 w') := by
  obtain ⟨f, hf⟩ := goes_ex p a h r g c x sw ws w hB
  have hw := hB.ar.wat_wd
  by_cases hex : ∃ t : Nat, 1 ≤ t ∧ t ≤ 4 ∧ (f t).2 < x.top t ∧ ∀ s : Nat, 1 ≤ s → s < t → x.top s ≤ (f s).2
  · obtain ⟨t, t1, t4, hE, ht⟩ := hex
    have hpos := goes_pos p a h r g c x sw ws w hB t t1 t4 _ _ (hf t)
    exact ⟨(f t).2, 31, .inr rfl, fun w1 h1 => check_no c x sw ws a h (fun s => (f s).1) (fun s => (f s).2) t t1 t4 (fun s _ _ => hf s) ht hE w1 h1.ar h1.la,
      fun w1 h1 => rcheck_no r g c x sw ws (fun s => (f s).1) (fun s => (f s).2) t t1 t4 (fun s _ _ => hf s) ht hE hpos.1 hw w1 h1.ra⟩
  · have hall : ∀ s : Nat, 1 ≤ s → s ≤ 4 → x.top s ≤ (f s).2 := fun s => by
      induction s using Nat.strongRecOn with
      | _ s ih =>
        intro s1 s4
        rcases Int.lt_or_le (f s).2 (x.top s) with h1 | h1
        · exact absurd ⟨s, s1, s4, h1, fun u u1 u2 => ih u u2 u1 (by omega)⟩ hex
        · exact h1
    refine ⟨0, 0, .inl rfl, fun w1 h1 => check_ok a h c x sw ws (fun s hs => ?_) w1 h1.ar h1.la, fun w1 h1 => rcheck_yes r g c x sw ws (fun s => (f s).1) (fun s => (f s).2) (fun s _ _ => hf s) hall hw w1 h1.ra⟩
    obtain ⟨n, rfl⟩ : ∃ n : Nat, s = n := ⟨s.toNat, by omega⟩
    obtain ⟨q, hp, hwk⟩ := (hf n).go
    have hge := hall n (by omega) (by omega)
    have hle : ∀ {u v : Int}, Past c ws (x.top n) u v → u ≤ x.top n → v ≤ x.top n := fun hpp => by
      induction hpp with
      | done _ => intro h; exact h
      | step h5 h6 h7 _ ih2 => intro _; exact ih2 (by omega)
    have hwe : ∀ {u v : Int} {l : List Int}, Walk c ws (x.top n) u l v → u ≤ x.top n → v ≤ x.top n := fun hk => by
      induction hk with
      | done _ => intro h; exact h
      | fail _ _ => intro h; exact h
      | @obj a' a'' e' l' ht hs hp' _ ih => intro _; exact ih (hle hp' (by have := hs.2; omega))
    have hsub := hB.ar.sub_in n
    have he : (f n).2 = x.top n := by have := hwe hwk (hle hp hsub.2.1); omega
    exact ⟨(f n).1, q, hp, by rw [← he]; rw [← he] at hwk; rw [he] at hwk ⊢; exact hwk⟩

set_option maxHeartbeats 2000000 in
theorem step17_any (o : Opg) (ho : o.k = 17) (w : World) (hB : Bo w p a h r g c x sw ws) :
    Calls Tryz.prog 7 #[.pointer (some ⟨p, 0, none⟩), o.val] w fun e w' => e = .returned (.bool true) ∧ Below w.heap.size w w' := by
  have l0 : Hid (Below w.heap.size w (w.alloc (.cells o.cells 33))) := Below.alloc (Below.refl _ _) (Nat.le_refl _) _
  have k0 : (w.alloc (.cells o.cells 33)).cell? ⟨w.heap.size, 0, none⟩ = some (.int .i64 17) := by rw [(Ob.new w o).cell 0, ← ho]; rfl
  have k2 : (w.alloc (.cells o.cells 33)).cell? ⟨w.heap.size, 2, none⟩ = some (.int .i64 o.sp) := (Ob.new w o).cell 2
  have k5 : (w.alloc (.cells o.cells 33)).cell? ⟨w.heap.size, 5, none⟩ = some (.int .i64 o.n) := (Ob.new w o).cell 5
  have h1 := lwalk_any p a h r g c x sw ws o.sp o.n _ (hB.below l0.out)
  clear hB
  go_enter Tryz.func7, Tryz.ntmps7
  go_upto_region 1 with fail
  generalize w.alloc (.cells o.cells 33) = v at *
  go_wp2_with fail
  refine h1.mono ?_
  rintro e w1 ⟨rfl, l1⟩
  have l2 : Hid (Below w.heap.size w w1) := l0.out.trans (l1.mono l0.out.size)
  clear h1 k0 k2 k5 l1
  go_wp2
  go_ret
  exact ⟨rfl, l2.out⟩

set_option maxHeartbeats 2000000 in
theorem step18g_any (o : Opg) (ho : o.k = 18) (w : World) (hB : Bo w p a h r g c x sw ws) :
    Calls Tryz.prog 7 #[.pointer (some ⟨p, 0, none⟩), o.val] w fun e w' => e = .returned (.bool true) ∧ Below w.heap.size w w' := by
  have l0 : Hid (Below w.heap.size w (w.alloc (.cells o.cells 33))) := Below.alloc (Below.refl _ _) (Nat.le_refl _) _
  have kk : (w.alloc (.cells o.cells 33)).cell? ⟨w.heap.size, 0, none⟩ = some (.int .i64 18) := by rw [(Ob.new w o).cell 0, ← ho]; rfl
  obtain ⟨z, n, hn, h1, h2⟩ := checks_any p a h r g c x sw ws w hB
  have hB0 := hB.below l0.out
  have HB : Hid (Bo (w.alloc (.cells o.cells 33)) p a h r g c x sw ws) := hB0
  have c0 := hB0.c0
  have h3 := h1 _ hB0
  have H2 : Hid (∀ w1, Bo w1 p a h r g c x sw ws → Calls Tryz.prog 38 #[.pointer (some ⟨r, 0, none⟩)] w1 fun e w' => e = .returned (.tuple #[.int .i64 z, .int .i64 n]) ∧ Below w1.heap.size w1 w') := h2
  clear hB hB0 h1 h2 hn
  go_enter Tryz.func7, Tryz.ntmps7
  go_upto_region 1 with fail
  generalize w.alloc (.cells o.cells 33) = v at *
  go_wp2_with fail
  refine h3.mono ?_
  rintro e w1 ⟨rfl, l1⟩
  have c1 := (HB.out.below l1).c1
  have HB1 := HB.out.below l1
  clear h3 kk c0
  go_wp2_with fail
  refine (H2.out w1 HB1).mono ?_
  rintro e w2 ⟨rfl, l2⟩
  have l3 : Hid (Below v.heap.size v w2) := l1.trans (l2.mono l1.size)
  clear l1 l2 c1 H2 HB1
  go_wp2
  go_ret
  exact ⟨by simp, l0.out.trans (l3.out.mono l0.out.size)⟩
end

end Go.Proofs.YtbdkcelggffneaaGreatDoor
