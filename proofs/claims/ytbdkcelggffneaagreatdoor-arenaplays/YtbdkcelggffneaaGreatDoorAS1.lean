/-
  Walks that are left behind a stop: the taker.
-/
import Derived.Test.YtbdkcelggffneaaGreatDoorPAe
set_option linter.unusedVariables false
namespace Go.Proofs.YtbdkcelggffneaaGreatDoor.Sp
open Go.RowKit Go.Shelf

/-- What is taken of a list where one leaves behind the stop-th thing. -/
def cutS (l : List Int) (st : Int) : List Int := if 0 < st ∧ st ≤ l.length then l.take st.toNat else l

/-- Whether one leaves. -/
def endS (l : List Int) (st : Int) : Bool := decide (0 < st ∧ st ≤ l.length)

theorem cutS_no {l : List Int} {st : Int} (h : ¬ (0 < st ∧ st ≤ l.length)) : cutS l st = l ∧ endS l st = false := ⟨if_neg h, decide_eq_false h⟩

theorem cutS_yes {l pre : List Int} {st : Int} (hp : pre <+: l) (h : (pre.length : Int) = st) (h0 : pre ≠ []) : cutS l st = pre ∧ endS l st = true := by
  have hl := hp.length_le
  have hpos : 0 < pre.length := List.length_pos_iff.2 h0
  have hc : 0 < st ∧ st ≤ l.length := by omega
  refine ⟨?_, decide_eq_true hc⟩
  unfold cutS
  rw [if_pos hc, ← h, Int.toNat_natCast]
  exact (List.prefix_iff_eq_take.1 hp).symm

theorem cutS_len {l : List Int} {st : Int} {n : Nat} (hn : n + 1 ≤ l.length) (h : ¬ (0 < st ∧ st ≤ (n : Int))) : n + 1 ≤ (cutS l st).length := by
  unfold cutS
  split
  · rw [List.length_take]; omega
  · exact hn

theorem cutS_le (l : List Int) (st : Int) : (cutS l st).length ≤ l.length := by
  unfold cutS
  split
  · rw [List.length_take]; omega
  · exact Nat.le_refl _

theorem cutS_zero (l : List Int) : cutS l 0 = l := if_neg (by omega)

set_option maxHeartbeats 2000000 in
theorem walk_taker (b g ca cs : Nat) (c : Cfg) (x : Tps) (sw : Bool) (ws : Nat → Int) (S : Int) (l : List Int) (p e : Int) (hp : Past c ws (x.top S) (fst c S) p) (hwk : Walk c ws (x.top S) p l e)
    (W0 : World) (hI : It W0 b g ca cs c x sw ws S) (tb T N o : Nat) (f0 : Nat → Value) (st mo : Int) (hl : ((cutS l st).length : Int) ≤ mo) (hl2 : l.length < 1000000) (hT : Tk W0 tb T N o f0 st mo [] [] nilS nilS false) (hO : Off [tb] b g ca cs) :
    Calls Tryz.prog 85 #[.func (.func 52) #[.pointer (some ⟨tb, o, none⟩)] #[], .pointer (some ⟨ca, 0, none⟩), .pointer (some ⟨cs, 0, none⟩)] W0 fun r W' => r = .returned (.tuple #[]) ∧
      ∃ f va vh, Tk W' tb T N o f st mo (cutS l st) (hcl c ws (cutS l st)) va vh (endS l st) ∧ (∀ j, (j < o ∨ o + 5 < j) → f j = f0 j) ∧ Touch [tb] W0 W' ∧ (∀ q, va.ownBlock = some q → W0.heap.size ≤ q) ∧ (∀ q, vh.ownBlock = some q → W0.heap.size ≤ q) := by
  have hw := walk_any b g ca cs c x sw ws S l p e hp hwk W0 hI 52 (.pointer (some ⟨tb, o, none⟩))
    (fun F pre W => ¬ (0 < st ∧ st ≤ (pre.length : Int)) ∧ ∃ f va vh, Tk W tb T N o f st mo pre (hcl c ws pre) va vh false ∧ F = Tk.foot tb va vh ∧ (∀ j, (j < o ∨ o + 5 < j) → f j = f0 j) ∧ W0.heap.size ≤ W.heap.size ∧ (∀ q, va.ownBlock = some q → W0.heap.size ≤ q) ∧ (∀ q, vh.ownBlock = some q → W0.heap.size ≤ q))
    (fun pre W => (pre.length : Int) = st ∧ ∃ f va vh, Tk W tb T N o f st mo pre (hcl c ws pre) va vh true ∧ (∀ j, (j < o ∨ o + 5 < j) → f j = f0 j) ∧ (∀ q, va.ownBlock = some q → W0.heap.size ≤ q) ∧ (∀ q, vh.ownBlock = some q → W0.heap.size ≤ q)) take_enters
    (by rintro F pre W ⟨-, f, va, vh, h, rfl, -⟩ q hq; exact h.footLt q hq)
    (by rintro F pre W W' ⟨hns, f, va, vh, h, rfl, hr, hs, h1, h2⟩ l; exact ⟨hns, f, va, vh, h.below l, rfl, hr, Nat.le_trans hs l.size, h1, h2⟩)
    (by
      rintro F pre a W ⟨hns, f, va, vh, h, rfl, hr, hs, h1, h2⟩ hpre
      have hlen := pre_len hpre
      have hcl := cutS_len hlen hns
      have hmo : ¬ mo < (pre.length : Int) + 1 := by omega
      have hd : ∀ d : Bool, d = decide ((pre.length : Int) + 1 = st) → d = decide ((pre.length : Int) + 1 = st ∨ mo < (pre.length : Int) + 1) := fun d e => by rw [e]; simp [hmo]
      have hfr : ∀ (d : Bool) (va' vh' : Value) (j : Nat), (j < o ∨ o + 5 < j) → (if j = o + 4 then Value.bool d else if j = o + 1 then vh' else if j = o then va' else f j) = f0 j := fun d va' vh' j hj => by
        rw [if_neg (by omega), if_neg (by omega), if_neg (by omega)]
        exact hr j hj
      by_cases he : (pre.length : Int) + 1 = st
      · refine (take_any tb T N o f st mo pre (Go.Proofs.YtbdkcelggffneaaGreatDoor.hcl c ws pre) va vh a _ _ _ _ _ _ _ true (hd true (by simp [he])) W h (by omega)).mono ?_
        rintro r W' ⟨rfl, va', vh', hT', ht, hn1, hn2⟩
        refine ⟨ht, .inr ⟨rfl, by simp [he], _, va', vh', by rw [hcl_snoc]; exact hT', hfr true va' vh', fun q hq => ?_, fun q hq => ?_⟩⟩
        · rcases hn1 q hq with h | h
          · exact h1 q h
          · omega
        · rcases hn2 q hq with h | h
          · exact h2 q h
          · omega
      · refine (take_any tb T N o f st mo pre (Go.Proofs.YtbdkcelggffneaaGreatDoor.hcl c ws pre) va vh a _ _ _ _ _ _ _ false (hd false (by simp [he])) W h (by omega)).mono ?_
        rintro r W' ⟨rfl, va', vh', hT', ht, hn1, hn2⟩
        refine ⟨ht, .inl ⟨rfl, _, foot_newer hn1 hn2, by simp; omega, _, va', vh', by rw [hcl_snoc]; exact hT', rfl, hfr false va' vh', Nat.le_trans hs ht.size, fun q hq => ?_, fun q hq => ?_⟩⟩
        · rcases hn1 q hq with h | h
          · exact h1 q h
          · omega
        · rcases hn2 q hq with h | h
          · exact h2 q h
          · omega)
    (Tk.foot tb nilS nilS) hO ⟨fun hh => absurd hh.1 (by have := hh.2; simp at this; omega), f0, nilS, nilS, hT, rfl, fun _ _ => rfl, Nat.le_refl _, fun q hq => by simp [Value.ownBlock] at hq, fun q hq => by simp [Value.ownBlock] at hq⟩
  refine hw.mono ?_
  rintro r W' ⟨rfl, ht, ⟨F', -, hns, f, va, vh, h, -, hr, -, h1, h2⟩ | ⟨pre, hpl, hpn, hst, f, va, vh, h, hr, h1, h2⟩⟩
  · obtain ⟨e1, e2⟩ := cutS_no hns
    rw [e1, e2]
    exact ⟨rfl, f, va, vh, h, hr, ht, h1, h2⟩
  · obtain ⟨e1, e2⟩ := cutS_yes hpl hst hpn
    rw [e1, e2]
    exact ⟨rfl, f, va, vh, h, hr, ht, h1, h2⟩

end Go.Proofs.YtbdkcelggffneaaGreatDoor.Sp
