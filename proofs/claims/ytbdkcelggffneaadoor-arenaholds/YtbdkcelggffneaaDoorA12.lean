/-
  A taker goes through a space.
-/
import Derived.Test.YtbdkcelggffneaaDoorA11
import Derived.Shelf.Abstract
set_option linter.unusedVariables false
namespace Go.Proofs.YtbdkcelggffneaaDoor
open Go.RowKit Go.Shelf

/-- The headers of objects, cell by cell. -/
def hcl (c : Cfg) (ws : Nat → Int) (xs : List Int) : List Value :=
  (xs.map fun a => (hcells (wat c ws (a + 1)) (kdOf (wat c ws a)) (ptOf (wat c ws a)) (rwOf (wat c ws a)) (agOf (wat c ws a)) (stOf (wat c ws a)) (hdOf (wat c ws a))).toList).flatten

theorem hcl_snoc (c : Cfg) (ws : Nat → Int) (xs : List Int) (a : Int) : hcl c ws (xs ++ [a]) = hcl c ws xs ++ (hcells (wat c ws (a + 1)) (kdOf (wat c ws a)) (ptOf (wat c ws a)) (rwOf (wat c ws a)) (agOf (wat c ws a)) (stOf (wat c ws a)) (hdOf (wat c ws a))).toList := by
  simp [hcl]

abbrev nilS : Value := .slice none 0 0

theorem take_enters : ∀ args w, (callFunc 48 args).run Tryd.prog w = .ok (.enter 48 args) w := enters_of Tryd.func48 (by kernel_rfl) rfl

theorem pre_len {l pre : List Int} {a : Int} (h : pre ++ [a] <+: l) : pre.length + 1 ≤ l.length := by
  have := h.length_le
  simpa using this

set_option maxHeartbeats 1000000 in
theorem walk_taker (b g ca cs : Nat) (c : Cfg) (x : Tps) (sw : Bool) (ws : Nat → Int) (S : Int) (l : List Int) (p e : Int) (hp : Past c ws (x.top S) (fst c S) p) (hwk : Walk c ws (x.top S) p l e)
    (W0 : World) (hI : It W0 b g ca cs c x sw ws S) (tb T N o : Nat) (f0 : Nat → Value) (mo : Int) (hl : (l.length : Int) ≤ mo) (hl2 : l.length < 1000000) (hT : Tk W0 tb T N o f0 0 mo [] [] nilS nilS false) (hO : Off [tb] b g ca cs) :
    Calls Tryd.prog 58 #[.func (.func 48) #[.pointer (some ⟨tb, o, none⟩)] #[], .pointer (some ⟨ca, 0, none⟩), .pointer (some ⟨cs, 0, none⟩)] W0 fun r W' => r = .returned (.tuple #[]) ∧
      ∃ f va vh, Tk W' tb T N o f 0 mo l (hcl c ws l) va vh false ∧ (∀ j, (j < o ∨ o + 5 < j) → f j = f0 j) ∧ Touch [tb] W0 W' ∧ (∀ q, va.ownBlock = some q → W0.heap.size ≤ q) ∧ (∀ q, vh.ownBlock = some q → W0.heap.size ≤ q) := by
  have hw := walk_any b g ca cs c x sw ws S l p e hp hwk W0 hI 48 (.pointer (some ⟨tb, o, none⟩))
    (fun F pre W => ∃ f va vh, Tk W tb T N o f 0 mo pre (hcl c ws pre) va vh false ∧ F = Tk.foot tb va vh ∧ (∀ j, (j < o ∨ o + 5 < j) → f j = f0 j) ∧ W0.heap.size ≤ W.heap.size ∧ (∀ q, va.ownBlock = some q → W0.heap.size ≤ q) ∧ (∀ q, vh.ownBlock = some q → W0.heap.size ≤ q))
    (fun _ _ => False) take_enters
    (by rintro F pre W ⟨f, va, vh, h, rfl, -⟩ q hq; exact h.footLt q hq)
    (by rintro F pre W W' ⟨f, va, vh, h, rfl, hr, hs, h1, h2⟩ l; exact ⟨f, va, vh, h.below l, rfl, hr, Nat.le_trans hs l.size, h1, h2⟩)
    (by
      rintro F pre a W ⟨f, va, vh, h, rfl, hr, hs, h1, h2⟩ hpre
      have hlen := pre_len hpre
      refine (take_any tb T N o f 0 mo pre (hcl c ws pre) va vh a _ _ _ _ _ _ _ false (by
        show false = decide _
        rw [eq_comm, decide_eq_false_iff_not]
        omega) W h (by omega)).mono ?_
      rintro r W' ⟨rfl, va', vh', hT', ht, hn1, hn2⟩
      refine ⟨ht, .inl ⟨rfl, _, foot_newer hn1 hn2, (fun j => if j = o + 4 then .bool false else if j = o + 1 then vh' else if j = o then va' else f j), va', vh', ?_, rfl, ?_, Nat.le_trans hs ht.size, ?_, ?_⟩⟩
      · rw [hcl_snoc]; exact hT'
      · intro j hj
        show (if j = o + 4 then Value.bool false else if j = o + 1 then vh' else if j = o then va' else f j) = f0 j
        rw [if_neg (by omega), if_neg (by omega), if_neg (by omega)]
        exact hr j hj
      · intro q hq
        rcases hn1 q hq with h | h
        · exact h1 q h
        · omega
      · intro q hq
        rcases hn2 q hq with h | h
        · exact h2 q h
        · omega)
    (Tk.foot tb nilS nilS) hO ⟨f0, nilS, nilS, hT, rfl, fun _ _ => rfl, Nat.le_refl _, fun q hq => by simp [Value.ownBlock] at hq, fun q hq => by simp [Value.ownBlock] at hq⟩
  refine hw.mono ?_
  rintro r W' ⟨rfl, ht, ⟨F', -, f, va, vh, h, -, hr, -, h1, h2⟩ | ⟨pre, -, -, hF⟩⟩
  · exact ⟨rfl, f, va, vh, h, hr, ht, h1, h2⟩
  · exact hF.elim

end Go.Proofs.YtbdkcelggffneaaDoor
