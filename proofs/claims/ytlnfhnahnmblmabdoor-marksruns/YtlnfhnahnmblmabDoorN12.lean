/-
  desk.runs.
-/
import Derived.Test.YtlnfhnahnmblmabDoorN11
set_option linter.unusedVariables false
set_option maxRecDepth 100000
namespace Go.Proofs.YtlnfhnahnmblmabDoor
open Go.RowKit Go.Shelf

/-- How many runs are told. -/
def wnt (stop : Int) (len : Nat) : Nat := if 1 ≤ stop ∧ stop < len then stop.toNat else len

theorem wnt_le (stop : Int) (len : Nat) : wnt stop len ≤ len := by unfold wnt; split <;> omega
theorem wnt_lt {stop : Int} {len k : Nat} (h : k < len) (hs : stop < 1 ∨ (k : Int) < stop) : k < wnt stop len := by unfold wnt; split <;> omega
theorem wnt_end {stop : Int} {len : Nat} (hs : stop < 1 ∨ (len : Int) < stop) : wnt stop len = len := by unfold wnt; split <;> omega
theorem wnt_stop {stop : Int} {len k : Nat} (h : k ≤ len) (h1 : 0 < k) (hs : (k : Int) = stop) : wnt stop len = k := by unfold wnt; split <;> omega

/-- What desk.runs has laid ahead of its rounds. -/
structure Dt (wB aB nB sB : Nat) (pa pd : Option Addr) (Ca Cd lo hi : Nat) (A D : List Int) (want : Nat) (stop : Int) (W : World) : Prop where
  wb : Boxed W wB 3 (.int .i64 (want : Nat))
  ab : Boxed W aB 64 (.slice pa A.length Ca)
  nb : Boxed W nB 64 (.slice pd D.length Cd)
  sb : Boxed W sB 3 (.int .i64 stop)
  la : Lsc lo hi W pa A
  ld : Lsc lo hi W pd D

theorem Dt.below {wB aB nB sB : Nat} {pa pd : Option Addr} {Ca Cd lo hi : Nat} {A D : List Int} {want : Nat} {stop : Int} {W W' : World} (h : Dt wB aB nB sB pa pd Ca Cd lo hi A D want stop W) (l : Below W.heap.size W W') : Dt wB aB nB sB pa pd Ca Cd lo hi A D want stop W' :=
  ⟨box_below h.wb l, box_below h.ab l, box_below h.nb l, box_below h.sb l, h.la.below l, h.ld.below l⟩

/-- The iterator gone through once. -/
theorem druns_once (b g n a0 cm cf cb : Nat) (M : Nat → Bool) (l : List (Nat × Nat)) (hs0 : Sk M false 0 n a0) (hat : At M n a0 l) (W : World) (hM : Mp W b g n M) (hL : Laid W)
    (hcm : W.cell? ⟨cm, 0, none⟩ = some (.pointer (some ⟨b, 0, none⟩))) (hcf : W.cell? ⟨cf, 0, none⟩ = some (.int .i64 (0 : Nat))) (hcb : W.cell? ⟨cb, 0, none⟩ = some (.int .i64 n))
    (oB kB wB aB nB sB : Nat) (h1 : oB ≠ kB) (ho : oB ≠ wB ∧ oB ≠ aB ∧ oB ≠ nB ∧ oB ≠ sB) (hkk : kB ≠ wB ∧ kB ≠ aB ∧ kB ≠ nB ∧ kB ≠ sB) (hc : oB ≠ cb ∧ kB ≠ cb)
    (hg : 0 ∉ [oB, kB] ∧ 1 ∉ [oB, kB]) (pa pd : Option Addr) (Ca Cd lo hi : Nat) (hol : oB < lo ∨ hi ≤ oB) (hkl : kB < lo ∨ hi ≤ kB) (stop : Int) (hCa : l.length ≤ Ca) (hCd : l.length ≤ Cd)
    (hJ : Dj oB kB wB aB nB sB pa pd Ca Cd lo hi (As M n) (Ds M n) (wnt stop l.length) stop 0 W) :
    Calls Tryd.prog 47 #[.func (.func 31) #[] #[.pointer (some ⟨oB, 0, none⟩), .pointer (some ⟨kB, 0, none⟩), .pointer (some ⟨wB, 0, none⟩), .pointer (some ⟨aB, 0, none⟩), .pointer (some ⟨nB, 0, none⟩), .pointer (some ⟨sB, 0, none⟩)], .pointer (some ⟨cm, 0, none⟩), .pointer (some ⟨cf, 0, none⟩), .pointer (some ⟨cb, 0, none⟩)] W
      fun r W' => r = .returned (.tuple #[]) ∧ Touch [oB, kB] W W' ∧ Dj oB kB wB aB nB sB pa pd Ca Cd lo hi (As M n) (Ds M n) (wnt stop l.length) stop (wnt stop l.length) W' := by
  obtain ⟨eA, eD⟩ := runs_whole hs0 hat
  have hn := hM.le
  have ha0 := hs0.ge (Nat.zero_le _)
  have hrl := runs_len hat ha0.2
  have lA : (As M n).length = l.length := by rw [eA]; simp
  have lD : (Ds M n).length = l.length := by rw [eD]; simp
  have hwl := wnt_le stop l.length
  refine (runs_call b g n 0 n a0 cm cf cb M l (Nat.zero_le _) (Nat.le_refl _) hs0 hat W hM hL hcm hcf hcb
    31 #[.pointer (some ⟨oB, 0, none⟩), .pointer (some ⟨kB, 0, none⟩), .pointer (some ⟨wB, 0, none⟩), .pointer (some ⟨aB, 0, none⟩), .pointer (some ⟨nB, 0, none⟩), .pointer (some ⟨sB, 0, none⟩)]
    (fun F pre X => F = [oB, kB] ∧ Dj oB kB wB aB nB sB pa pd Ca Cd lo hi (As M n) (Ds M n) (wnt stop l.length) stop pre.length X ∧ (stop < 1 ∨ (pre.length : Int) < stop))
    (fun pre X => Dj oB kB wB aB nB sB pa pd Ca Cd lo hi (As M n) (Ds M n) (wnt stop l.length) stop pre.length X ∧ (pre.length : Int) = stop)
    (enters_of Tryd.func31 (by kernel_rfl) rfl) ?_ ?_ ?_ [oB, kB] ⟨by simp; omega, hg.1, hg.2⟩ ⟨rfl, hJ, by simp; omega⟩).mono ?_
  · rintro F pre X ⟨rfl, h, -⟩ q hq
    simp only [List.mem_cons, List.not_mem_nil, or_false] at hq
    rcases hq with rfl | rfl
    · exact h.ok.lt
    · exact h.kb.lt
  · rintro F pre X X' ⟨rfl, h, hs⟩ hl
    exact ⟨rfl, h.below hl, hs⟩
  · rintro F pre x X ⟨rfl, h, hs⟩ hp
    obtain ⟨t, ht⟩ := hp
    have hlt : pre.length < l.length := by rw [← ht]; simp
    have gx : l[pre.length]? = some x := by rw [← ht]; simp
    have xA : (As M n)[pre.length]? = some (x.1 : Int) := by rw [eA, List.getElem?_map, gx]; rfl
    have xD : (Ds M n)[pre.length]? = some ((x.2 : Int) - x.1) := by rw [eD, List.getElem?_map, gx]; rfl
    refine (druns1_any oB kB wB aB nB sB h1 ho hkk pa pd Ca Cd lo hi hol hkl (As M n) (Ds M n) (wnt stop l.length) stop pre.length (wnt_lt hlt hs) x.1 ((x.2 : Int) - x.1) xA xD (by omega) (by omega) (by omega) (by omega) (by omega) X h).mono ?_
    rintro r X' ⟨tt, hr, hj⟩
    refine ⟨tt, ?_⟩
    have e : (pre ++ [x]).length = pre.length + 1 := by simp
    rcases hr with ⟨rfl, hn1⟩ | ⟨rfl, hn1⟩
    · refine .inl ⟨rfl, [oB, kB], Newer.refl _ _, rfl, by rw [e]; exact hj, ?_⟩
      rw [e]; omega
    · refine .inr ⟨rfl, by rw [e]; exact hj, ?_⟩
      rw [e]; omega
  · rintro r W' ⟨rfl, tt, ⟨F', -, rfl, hj, hs⟩ | ⟨pre, hp, hne, hj, hs⟩⟩
    · rw [wnt_end hs] at hj ⊢
      exact ⟨rfl, tt, hj⟩
    · have hlp : 0 < pre.length := List.length_pos_iff.2 hne
      rw [wnt_stop hp.length_le hlp hs] at hj ⊢
      exact ⟨rfl, tt, hj⟩
end Go.Proofs.YtlnfhnahnmblmabDoor
