/-
  Images, the document's check: between, objects.
-/
import Derived.Test.YtckgcpoheodbcaaDoorPIh
set_option linter.unusedVariables false
set_option maxRecDepth 20000
namespace Go.Proofs.YtckgcpoheodbcaaDoor
open Go.RowKit Go.Shelf

set_option maxHeartbeats 2000000 in
/-- between. -/
theorem rBetween_any (lo hi : Int) (n0 : Nat) (v : Value) (l : List Int) (w : World) (hv : Lrd n0 w v .i64 l) (hl : l.length ≤ 4611686018427387904) :
    Calls Tryd.prog 56 #[v, .int .i64 lo, .int .i64 hi] w fun e w' => ∃ r : Bool, e = .returned (.bool r) ∧ w' = w ∧ (r = true ↔ allB lo hi l) := by
  obtain ⟨a, cap, rfl, hcap, hc⟩ := hv
  have Hc : Hid (∀ (f : Nat) z, l[f]? = some z → ∃ q off, a = some ⟨q, off, none⟩ ∧ q < n0 ∧ w.cell? ⟨q, off + f, none⟩ = some (.int .i64 z)) := hc
  clear hc
  go_enter Tryd.func56, Tryd.ntmps56
  go_wp2
  go_loopw [7] (fun v7 wr => ∃ k : Nat, k ≤ l.length ∧ v7 = .int .i64 k ∧ w = wr ∧ Hid (∀ z, z ∈ l.take k → inB lo hi z = true)) (fun v7 _ => l.length - (intOf v7).toNat)
  case atStart => exact ⟨0, Nat.zero_le _, rfl, rfl, (fun z hz => by simp at hz : ∀ z, z ∈ l.take 0 → inB lo hi z = true)⟩
  case round =>
    obtain ⟨k, hk, rfl, rfl, Hk⟩ := hrel
    by_cases hkl : k < l.length
    · have hz : l[k]? = some (l[k]'hkl) := List.getElem?_eq_getElem hkl
      generalize l[k]'hkl = z at hz
      obtain ⟨q, off, rfl, hq, ca⟩ := Hc.out k z hz
      have hkI : (k : Int) < (l.length : Int) := by omega
      have Hz : Hid (l[k]? = some z) := hz
      clear hz
      by_cases h1 : z < lo
      · have Hf : Hid (¬ allB lo hi l) := fun h9 => by have := h9 z (List.mem_of_getElem? Hz.out); simp [inB] at this; omega
        go_wp2
        go_ret
        first | exact ⟨false, rfl, rfl, by simpa using Hf.out⟩ | exact .inl ⟨rfl, rfl, Hf.out⟩
      · by_cases h2 : z > hi
        · have Hf : Hid (¬ allB lo hi l) := fun h9 => by have := h9 z (List.mem_of_getElem? Hz.out); simp [inB] at this; omega
          go_wp2
          go_ret
          first | exact ⟨false, rfl, rfl, by simpa using Hf.out⟩ | exact .inl ⟨rfl, rfl, Hf.out⟩
        · have Hn : Hid (∀ y, y ∈ l.take (k + 1) → inB lo hi y = true) := fun y hy => by
            rw [take_snocL Hz.out] at hy
            rcases List.mem_append.1 hy with h9 | h9
            · exact Hk.out y h9
            · simp at h9; rw [h9]; simp [inB]; omega
          go_wp2
          go_roundw
          case rel => exact ⟨k + 1, by omega, by go_num, trivial, Hn⟩
          case measure => simp [intOf]; omega
    · have hki : ¬ (k : Int) < (l.length : Int) := by omega
      have Ha : Hid (allB lo hi l) := by
        have h9 := Hk.out
        rw [List.take_of_length_le (by omega)] at h9
        exact h9
      clear Hk
      go_wp2
      go_ret
      exact .inr ⟨rfl, rfl, Ha.out⟩

theorem calls_same {f : Nat} {args : Array Value} {w : World} {p : Prop} (h : Calls Tryd.prog f args w fun e w' => ∃ r : Bool, e = .returned (.bool r) ∧ w' = w ∧ (r = true ↔ p)) :
    (p → Calls Tryd.prog f args w fun e w' => e = .returned (.bool true) ∧ w' = w) ∧ (¬ p → Calls Tryd.prog f args w fun e w' => e = .returned (.bool false) ∧ w' = w) := by
  constructor
  · intro hp
    refine h.mono ?_
    rintro e w' ⟨r, rfl, hb, hr⟩
    exact ⟨by rw [hr.2 hp], hb⟩
  · intro hp
    refine h.mono ?_
    rintro e w' ⟨r, rfl, hb, hr⟩
    cases r with
    | true => exact absurd (hr.1 rfl) hp
    | false => exact ⟨rfl, hb⟩

/-- What the document's objects asks: the same. -/
structure RO (obs : List Im.Ob) (n next k : Nat) : Prop where
  rise : Im.Rise 0 (obs.take k)
  low : ∀ o, o ∈ obs.take k → o.ser < next
  head : ∀ o, o ∈ obs.take k → hd16 o
  ptrs : ∀ o, o ∈ obs.take k → allB 0 n o.ps

theorem rise_last : ∀ (l : List Im.Ob) (n : Nat), Im.Rise n l → ∀ o, o ∈ l → o.ser ≤ (l.getLast?.map (·.ser)).getD n ∧ n < o.ser := by
  intro l
  induction l with
  | nil => intro n _ o ho; simp at ho
  | cons x r ih =>
    intro n h o ho
    simp only [Im.Rise] at h
    cases r with
    | nil =>
      simp at ho
      subst ho
      exact ⟨by simp, h.1⟩
    | cons y r' =>
      rw [List.getLast?_cons_cons]
      cases hl : (y :: r').getLast? with
      | none => simp at hl
      | some z =>
        have h9 := ih x.ser h.2
        rw [hl] at h9
        rcases List.mem_cons.1 ho with e | e
        · subst e
          have := h9 y (by simp)
          simp at this ⊢
          exact ⟨by omega, h.1⟩
        · have := h9 o e
          simp at this ⊢
          exact ⟨this.1, by omega⟩

theorem om_iff {g : Im.Gr} (h1 : 1 ≤ g.next) (h2 : g.next ≤ 4611686018427387905) (h : RO g.obs g.obs.length g.next g.obs.length) : OM g := by
  have e : g.obs.take g.obs.length = g.obs := List.take_length
  obtain ⟨a, b, c, d⟩ := h
  rw [e] at a b c d
  refine ⟨a, c, d, ?_, h2⟩
  unfold lastS
  cases hl : g.obs.getLast? with
  | none => simp; omega
  | some z => simpa using b z (List.mem_of_getLast? hl)

theorem om_next {g : Im.Gr} (h : OM g) : 1 ≤ g.next := by have := h.low; omega

theorem om_low {g : Im.Gr} (h : OM g) : ∀ o, o ∈ g.obs → o.ser < g.next := fun o ho => by
  have h1 := (rise_last g.obs 0 h.rise o ho).1
  have h2 := h.low
  unfold lastS at h2
  omega

end Go.Proofs.YtckgcpoheodbcaaDoor
