/-
  Words are written, taken, given back.
-/
import Derived.Test.YtpiemfchjlihfaaDoorA1
import Derived.Lib.SliceRun
set_option linter.unusedVariables false
namespace Go.Proofs.YtpiemfchjlihfaaDoor
open Go.RowKit

/-- A word is written. -/
def upd (ws : Nat → Int) (n : Nat) (v : Int) : Nat → Int := fun j => if j = n then v else ws j

/-- Words become 0. -/
def zer (ws : Nat → Int) (o n : Nat) : Nat → Int := fun j => if o ≤ j ∧ j < o + n then 0 else ws j

theorem Ar.set {w : World} {b g : Nat} {c : Cfg} {x : Tps} {sw : Bool} {ws : Nat → Int} (h : Ar w b g c x sw ws) (n : Nat) (v : Int) (hv : Wd v) : Ar (w.setCell ⟨g, n, none⟩ (.int .u64 v)) b g c x sw (upd ws n v) := by
  have hn := h.ne
  obtain ⟨o, r, ok, wd, a, b', d, e, f, g', i, j⟩ := h
  refine ⟨o.setOther hn _, (r.set n _).congr (fun j _ => ?_), ok, fun j => ?_, a, b', d, e, f, g', i, j⟩
  · unfold upd; split <;> rfl
  · unfold upd; split
    · exact hv
    · exact wd j

theorem Ar.zero {w : World} {b g : Nat} {c : Cfg} {x : Tps} {sw : Bool} {ws : Nat → Int} (h : Ar w b g c x sw ws) (o n : Nat) : Ar (w.setCells g o (List.replicate n (.int .u64 0))) b g c x sw (zer ws o n) := by
  have hn := h.ne
  obtain ⟨ow, r, ok, wd, a, b', d, e, f, g', i, j⟩ := h
  refine ⟨rowIs_setCells_other hn _ _ _ ow, (rowIs_setCells _ o _ _ r).congr (fun j _ => ?_), ok, fun j => ?_, a, b', d, e, f, g', i, j⟩
  · simp only [List.length_replicate]
    unfold zer
    by_cases hj : o ≤ j ∧ j < o + n
    · rw [if_pos hj, if_pos hj, List.getElem?_replicate, if_pos (by omega)]; rfl
    · rw [if_neg hj, if_neg hj]
  · unfold zer; split
    · exact ⟨by decide, by decide⟩
    · exact wd j

theorem wat_upd (c : Cfg) (ws : Nat → Int) (n : Nat) (v i : Int) (hn : (n : Int) < c.words) : wat c (upd ws n v) i = if i = n then v else wat c ws i := by
  unfold wat upd
  by_cases h : 0 ≤ i ∧ i < c.words
  · rw [if_pos h, if_pos h]
    by_cases e : i = n
    · rw [if_pos e, if_pos (by omega)]
    · rw [if_neg e, if_neg (by omega)]
  · rw [if_neg h, if_neg h, if_neg (by omega)]

theorem wat_zer (c : Cfg) (ws : Nat → Int) (o n : Nat) (i : Int) : wat c (zer ws o n) i = if (o : Int) ≤ i ∧ i < o + n then 0 else wat c ws i := by
  unfold wat zer
  by_cases h : 0 ≤ i ∧ i < c.words
  · rw [if_pos h, if_pos h]
    by_cases e : (o : Int) ≤ i ∧ i < o + n
    · rw [if_pos e, if_pos (by omega)]
    · rw [if_neg e, if_neg (by omega)]
  · rw [if_neg h, if_neg h]; simp

set_option maxHeartbeats 400000 in
theorem piece_any (b g : Nat) (c : Cfg) (x : Tps) (sw : Bool) (ws : Nat → Int) (p n : Nat) (hp : (p : Int) + n ≤ c.words) (hn : 0 < n) (w : World) (h : Ar w b g c x sw ws) :
    Calls Tryd.prog 70 #[.pointer (some ⟨b, 0, none⟩), .int .i64 p, .int .i64 n] w fun e w' => e = .returned (.slice (some ⟨g, p, none⟩) n n) ∧ w = w' := by
  have k := h.cell14
  have q := h.words
  have hN : (c.words.toNat : Int) = c.words := Int.toNat_of_nonneg (by omega)
  generalize c.words.toNat = N at k hN
  clear h
  go_enter Tryd.func70, Tryd.ntmps70
  go_wp2
  go_ret
  refine ⟨?_, rfl⟩
  simp

set_option maxHeartbeats 400000 in
theorem set_out (a : Option Addr) (n cap : Nat) (i v : Int) (hi : ¬ (0 ≤ i ∧ i < (n : Int))) (w : World) :
    Calls Tryd.prog 54 #[.slice a n cap, .int .i64 i, .int .u64 v] w fun e w' => e = .returned (.bool false) ∧ w = w' := by
  have hd := decide_eq_false hi
  clear hi
  go_enter Tryd.func54, Tryd.ntmps54
  go_wp2_with fail
  refine (has_any _ _ _ _ _).mono ?_
  rintro e w' ⟨rfl, rfl⟩
  rw [hd]
  go_wp2
  go_ret
  exact ⟨rfl, rfl⟩

set_option maxHeartbeats 400000 in
theorem set_in (g o n cap i : Nat) (v : Int) (hi : i < n) (hc : n ≤ cap) (u : Value) (w : World) (hcell : w.cell? ⟨g, o + i, none⟩ = some u) (hfz : w.frozen? ⟨g, o + i, none⟩ = false) :
    Calls Tryd.prog 54 #[.slice (some ⟨g, o, none⟩) n cap, .int .i64 i, .int .u64 v] w fun e w' => e = .returned (.bool true) ∧ w' = w.setCell ⟨g, o + i, none⟩ (.int .u64 v) := by
  have hd : decide (0 ≤ (i : Int) ∧ (i : Int) < (n : Int)) = true := decide_eq_true (by omega)
  go_enter Tryd.func54, Tryd.ntmps54
  go_wp2_with fail
  refine (has_any _ _ _ _ _).mono ?_
  rintro e w' ⟨rfl, rfl⟩
  rw [hd]
  go_wp2
  go_ret
  exact ⟨rfl, rfl⟩

set_option maxHeartbeats 400000 in
theorem setWord_no (b g : Nat) (c : Cfg) (x : Tps) (sw : Bool) (ws : Nat → Int) (i v : Int) (hi : ¬ (1 ≤ i ∧ i < c.words)) (w : World) (h : Ar w b g c x sw ws) :
    Calls Tryd.prog 44 #[.pointer (some ⟨b, 0, none⟩), .int .i64 i, .int .u64 v] w fun e w' => e = .returned (.bool false) ∧ w = w' := by
  have k := h.cell14
  have q := h.words
  clear h
  by_cases h0 : i = 0
  · subst h0
    clear hi
    go_enter Tryd.func44, Tryd.ntmps44
    go_wp2
    go_ret
    exact ⟨rfl, rfl⟩
  · have hs := set_out (some ⟨g, 0, none⟩) c.words.toNat c.words.toNat i v (by omega) w
    clear hi
    go_enter Tryd.func44, Tryd.ntmps44
    go_wp2_with fail
    refine hs.mono ?_
    rintro e w' ⟨rfl, rfl⟩
    go_wp2
    go_ret
    exact ⟨rfl, rfl⟩

set_option maxHeartbeats 400000 in
theorem setWord_yes (b g : Nat) (c : Cfg) (x : Tps) (sw : Bool) (ws : Nat → Int) (i : Nat) (v : Int) (hv : Wd v) (h0 : 0 < i) (h1 : (i : Int) < c.words) (w : World) (h : Ar w b g c x sw ws) :
    Calls Tryd.prog 44 #[.pointer (some ⟨b, 0, none⟩), .int .i64 i, .int .u64 v] w fun e w' => e = .returned (.bool true) ∧ Ar w' b g c x sw (upd ws i v) ∧ Touch [g] w w' ∧ w'.heap.size = w.heap.size := by
  have k := h.cell14
  have q := h.words
  have hs := set_in g 0 c.words.toNat c.words.toNat i v (by omega) (Nat.le_refl _) (.int .u64 (ws i)) w (by rw [Nat.zero_add]; exact h.row.cell (by omega)) (h.row.frozen _)
  rw [Nat.zero_add] at hs
  have hA := h.set i v hv
  have hT : Touch [g] w (w.setCell ⟨g, i, none⟩ (.int .u64 v)) := Touch.setCell _ _ _ (by simp)
  have hz : (w.setCell ⟨g, i, none⟩ (.int .u64 v)).heap.size = w.heap.size := by simp [World.setCell]
  clear h
  go_enter Tryd.func44, Tryd.ntmps44
  go_wp2_with fail
  refine hs.mono ?_
  rintro e w' ⟨rfl, rfl⟩
  go_wp2
  go_ret
  exact ⟨rfl, hA, hT, hz⟩

set_option maxHeartbeats 400000 in
theorem take_no (b g : Nat) (c : Cfg) (x : Tps) (sw : Bool) (ws : Nat → Int) (s n : Int) (hn : ¬ (1 ≤ n ∧ n ≤ bhd c s - x.top s)) (w : World) (h : Ar w b g c x sw ws) :
    Calls Tryd.prog 49 #[.pointer (some ⟨b, 0, none⟩), .int .i64 s, .int .i64 n] w fun e w' => e = .returned (.tuple #[.int .i64 0, .bool false]) ∧ Below w.heap.size w w' := by
  have hf := free_any b g c x sw ws s w h
  generalize bhd c s - x.top s = f at hf hn
  clear h
  by_cases h1 : n < 1
  · clear hn hf
    go_enter Tryd.func49, Tryd.ntmps49
    go_wp2
    go_ret2
    exact ⟨rfl, Below.refl _ _⟩
  · have h2 : f < n := by omega
    clear hn
    go_enter Tryd.func49, Tryd.ntmps49
    go_wp2_with fail
    refine hf.mono ?_
    rintro e w1 ⟨rfl, b1⟩
    go_wp2
    go_ret2
    exact ⟨rfl, b1⟩

theorem bhd_zero {c : Cfg} {s : Int} (h : ¬ (1 ≤ s ∧ s ≤ 4)) : bhd c s = 0 := by
  unfold bhd; rw [if_neg (by omega), if_neg (by omega), if_neg (by omega), if_neg (by omega)]
theorem fst_zero {c : Cfg} {s : Int} (h : ¬ (1 ≤ s ∧ s ≤ 4)) : fst c s = 0 := by
  unfold fst; rw [if_neg (by omega), if_neg (by omega), if_neg (by omega), if_neg (by omega)]
theorem top_zero {x : Tps} {s : Int} (h : ¬ (1 ≤ s ∧ s ≤ 4)) : x.top s = 0 := by
  unfold Tps.top; rw [if_neg (by omega), if_neg (by omega), if_neg (by omega), if_neg (by omega)]

set_option maxHeartbeats 1000000 in
theorem take_yes (b g : Nat) (c : Cfg) (x : Tps) (sw : Bool) (ws : Nat → Int) (s : Int) (p n : Nat) (hp : x.top s = p) (h0 : 0 < n) (h1 : (p : Int) + n ≤ bhd c s) (w : World) (h : Ar w b g c x sw ws) :
    Calls Tryd.prog 49 #[.pointer (some ⟨b, 0, none⟩), .int .i64 s, .int .i64 n] w fun e w' => e = .returned (.tuple #[.int .i64 p, .bool true]) ∧ Ar w' b g c (x.put s (p + n)) sw (zer ws p n) ∧ Touch [b, g] w w' := by
  have hs : 1 ≤ s ∧ s ≤ 4 := by
    refine Decidable.byContradiction fun hs => ?_
    rw [bhd_zero hs] at h1
    omega
  obtain ⟨p0, p1, p2, p3⟩ := h.sub_in s
  have hf := free_any b g c x sw ws s w h
  have hle : (n : Int) ≤ bhd c s - x.top s := by omega
  have hwo := h.words
  generalize hff : bhd c s - x.top s = f at hf hle
  clear hff
  have Hh : Hid (Ar w b g c x sw ws) := h
  clear h
  go_enter Tryd.func49, Tryd.ntmps49
  go_wp2_with fail
  refine hf.mono ?_
  rintro e w1 ⟨rfl, b1⟩
  have ha1 := Hh.out.below b1
  have ht := top_any b g c x sw ws s w1 ha1
  rw [hp] at ht
  have Ha1 : Hid (Ar w1 b g c x sw ws) := ha1
  clear hf ha1
  go_wp2_with fail
  refine ht.mono ?_
  rintro e w2 ⟨rfl, b2⟩
  have b3 := b1.trans (b2.mono b1.size)
  have ha2 := Ha1.out.below b2
  have hpc := piece_any b g c x sw ws p n (by omega) h0 w2 ha2
  have hcl : ∀ ty, (Builtin.clear_ #[54] ty #[.slice (some ⟨g, p, none⟩) n n]).run Tryd.prog w2 = .ok (.tuple #[]) (w2.setCells g p (List.replicate n (.int .u64 0))) := fun ty =>
    Lib.run_clear_slice w2 _ _ ty _ Tryd.underlying54 Tryd.zeroValue36 rfl rfl g p _ _ h0
      (fun t ht => by rw [ha2.row.cell (i := p + t) (by omega)]; rfl) (fun t ht => ha2.row.frozen _)
  have ha3 := ha2.zero p n
  have hst := setTop_any b g c x sw (zer ws p n) s (p + n) hs (by omega) (by omega) _ ha3
  have ht3 : Touch [b, g] w (w2.setCells g p (List.replicate n (.int .u64 0))) := (Touch.of_below b3 _).trans (Touch.setCells g (by simp) _ _ _)
  clear ht b1 b2 ha2 b3 ha3
  go_wp2_with fail
  refine hpc.mono ?_
  rintro e w' ⟨rfl, rfl⟩
  clear hpc
  go_wp2_with fail
  generalize (w2.setCells g p (List.replicate n (.int .u64 0))) = w3 at hst ht3 ⊢
  clear hcl
  refine hst.mono ?_
  rintro e w4 ⟨rfl, ha4, ht4, -⟩
  have Ha4 : Hid (Ar w4 b g c (x.put s (p + n)) sw (zer ws p n)) := ha4
  have ht5 := ht3.then ht4 (fun x h => .inl (by simp at h; simp [h]))
  clear hst ha4 ht4 ht3
  go_wp2
  go_ret2
  exact ⟨rfl, Ha4.out, ht5⟩

end Go.Proofs.YtpiemfchjlihfaaDoor
