/-
  The walk through a space.
-/
import Derived.Test.YtpiemfchjlihfaaGreatDoorA9
set_option linter.unusedVariables false
namespace Go.Proofs.YtpiemfchjlihfaaGreatDoor
open Go.RowKit

/-- The objects from a on, and where the walk ends (P3.10). -/
inductive Walk (c : Cfg) (ws : Nat → Int) (top : Int) : Int → List Int → Int → Prop
  | done {a : Int} (h : top ≤ a) : Walk c ws top a [] a
  | fail {a : Int} (h : a < top) (hn : ¬ Stands c ws top a) : Walk c ws top a [] a
  | obj {a a' e : Int} {l : List Int} (h : a < top) (hs : Stands c ws top a) (hp : Past c ws top (a + osz c ws a) a') (r : Walk c ws top a' l e) : Walk c ws top a (a :: l) e

/-- The new footprint: the old one's blocks, or newer ones. -/
def Newer (n : Nat) (F F' : List Nat) : Prop := ∀ k, k ∈ F' → k ∈ F ∨ n ≤ k

theorem Newer.refl (n : Nat) (F : List Nat) : Newer n F F := fun _ h => .inl h
theorem Newer.not {n : Nat} {F F' : List Nat} (h : Newer n F F') {q : Nat} (hq : q < n) (hn : q ∉ F) : q ∉ F' := fun hm => by
  rcases h q hm with h1 | h1
  · exact hn h1
  · omega
theorem Newer.trans {n m : Nat} {F G H : List Nat} (h : Newer n F G) (k : Newer m G H) (hl : n ≤ m) : Newer n F H := fun q hq => by
  rcases k q hq with h1 | h1
  · exact h q h1
  · exact .inr (by omega)

theorem Touch.newer {F G : List Nat} {a b c : World} (h : Touch F a b) (k : Touch G b c) (hn : Newer a.heap.size F G) : Touch F a c := h.then k (fun x hx => hn x hx)

set_option maxHeartbeats 400000 in
theorem objects_any (b : Nat) (S : Int) (w : World) :
    Calls Tryz.prog 75 #[.pointer (some ⟨b, 0, none⟩), .int .i64 S] w fun e w' => e = .returned (.func (.func 99) #[] #[.pointer (some ⟨w.heap.size, 0, none⟩), .pointer (some ⟨w.heap.size + 1, 0, none⟩)]) ∧ w' = (w.alloc (.cells #[.pointer (some ⟨b, 0, none⟩)] 26)).alloc (.cells #[.int .i64 S] 3) := by
  go_enter Tryz.func75, Tryz.ntmps75
  go_wp2
  go_ret
  exact ⟨rfl, rfl⟩

/-- What an iterator of a space stands on. -/
structure It (w : World) (b g ca cs : Nat) (c : Cfg) (x : Tps) (sw : Bool) (ws : Nat → Int) (S : Int) : Prop where
  ar : Ar w b g c x sw ws
  laid : Laid w
  ca : w.cell? ⟨ca, 0, none⟩ = some (.pointer (some ⟨b, 0, none⟩))
  cs : w.cell? ⟨cs, 0, none⟩ = some (.int .i64 S)

/-- No block of an iterator is among these. -/
structure Off (F : List Nat) (b g ca cs : Nat) : Prop where
  b : b ∉ F
  g : g ∉ F
  ca : ca ∉ F
  cs : cs ∉ F
  k0 : 1 ∉ F
  k1 : 0 ∉ F

theorem It.touch {w w' : World} {b g ca cs : Nat} {c : Cfg} {x : Tps} {sw : Bool} {ws : Nat → Int} {S : Int} {F : List Nat} (h : It w b g ca cs c x sw ws S) (o : Off F b g ca cs) (t : Touch F w w') : It w' b g ca cs c x sw ws S :=
  ⟨h.ar.touch t o.b o.g, h.laid.touch t o.k0 o.k1, (World.cell?_of_block (w := w) (t.block _ (World.block_lt_of_cell? _ _ h.ca) o.ca)).trans h.ca, (World.cell?_of_block (w := w) (t.block _ (World.block_lt_of_cell? _ _ h.cs) o.cs)).trans h.cs⟩

theorem It.below {w w' : World} {b g ca cs : Nat} {c : Cfg} {x : Tps} {sw : Bool} {ws : Nat → Int} {S : Int} (h : It w b g ca cs c x sw ws S) (l : Below w.heap.size w w') : It w' b g ca cs c x sw ws S :=
  h.touch (F := []) ⟨by simp, by simp, by simp, by simp, by simp, by simp⟩ (Touch.of_below l [])

/-- Block R holds an extent. -/
structure Ec (w : World) (R : Nat) (f q t : Int) : Prop where
  at_ : w.heap[R]? = some (.cells (ecells f q t) 61 (0, 0))

theorem Ec.lt {w : World} {R : Nat} {f q t : Int} (h : Ec w R f q t) : R < w.heap.size := (Array.getElem?_eq_some_iff.1 h.at_).1
theorem Ec.below {w w' : World} {R : Nat} {f q t : Int} (h : Ec w R f q t) (l : Below w.heap.size w w') : Ec w' R f q t := ⟨(l.block R h.lt).trans h.at_⟩
theorem Ec.c0 {w : World} {R : Nat} {f q t : Int} (h : Ec w R f q t) : w.cell? ⟨R, 0, none⟩ = some (.int .i64 f) := cell_of_row _ _ 0 _ _ _ h.at_
theorem Ec.c2 {w : World} {R : Nat} {f q t : Int} (h : Ec w R f q t) : w.cell? ⟨R, 2, none⟩ = some (.int .i64 t) := cell_of_row _ _ 2 _ _ _ h.at_

theorem Oc.cell {w : World} {R : Nat} {cs : Array Value} (h : Oc w R cs) (j : Nat) : w.cell? ⟨R, j, none⟩ = cs[j]? := cell_of_row _ _ j _ _ _ h.at_

set_option maxHeartbeats 8000000 in
theorem walk_any (b g ca cs : Nat) (c : Cfg) (x : Tps) (sw : Bool) (ws : Nat → Int) (S : Int) (l : List Int) (p e : Int) (hp : Past c ws (x.top S) (fst c S) p) (hwk : Walk c ws (x.top S) p l e)
    (W0 : World) (hI : It W0 b g ca cs c x sw ws S) (k : Nat) (B : Value) (J : List Nat → List Int → World → Prop) (Jx : List Int → World → Prop)
    (ek : ∀ args w, (callFunc k args).run Tryz.prog w = .ok (.enter k args) w)
    (hlt : ∀ F pre W, J F pre W → ∀ q, q ∈ F → q < W.heap.size) (hbe : ∀ F pre W W', J F pre W → Below W.heap.size W W' → J F pre W')
    (hcb : ∀ F pre a W, J F pre W → pre ++ [a] <+: l → Calls Tryz.prog k #[B, .int .i64 a, hdv c ws a] W fun r W' => Touch F W W' ∧ ((r = .returned (.bool true) ∧ ∃ F', Newer W.heap.size F F' ∧ J F' (pre ++ [a]) W') ∨ (r = .returned (.bool false) ∧ Jx (pre ++ [a]) W')))
    (F0 : List Nat) (hO : Off F0 b g ca cs) (hJ0 : J F0 [] W0) :
    Calls Tryz.prog 99 #[.func (.func k) #[B] #[], .pointer (some ⟨ca, 0, none⟩), .pointer (some ⟨cs, 0, none⟩)] W0 fun r W' => r = .returned (.tuple #[]) ∧ Touch F0 W0 W' ∧ ((∃ F', Newer W0.heap.size F0 F' ∧ J F' l W') ∨ ∃ pre, pre <+: l ∧ pre ≠ [] ∧ Jx pre W') := by
  have Hcb : Hid (∀ F pre a W, J F pre W → pre ++ [a] <+: l → Calls Tryz.prog k #[B, .int .i64 a, hdv c ws a] W fun r W' => Touch F W W' ∧ ((r = .returned (.bool true) ∧ ∃ F', Newer W.heap.size F F' ∧ J F' (pre ++ [a]) W') ∨ (r = .returned (.bool false) ∧ Jx (pre ++ [a]) W'))) := hcb
  have Hlt : Hid (∀ F pre W, J F pre W → ∀ q, q ∈ F → q < W.heap.size) := hlt
  have Hbe : Hid (∀ F pre W W', J F pre W → Below W.heap.size W W' → J F pre W') := hbe
  clear hcb hlt hbe
  have HI : Hid (It W0 b g ca cs c x sw ws S) := hI
  obtain ⟨s0, s1, s2, s3⟩ := hI.ar.sub_in S
  have wo := hI.ar.words
  have k1 := hI.ca
  have k2 := hI.cs
  have hx := extent_any b g c x sw ws S W0 hI.ar
  clear hI
  generalize fst c S = f, bhd c S = q, x.top S = top at hx hp hwk s0 s1 s2 s3
  go_enter Tryz.func99, Tryz.ntmps99
  go_wp2_with fail
  refine hx.mono ?_
  rintro r w1 ⟨rfl, b1⟩
  have b2 := Below.alloc b1 b1.size (.cells (ecells f q top) 61)
  have hE : Ec (w1.alloc (.cells (ecells f q top) 61)) w1.heap.size f q top := ⟨heap_alloc_new w1 _⟩
  have hES := b1.size
  clear b1 hx k1 k2
  go_upto_region 1 with fail
  generalize (w1.alloc (.cells (ecells f q top) 61)) = w2 at *
  generalize w1.heap.size = E at *
  have i2 := HI.out.below b2
  have k1 := i2.ca
  have k2 := i2.cs
  have k3 := hE.c0
  have k4 := hE.c2
  have hpa := past_any b g c x sw ws top f p s0 (by omega) hp w2 i2.ar i2.laid
  clear i2
  go_wp2_with fail
  refine hpa.mono ?_
  rintro r w3 ⟨rfl, b3⟩
  have b4 := b2.trans (b3.mono b2.size)
  have hE3 := hE.below b3
  have p0 := hp.ge
  clear hpa k1 k2 k3 k4 b3 b2 hE
  have hJ3 := Hbe.out _ _ _ _ hJ0 b4
  have hEF : E ∉ F0 := fun hm => by have := Hlt.out _ _ _ hJ0 E hm; omega
  clear hJ0
  go_wp2
  go_loopw [5] (fun v wr => ∃ a pre rest F, v = .int .i64 a ∧ 0 ≤ a ∧ l = pre ++ rest ∧ Walk c ws top a rest e ∧ J F pre wr ∧ Touch F0 W0 wr ∧ Newer W0.heap.size F0 F ∧ E ∉ F ∧ Ec wr E f q top) (fun v _ => (top - intOf v).toNat)
  case atStart => exact ⟨p, [], l, F0, rfl, by omega, rfl, hwk, hJ3, Touch.of_below b4 _, Newer.refl _ _, hEF, hE3⟩
  case round =>
    obtain ⟨a, pre, rest, F, rfl, ha, hl, hw, hJr, htr, hnw, hEr, hEc⟩ := hrel
    have HJr : Hid (J F pre wr) := hJr
    have Hw : Hid (Walk c ws top a rest e) := hw
    clear hJr hw
    have hr := HI.out.touch hO htr
    have k1 := hr.ca
    have k2 := hr.cs
    have k4 := hEc.c2
    by_cases hat : a < top
    · by_cases hs : Stands c ws top a
      · have hbl := below_yes b g c x sw ws top a ha hat (by omega) hs wr hr.ar hr.laid
        obtain ⟨l', a', hre, hpa, hw'⟩ : ∃ l' a', rest = a :: l' ∧ Past c ws top (a + osz c ws a) a' ∧ Walk c ws top a' l' e := by
          rcases Hw.out with ⟨h⟩ | ⟨_, h⟩ | ⟨_, _, h3, h4⟩
          · omega
          · exact absurd hs h
          · exact ⟨_, _, rfl, h3, h4⟩
        have Hw' : Hid (Walk c ws top a' l' e) := hw'
        clear hw' Hw
        subst hre
        have hpre : pre ++ [a] <+: l := ⟨l', by rw [hl]; simp⟩
        have hz := osz_in c ws a
        have hzl := hs.2
        obtain ⟨n, hn⟩ : ∃ n : Nat, osz c ws a = n := Int.eq_ofNat_of_zero_le (by omega)
        have hpg := hpa.ge
        have hcal : ∀ W, J F pre W → _ := fun W hW => Hcb.out F pre a W hW hpre
        have hpas : ∀ W, It W b g ca cs c x sw ws S → _ := fun W hW => past_any b g c x sw ws top (a + osz c ws a) a' (by omega) (by omega) hpa W hW.ar hW.laid
        simp only [obv, hn, Int.toNat_natCast] at hbl
        simp only [hdv] at hcal
        rw [hn] at hz hzl hpg hpas
        clear hs hn hpa
        generalize wat c ws (a + 1) = sr, kdOf (wat c ws a) = K, ptOf (wat c ws a) = P, rwOf (wat c ws a) = R, agOf (wat c ws a) = A, stOf (wat c ws a) = T, hdOf (wat c ws a) = H at hbl hcal
        have Hcal : Hid (∀ W, J F pre W → Calls Tryz.prog k #[B, .int .i64 a, hv sr K P R A T H] W fun r W' => Touch F W W' ∧ ((r = .returned (.bool true) ∧ ∃ F', Newer W.heap.size F F' ∧ J F' (pre ++ [a]) W') ∨ (r = .returned (.bool false) ∧ Jx (pre ++ [a]) W'))) := hcal
        have Hpas : Hid (∀ W, It W b g ca cs c x sw ws S → Calls Tryz.prog 100 #[.pointer (some ⟨b, 0, none⟩), .int .i64 top, .int .i64 (a + n)] W fun r w' => r = .returned (.int .i64 a') ∧ Below W.heap.size W w') := hpas
        clear hcal hpas hr
        go_wp2_with fail
        refine hbl.mono ?_
        rintro r w4 ⟨rfl, b5⟩
        have b6 := Below.alloc b5 b5.size (.cells (ocells sr K P R A T H (.slice (some ⟨g, a.toNat, none⟩) n n)) 146)
        have o6 := Oc.new w4 (ocells sr K P R A T H (.slice (some ⟨g, a.toNat, none⟩) n n))
        have hOF : w4.heap.size ∉ F := fun hm => by have := Hlt.out _ _ _ HJr.out _ hm; have := b5.size; omega
        clear hbl k1 k2 k4
        go_upto_region 4 with fail
        have hEc6 := hEc.below b6
        have htr6 := htr.trans (Touch.of_below b6 _)
        have hJ6 := Hbe.out _ _ _ _ HJr.out b6
        have HJ6 : Hid (J F pre _) := hJ6
        have hsz6 : W0.heap.size ≤ (w4.alloc (.cells (ocells sr K P R A T H (.slice (some ⟨g, a.toNat, none⟩) n n)) 146)).heap.size := htr6.size
        have hO6 := o6.lt
        clear hJ6 b5 b6 htr hEc HJr
        generalize (w4.alloc (.cells (ocells sr K P R A T H (.slice (some ⟨g, a.toNat, none⟩) n n)) 146)) = w5 at *
        generalize w4.heap.size = O at *
        have z0 : w5.cell? ⟨O, 0, none⟩ = some (.int .u64 sr) := o6.cell 0
        have z1 : w5.cell? ⟨O, 1, none⟩ = some (.int .i64 K) := o6.cell 1
        have z2 : w5.cell? ⟨O, 2, none⟩ = some (.int .i64 P) := o6.cell 2
        have z3 : w5.cell? ⟨O, 3, none⟩ = some (.int .i64 R) := o6.cell 3
        have z4 : w5.cell? ⟨O, 4, none⟩ = some (.int .i64 A) := o6.cell 4
        have z5 : w5.cell? ⟨O, 5, none⟩ = some (.int .i64 T) := o6.cell 5
        have z6 : w5.cell? ⟨O, 6, none⟩ = some (.bool H) := o6.cell 6
        go_wp2_with fail
        clear z0 z1 z2 z3 z4 z5 z6
        refine (Hcal.out w5 HJ6.out).mono ?_
        rintro r w6 ⟨t6, ⟨rfl, F', hn6, hJ7⟩ | ⟨rfl, hJx⟩⟩
        · have htr7 := htr6.newer t6 hnw
          have r7 := HI.out.touch hO htr7
          have hE7 : Ec w6 E f q top := ⟨(t6.block _ hEc6.lt hEr).trans hEc6.at_⟩
          have o7 : Oc w6 O (ocells sr K P R A T H (.slice (some ⟨g, a.toNat, none⟩) n n)) := ⟨(t6.block _ hO6 hOF).trans o6.at_⟩
          have hEr7 := hn6.not hEc6.lt hEr
          have hnw7 := hnw.trans hn6 hsz6
          have HJ7 : Hid (J F' (pre ++ [a]) w6) := hJ7
          have k1 := r7.ca
          have k4 := hE7.c2
          have z7 : w6.cell? ⟨O, 7, none⟩ = some (.slice (some ⟨g, a.toNat, none⟩) n n) := o7.cell 7
          have hpc := Hpas.out w6 r7
          clear r7 o7 t6 hJ7 hn6 hEc6 htr6 o6 HJ6 hnw
          go_wp2_with fail
          refine hpc.mono ?_
          rintro r w7 ⟨rfl, b8⟩
          have hE8 := hE7.below b8
          have hJ8 := Hbe.out _ _ _ _ HJ7.out b8
          have htr8 := htr7.trans (Touch.of_below b8 _)
          clear hpc k1 k4 z7 htr7 b8 hE7 HJ7
          go_wp2
          go_roundw
          case rel => exact ⟨a', pre ++ [a], l', F', rfl, by omega, by rw [hl]; simp, Hw'.out, hJ8, htr8, hnw7, hEr7, hE8⟩
          case measure => simp [intOf]; omega
        · have htr7 := htr6.newer t6 hnw
          clear t6 hEc6 htr6 o6 HJ6
          go_wp2
          go_returns
          exact ⟨rfl, htr7, .inr ⟨pre ++ [a], hpre, by simp, hJx⟩⟩
      · have hbl := below_no b g c x sw ws top a ha hat (by omega) hs wr hr.ar hr.laid
        have hre : rest = [] := by
          rcases Hw.out with _ | _ | ⟨_, h2, _, _⟩
          · rfl
          · rfl
          · exact absurd h2 hs
        clear hr
        go_wp2_with fail
        refine hbl.mono ?_
        rintro r w4 ⟨rfl, b5⟩
        have b6 := Below.alloc b5 b5.size (.cells ozero 146)
        clear hbl
        go_wp2
        go_returns
        subst hre
        rw [List.append_nil] at hl
        subst hl
        exact ⟨rfl, htr.trans (Touch.of_below b6 _), .inl ⟨F, hnw, Hbe.out _ _ _ _ HJr.out b6⟩⟩
    · have hre : rest = [] := by
        rcases Hw.out with _ | _ | ⟨h2, _, _, _⟩
        · rfl
        · rfl
        · exact absurd h2 hat
      clear hr
      go_wp2
      go_returns
      subst hre
      rw [List.append_nil] at hl
      subst hl
      exact ⟨rfl, htr, .inl ⟨F, hnw, HJr.out⟩⟩

end Go.Proofs.YtpiemfchjlihfaaGreatDoor
