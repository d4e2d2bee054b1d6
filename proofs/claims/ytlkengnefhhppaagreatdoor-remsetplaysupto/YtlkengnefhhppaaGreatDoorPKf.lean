import Derived.Test.YtlkengnefhhppaaGreatDoorPYd
import Derived.Test.YtlkengnefhhppaaGreatDoorPYb
import Derived.Test.YtlkengnefhhppaaGreatDoorPKb
import Derived.Deep.RegionHeld3
set_option linter.unusedVariables false
set_option maxHeartbeats 8000000
set_option maxRecDepth 20000
namespace Go.Proofs.YtlkengnefhhppaaGreatDoor
open Go.RowKit Go.Shelf
theorem grow_cell {w w3 : World} {o : Obj} {v : Value} {tb j : Nat} {u : Value} (hg : (w.alloc o).grownBy w3 v.ownBlock) (htb : tb < w.heap.size) (c : w.cell? ⟨tb, j, none⟩ = some u) (hn : some tb ≠ v.ownBlock) : w3.cell? ⟨tb, j, none⟩ = some u := by
 rw [World.cell?_of_block (w := w.alloc o) (hg.block tb (by simp; omega) hn)]
 exact Lib.cell?_alloc_some o c
theorem own_slr {w : World} {base e size n : Nat} {v : Value} {xs : List Value} (h : w.ownsRow base e size v n xs) : ∃ a cap, v = .slice a n cap := by
 rcases h.2 with ⟨rfl, h0⟩ | ⟨g, cap, cur, rfl, _⟩
 ·exact ⟨none, 0, by rw [h0]⟩
 ·exact ⟨_, _, rfl⟩
theorem own_ge {w : World} {base e size n : Nat} {v : Value} {xs : List Value} (h : w.ownsRow base e size v n xs) (k : Nat) (hk : v.ownBlock = some k) : base ≤ k := by
 rcases h.2 with ⟨rfl, h0⟩ | ⟨g, cap, cur, rfl, hb, _⟩
 ·simp [Value.ownBlock] at hk
 ·simp [Value.ownBlock] at hk
  omega
theorem past_stop {c : Cfg} {ws : Nat → Int} {T a p : Int} (h : Past c ws T a p) (hs : T ≤ a ∨ ¬ (IsTag 3 (wat c ws a) ∧ wat c ws a / 4 ≤ T - a)) : p = a := by
 cases h with
 | done _ => rfl
 | step h1 h2 h3 _ =>
  rcases hs with h | h
  ·omega
  ·exact absurd ⟨h2, h3⟩ h
theorem past_next {c : Cfg} {ws : Nat → Int} {T a p : Int} (h : Past c ws T a p) (ha : a < T) (ht : IsTag 3 (wat c ws a)) (hl : wat c ws a / 4 ≤ T - a) : Past c ws T (a + wat c ws a / 4) p := by
 cases h with
 | done h =>
  rcases h with h | h
  ·omega
  ·exact absurd ⟨ht, hl⟩ h
 | step _ _ _ r => exact r
structure Wk (W : World) (c : Cfg) (ws : Nat → Int) (T e : Int) (l : List Int) (a : Int) (v : Value) (w : World) (pre l' : List Int) (p : Int) : Prop where
 past : Past c ws T a p
 walk : Walk c ws T p l' e
 eq : l = pre ++ l'
 own : w.ownsRow W.heap.size 3 1 v pre.length (pre.map (Value.int .i64))
 bel : Below W.heap.size W w
theorem Wk.below {W w w' : World} {c : Cfg} {ws : Nat → Int} {T e a p : Int} {l pre l' : List Int} {v : Value} (h : Wk W c ws T e l a v w pre l' p) (b : Below w.heap.size w w') : Wk W c ws T e l a v w' pre l' p :=
 ⟨h.past, h.walk, h.eq, row_keep h.own (fun q hq => b.block q (row_lt h.own q hq)), h.bel.trans (b.mono h.bel.size)⟩
theorem at_of {c : Cfg} {x : Tps} (ok : c.Ok) {s : Nat} (s1 : 1 ≤ s) (s4 : s ≤ 4) {a : Int} (h0 : fst c s ≤ a) (h1 : a < x.top s) (h2 : x.top s ≤ bhd c s) : spc c a = s := spc_is ok a s (by omega) (by omega) h0 (by omega)
theorem rwalk_any (b : Nat) (g : Nat → Nat) (c : Cfg) (x : Tps) (sw : Bool) (ws : Nat → Int) (s : Nat) (s1 : 1 ≤ s) (s4 : s ≤ 4) (l : List Int) (p e : Int) (hp : Past c ws (x.top s) (fst c s) p) (hwk : Walk c ws (x.top s) p l e) (hl : l.length < 1000000) (hw : ∀ j, Wd (wat c ws j)) (W : World) (hA : Ra W b g c x sw ws) :
  Calls Tryz.prog 66 #[.pointer (some ⟨b, 0, none⟩), .int .i64 s] W fun r w' => ∃ v, r = .returned (.tuple #[v, .int .i64 (if e < x.top s then e else 0)]) ∧ w'.ownsRow W.heap.size 3 1 v l.length (l.map (Value.int .i64)) ∧ Below W.heap.size W w' := by
 obtain ⟨i0, hi, hz0, hz1, hz2⟩ := info_parts Tryz.infoInt
 have HI0 : Hid ((Tryz.prog.info? 3 = some i0) ∧ i0.zero = some (.int .i64 0) ∧ i0.size = 1 ∧ i0.bytes = 8) := ⟨hi, hz0, hz1, hz2⟩
 have hsp := rspace_any (s : Int) W
 rw [decide_eq_true (show 1 ≤ (s : Int) ∧ (s : Int) ≤ 4 by omega)] at hsp
 have hb := rbounds_any b g c x sw ws s W hA
 have hti := hA.top_in s s1 s4
 have hfi := fst_in hA.ok (s : Int)
 have hf1 := fst_one hA.ok s s1 s4
 have hTb : x.top s ≤ 400000 := by have := spn_bhd hA.ok s s1 s4; omega
 have HAt : Hid (∀ a, fst c s ≤ a → a < x.top s → spc c a = s) := fun a h0 h1 => at_of hA.ok s1 s4 h0 h1 hti.2
 have HR : Hid (∀ w1, Below W.heap.size W w1 → Ra w1 b g c x sw ws) := fun w1 l => hA.below l
 have HT : Hid (∀ w1, Below W.heap.size W w1 → Calls Tryz.prog 130 #[.pointer (some ⟨b, 0, none⟩), .int .i64 s] w1 fun e w' => e = .returned (.int .i64 (x.top s)) ∧ Below w1.heap.size w1 w') := fun w1 l => rtop_any b g c x sw ws s w1 (hA.below l)
 have HW0 : Hid (Wk W c ws (x.top s) e l (fst c s) (.slice none 0 0) W [] l p) := ⟨hp, hwk, rfl, World.ownsRow_nil _ _ _ _, Below.refl _ _⟩
 have HW : Hid (∀ j, Wd (wat c ws j)) := hw
 have HF : Hid (fst c s ≤ fst c s) := Int.le_refl _
 clear hA hi hz0 hz1 hz2 hp hwk hw hti
 obtain ⟨T, hT⟩ : ∃ T, T = x.top s := ⟨_, rfl⟩
 have HTE : Hid (T = x.top s) := hT
 rw [← hT] at HT HW0 hTb HAt ⊢
 clear hT
 obtain ⟨E, hE⟩ : ∃ E, E = if e < T then e else 0 := ⟨_, rfl⟩
 have HE1 : Hid (e < T → E = e) := fun h => by rw [hE, if_pos h]
 have HE0 : Hid (T ≤ e → E = 0) := fun h => by rw [hE, if_neg (by omega)]
 rw [← hE]
 clear hE
 generalize hF : fst c (s : Int) = F at *
 clear hF
 generalize bhd c (s : Int) = B at *
 go_enter Tryz.func66, Tryz.ntmps66
 go_wp2_with fail
 refine hsp.mono ?_
 rintro r w1 ⟨rfl, rfl⟩
 clear hsp
 go_wp2_with fail
 refine hb.mono ?_
 rintro r w2 ⟨rfl, l2⟩
 have HW2 : Hid (Wk W c ws T e l F (.slice none 0 0) w2 [] l p) := HW0.out.below l2
 clear hb HW0 l2
 go_wp2
 go_loopw [6, 7] (fun v k wr => ∃ (a q : Int) (pre l' : List Int), k = .int .i64 a ∧ F ≤ a ∧ a ≤ 400000 ∧ Hid (Wk W c ws T e l a v wr pre l' q)) (fun _ k _ => (T - intOf k).toNat)
 case atStart => exact ⟨F, p, [], l, rfl, Int.le_refl _, by omega, HW2⟩
 case round =>
  obtain ⟨a, q, pre, l', rfl, hFa, hab, HK⟩ := hrel
  clear HW2
  obtain ⟨va, vc, rfl⟩ := own_slr HK.out.own
  go_wp2_with fail
  refine (HT.out _ HK.out.bel).mono ?_
  rintro r w3 ⟨rfl, l3⟩
  have HK3 : Hid (Wk W c ws T e l a (.slice va pre.length vc) w3 pre l' q) := HK.out.below l3
  clear HK l3
  by_cases hlt : a < T
  ·by_cases hst : Stands c ws T a
   ·have hat : At c x ws a := by
     have e1 := HAt.out a hFa hlt
     refine ⟨by rw [e1]; omega, by rw [e1, ← HTE.out]; exact hlt, by rw [e1, ← HTE.out]; exact hst⟩
    have hh := rhead_at b g c x sw ws a hat (HW.out a) w3 (HR.out w3 HK3.out.bel)
    unfold hdv at hh
    obtain rfl : q = a := past_stop HK3.out.past (.inr (fun h => by have := hst.1.1; have := h.1.1; omega))
    obtain ⟨l2, q2, hl', hp2, hw2⟩ : ∃ l2 q2, l' = q :: l2 ∧ Past c ws T (q + osz c ws q) q2 ∧ Walk c ws T q2 l2 e := by
     have hwk := HK3.out.walk
     cases hwk with
     | done h => omega
     | fail h hn => exact absurd hst hn
     | obj h hs hp r => exact ⟨_, _, rfl, hp, r⟩
    subst hl'
    have hsz := hst.2
    unfold osz at hsz hp2
    have NK : Hid (Past c ws T (q + (2 + ptOf (wat c ws q) + rwOf (wat c ws q))) q2 ∧ Walk c ws T q2 l2 e) := ⟨hp2, hw2⟩
    have hpt := pt_in (wat c ws q)
    have hrw := rw_in (wat c ws q)
    have hlen : pre.length < 1000000 := by
     have := HK3.out.eq
     rw [this] at hl
     simp at hl
     omega
    clear hp2 hw2 hst hat
    generalize wat c ws (q + 1) = m1 at *
    generalize kdOf (wat c ws q) = K at *
    generalize ptOf (wat c ws q) = P at *
    generalize rwOf (wat c ws q) = R at *
    generalize agOf (wat c ws q) = A at *
    generalize stOf (wat c ws q) = U at *
    generalize hdOf (wat c ws q) = H at *
    obtain ⟨p0, p1⟩ := hpt
    obtain ⟨r0, r1⟩ := hrw
    go_wp2_with fail
    refine hh.mono ?_
    rintro r w4 ⟨rfl, l4⟩
    have HK4 : Hid (Wk W c ws T e l q (.slice va pre.length vc) w4 pre (q :: l2) q) := HK3.out.below l4
    clear hh HK3 l4
    go_upto_region 7 with fail
    have hY := Box.new w4 38 (.int .u64 m1) (.int .i64 K) (.int .i64 P) (.int .i64 R) (.int .i64 A) (.int .i64 U) (.bool H)
    have HK5 : Hid (Wk W c ws T e l q (.slice va pre.length vc) (w4.alloc (.cells (hcells m1 K P R A U H) 38)) pre (q :: l2) q) := HK4.out.below (Below.alloc (Below.refl _ _) (Nat.le_refl _) _)
    have hne : some w4.heap.size ≠ (Value.slice va pre.length vc).ownBlock := fun hh => Nat.lt_irrefl _ (row_lt HK4.out.own _ hh.symm)
    have hylt := hY.lt
    clear HK4
    generalize (w4.alloc (.cells (hcells m1 K P R A U H) 38)) = w5 at *
    generalize w4.heap.size = BH at *
    have HY : Hid (Box w5 BH (.int .u64 m1) (.int .i64 K) (.int .i64 P) (.int .i64 R) (.int .i64 A) (.int .i64 U) (.bool H) ∧ some BH ≠ (Value.slice va pre.length vc).ownBlock ∧ BH < w5.heap.size) := ⟨hY, hne, hylt⟩
    clear hY hne hylt
    have hs5 : W.heap.size ≤ w5.heap.size := HK5.out.bel.size
    go_wp2_with (at_builtin; refine wpList_append_own_at _ rfl _ _ 32 rfl W.heap.size 3 i0 (.int .i64 0) 1 8 Tryz.underlying32 HI0.out.1 HI0.out.2.1 HI0.out.2.2.1 HI0.out.2.2.2 rfl (by decide) _ _ _ rfl (HK5.out.own.alloc _) ⟨w5.heap.size, 0, none⟩ 1 1 [.int .i64 q] rfl rfl (cells_new _ _ _) (by simp [Value.oneCell']) (by simp [maxLen]; omega) (by omega) (by simp; omega) ?_)
    intro v' w6 ho hg _ _
    have HK6 : Hid (Wk W c ws T e l (q + (2 + P + R)) v' w6 (pre ++ [q]) l2 q2) := ⟨NK.out.1, NK.out.2, by rw [HK5.out.eq]; simp, by rw [List.length_append, List.map_append]; exact ho, (HK5.out.bel.alloc HK5.out.bel.size _).grown hg (by have := HK5.out.bel.size; simp; omega) (fun k hk => own_ge HK5.out.own k hk)⟩
    have y0 := grow_cell hg HY.out.2.2 HY.out.1.h0 HY.out.2.1
    have y1 := grow_cell hg HY.out.2.2 HY.out.1.h1 HY.out.2.1
    have y2 := grow_cell hg HY.out.2.2 HY.out.1.h2 HY.out.2.1
    have y3 := grow_cell hg HY.out.2.2 HY.out.1.h3 HY.out.2.1
    have y4 := grow_cell hg HY.out.2.2 HY.out.1.h4 HY.out.2.1
    have y5 := grow_cell hg HY.out.2.2 HY.out.1.h5 HY.out.2.1
    have y6 := grow_cell hg HY.out.2.2 HY.out.1.h6 HY.out.2.1
    clear hg ho HK5 HY NK
    obtain ⟨va2, vc2, rfl⟩ := own_slr HK6.out.own
    go_wp2_with fail
    clear y0 y1 y2 y3 y4 y5 y6
    refine (rsizeh_any m1 K P R A U H p0 p1 r0 r1 w6).mono ?_
    rintro r w7 ⟨rfl, hw7⟩
    have HK7 : Hid (Wk W c ws T e l (q + (2 + P + R)) (.slice va2 (pre ++ [q]).length vc2) w7 (pre ++ [q]) l2 q2) := HK6.out.below (by rw [hw7]; exact Below.alloc (Below.refl _ _) (Nat.le_refl _) _)
    rw [show (pre ++ [q]).length = pre.length + 1 by simp] at HK7
    clear hw7 HK6
    go_wp2
    go_roundw
    case rel => exact ⟨q + (2 + P + R), q2, pre ++ [q], l2, rfl, by omega, by omega, HK7⟩
    case measure => simp [intOf]; omega
   ·have hnat : ¬ At c x ws a := fun hat => hst (by
     have e1 := HAt.out a hFa hlt
     have := hat.2.2
     rw [e1, ← HTE.out] at this
     exact this)
    have hh := rhead_nat b g c x sw ws a hnat (HW.out a) w3 (HR.out w3 HK3.out.bel)
    clear hnat
    go_wp2_with fail
    refine hh.mono ?_
    rintro r w4 ⟨rfl, l4⟩
    have HK5 : Hid (Wk W c ws T e l a (.slice va pre.length vc) (w4.alloc (.cells (hcells 0 0 0 0 0 0 false) 38)) pre l' q) := (HK3.out.below l4).below (Below.alloc (Below.refl _ _) (Nat.le_refl _) _)
    clear hh HK3 l4
    go_upto_region 7 with fail
    generalize (w4.alloc (.cells (hcells 0 0 0 0 0 0 false) 38)) = w5 at *
    go_wp2_with fail
    refine (rword_any b g c x sw ws a w5 (HR.out w5 HK5.out.bel)).mono ?_
    rintro r w6 ⟨rfl, l6⟩
    have HK6 : Hid (Wk W c ws T e l a (.slice va pre.length vc) w6 pre l' q) := HK5.out.below l6
    clear HK5 l6
    have hfd := rfilled_any (wat c ws a) (HW.out a) w6
    by_cases htag : IsTag 3 (wat c ws a)
    ·have htn : tn 3 (wat c ws a) = wat c ws a / 4 := by unfold tn; rw [if_pos htag]
     have hn1 : 1 ≤ wat c ws a / 4 := htag.2.1
     have hn2 : wat c ws a / 4 ≤ 1099511627776 := htag.2.2
     rw [htn, decide_eq_true htag] at hfd
     have HF1 : Hid (wat c ws a / 4 ≤ T - a → Wk W c ws T e l (a + wat c ws a / 4) (.slice va pre.length vc) w6 pre l' q) := fun hle => ⟨past_next HK6.out.past hlt htag hle, HK6.out.walk, HK6.out.eq, HK6.out.own, HK6.out.bel⟩
     have HF2 : Hid (T - a < wat c ws a / 4 → l = pre ∧ e = a) := fun hgt => by
      obtain rfl : q = a := past_stop HK6.out.past (.inr (fun hh => by have := hh.2; omega))
      have hwk := HK6.out.walk
      have heq := HK6.out.eq
      cases hwk with
      | done h => omega
      | fail h _ => exact ⟨by simpa using heq, rfl⟩
      | obj h hs _ _ => exact absurd hs hst
     clear htag htn hst
     generalize wat c ws a / 4 = n at *
     generalize wat c ws a = m at *
     go_wp2_with fail
     refine hfd.mono ?_
     rintro r w7 ⟨rfl, rfl⟩
     clear hfd
     go_wp2_with fail
     refine (HT.out _ HK6.out.bel).mono ?_
     rintro r w8 ⟨rfl, l8⟩
     by_cases hle : n ≤ T - a
     ·have HK8 : Hid (Wk W c ws T e l (a + n) (.slice va pre.length vc) w8 pre l' q) := (HF1.out hle).below l8
      have hgt : ¬ T < a + n := by omega
      clear HF1 HF2 HK6 l8
      go_wp2
      go_roundw
      case rel => exact ⟨a + n, q, pre, l', rfl, by omega, by omega, HK8⟩
      case measure => simp [intOf]; omega
     ·have HK8 : Hid (Wk W c ws T e l a (.slice va pre.length vc) w8 pre l' q) := HK6.out.below l8
      have hgt : T < a + n := by omega
      have hfin : Hid (l = pre ∧ e = a) := HF2.out (by omega)
      clear HF1 HF2 HK6 l8
      go_wp2
      go_ret2
      exact ⟨.slice va pre.length vc, by rw [HE1.out (by rw [hfin.out.2]; exact hlt), hfin.out.2]; rfl, by rw [hfin.out.1]; exact HK8.out.own, HK8.out.bel⟩
    ·have htn : tn 3 (wat c ws a) = 0 := by unfold tn; rw [if_neg htag]
     rw [htn, decide_eq_false htag] at hfd
     have hfin : Hid (l = pre ∧ e = a) := by
      obtain rfl : q = a := past_stop HK6.out.past (.inr (fun hh => htag hh.1))
      have hwk := HK6.out.walk
      have heq := HK6.out.eq
      cases hwk with
      | done h => omega
      | fail h _ => exact ⟨by simpa using heq, rfl⟩
      | obj h hs _ _ => exact absurd hs hst
     clear htag htn hst
     generalize wat c ws a = m at *
     go_wp2_with fail
     refine hfd.mono ?_
     rintro r w7 ⟨rfl, rfl⟩
     clear hfd
     go_wp2
     go_ret2
     exact ⟨.slice va pre.length vc, by rw [HE1.out (by rw [hfin.out.2]; exact hlt), hfin.out.2]; rfl, by rw [hfin.out.1]; exact HK6.out.own, HK6.out.bel⟩
  ·have hq := past_stop HK3.out.past (.inl (by omega))
   have hfin : Hid (l = pre ∧ ¬ e < T) := by
    have hwk := HK3.out.walk
    have heq := HK3.out.eq
    cases hwk with
    | done h => exact ⟨by simpa using heq, by omega⟩
    | fail h _ => omega
    | obj h _ _ _ => omega
   clear hq
   go_wp2
   go_ret2
   exact ⟨.slice va pre.length vc, by rw [HE0.out (by have := hfin.out.2; omega)]; rfl, by rw [hfin.out.1]; exact HK3.out.own, HK3.out.bel⟩
end Go.Proofs.YtlkengnefhhppaaGreatDoor
namespace Go.Proofs.YtlkengnefhhppaaGreatDoor.Kg
open Go.RowKit
structure Bel (w : World) where
 v : World
 h : Below w.heap.size w v
theorem region_below {P : Program} {id : Nat} {Q : Exit → Act → World → Prop} {a : Act} {w : World} {l : List Oper} (hm : P.follows .mixedOrders = true) (hB : Region.lexB .any l.toArray = true)
  (h : wpQuiet P l.toArray (fun w' => ∃ p : Bel w, w' = p.v) (fun a' => ∀ w', (∃ p : Bel w, w' = p.v) → Q .normal a' w') l a) : (Code.region id l.toArray true).wp P Q a w :=
 wp_region_quiet (C := fun w' => ∃ p : Bel w, w' = p.v) hm hB ⟨⟨w.drewN 1, below_drewN (Below.refl _ _) 1⟩, rfl⟩ (by simpa using h)
theorem calls_bel {P : Program} {f : FuncId} {args : Array Value} {w : World} {p : Bel w} {v : Value} (h : Calls P f args p.v fun e w' => e = .returned v ∧ Below p.v.heap.size p.v w') : Calls P f args p.v fun e w'' => e = .returned v ∧ ∃ q : Bel w, w'' = q.v :=
 h.mono fun _ w'' ⟨he, l⟩ => ⟨he, ⟨w'', p.h.trans (l.mono p.h.size)⟩, rfl⟩
section
variable {P : Program} {ops : Array Oper} {md : Region.Mode} {C : World → Prop}
def wpAnyQL (P : Program) (md : Region.Mode) (ops : Array Oper) (C : World → Prop) (n : Nat) (L : Array Bool → Act → Prop) : Nat → Array Bool → Act → Prop
 | 0, listed, a => L listed a
 | f + 1, listed, a =>
  Region.ready md ops listed ≠ [] ∧ ∀ i ∈ Region.ready md ops listed, i < n ∧ qOp P ops C i (wpAnyQL P md ops C n L f (listed.setIfInBounds i true)) a
theorem wpAny_of_headQ {n g : Nat} {L : Array Bool → Act → Prop} {Q' : Exit → Act → World → Prop} (hL : ∀ listed a w, C w → L listed a → wpAny P md ops Q' g listed a w) :
  ∀ (f : Nat) (listed : Array Bool) (a : Act) (w : World), C w → wpAnyQL P md ops C n L f listed a → wpAny P md ops Q' (f + g) listed a w
 | 0, listed, a, w, hw, h => by rw [Nat.zero_add]; exact hL _ _ _ hw h
 | f + 1, listed, a, w, hw, h => by
  rw [show f + 1 + g = (f + g) + 1 by omega]
  exact ⟨fun h0 => absurd h0 h.1, fun i hi => wpOp_of_qOp hw (fun a' w' hw' h' => wpAny_of_headQ hL f _ a' w' hw' h') (h.2 i hi).2⟩
theorem headQ_first {n i : Nat} {oi : Oper} {v : Value} {L : Array Bool → Act → Prop} (hi : ops[i]? = some oi) (hsel : ∀ (j : Nat) (o : Oper) cs b, ops[j]? = some o → o.op ≠ .select cs b)
  (hs : Region.sinkB md ops n = true) (hl : lateB md ops n = true) (hin : i < n) (hdone : ∀ listed a, L listed a → ∀ j ∈ Region.ready md ops listed, n ≤ j) :
  ∀ (f : Nat) (listed : Array Bool) (a : Act), HeadInv md ops n listed →
   (∀ j oj, ops[j]? = some oj → j ≠ i → listed.getD j true = false → (∀ e ∈ oj.after, Region.binds md e = true → e.on ≠ i) → oi.apart ops oj = true) →
   i ∈ Region.ready md ops listed → YieldsIn P ops C oi v a →
   wpAnyQL P md ops C n L f (listed.setIfInBounds i true) (a.put oi.dst v) → wpAnyQL P md ops C n L (f + 1) listed a
 | f, listed, a, inv, hfree, hr, hy, H => by
  have hun := (mem_ready.1 hr).1
  refine ⟨fun h => (by rw [h] at hr; cases hr), fun j hj => ?_⟩
  have hjn : j < n := Nat.lt_of_not_le fun h => late_waits hs hl inv hin hun h hj
  refine ⟨hjn, ?_⟩
  by_cases hji : j = i
  ·subst hji; exact hy.qOp hi H
  ·match f, H with
   | 0, H => have := hdone _ _ H j (ready_mono hj hji); omega
   | f + 1, H =>
    have h1 := (H.2 j (ready_mono hj hji)).2
    obtain ⟨hjun, oj, hoj, hall⟩ := mem_ready.1 hj
    have hnot : ∀ e ∈ oj.after, Region.binds md e = true → e.on ≠ i := fun e he hb heq => by
     have h1 := hall e he hb
     rw [heq, getD_both hun] at h1
     cases h1
    refine qOp_mono (fun a' h3 => headQ_first hi hsel hs hl hin hdone f (listed.setIfInBounds j true) a' (inv.set hj hjn) (fun k ok hk hki hun' hno => ?_) (ready_mono hr (Ne.symm hji)) h3.1 ?_)
     (qOp_put hoj (hfree j oj hoj hji hjun hnot) (fun cs b => hsel i oi cs b hi) (fun cs b => hsel j oj cs b hoj) hy h1)
    ·refine hfree k ok hk hki ?_ hno
     by_cases hjk : j = k
     ·subst hjk; exact hjun
     ·rwa [getD_set_ne true hjk] at hun'
    ·rw [Array.setIfInBounds_comm _ _ hji]
     exact h3.2
theorem headQ_lex {n : Nat} {Lq : Act → Prop} (hsel : Region.noSelect ops = true) (hs : Region.sinkB md ops n = true) (hl : lateB md ops n = true) :
  ∀ (l : List Oper) (k : Nat) (listed : Array Bool) (a : Act), (∀ j, j < l.length → l[j]? = ops[k + j]?) → k + l.length = n → HeadInv md ops n listed → partB md ops n l.length k listed = true → wpQuiet P ops C Lq l a →
  wpAnyQL P md ops C n (fun listed' a' => (Region.ready md ops listed' = [n] ∧ Region.lexFrom md ops (ops.size - (n + 1)) (n + 1) (listed'.setIfInBounds n true) = true) ∧ Lq a') l.length listed a
 | [], k, listed, a, _, _, _, hB, h => by
  simp only [List.length_nil, partB, Bool.and_eq_true, decide_eq_true_eq] at hB
  exact ⟨hB, h⟩
 | o :: l, k, listed, a, hll, hk, inv, hB, h => by
  have h0 : ops[k]? = some o := by simpa using (hll 0 (by simp)).symm
  simp only [List.length_cons, partB, Bool.and_eq_true] at hB
  obtain ⟨⟨hr, hf⟩, hB'⟩ := hB
  have hkn : k < n := by simp only [List.length_cons] at hk; omega
  have hr' : k ∈ Region.ready md ops listed := by simpa using hr
  have hst : qOp P ops C k (wpQuiet P ops C Lq l) a := by unfold qOp; simp only [h0]; exact h
  obtain ⟨v, hy, hK⟩ := yieldsIn_of_qOp h0 hst
  exact headQ_first h0 (Region.noSelect_spec hsel) hs hl hkn (fun listed' a' hL j hj => by rw [hL.1.1] at hj; simp at hj; omega) l.length listed a inv (Region.free_spec h0 hf) hr' hy
   (headQ_lex hsel hs hl l (k + 1) _ _ (fun j hj => by have := hll (j + 1) (by simp; omega); simpa [Nat.add_assoc, Nat.add_comm 1 j] using this) (by simp only [List.length_cons] at hk; omega) (inv.set hr' hkn) hB' hK)
end
theorem below_call {P : Program} {id : Nat} {Q : Exit → Act → World → Prop} {a : Act} {w : World} {l : List Oper} (n : Nat) (hm : P.follows .mixedOrders = true) (hB : callB .any l.toArray n = true)
  (h : wpQuiet P l.toArray (fun w' => ∃ p : Bel w, w' = p.v) (fun a' => ∀ w', (∃ p : Bel w, w' = p.v) → wpList P l.toArray (thenQuiet P l.toArray (l.drop (n + 1)) Q) ((l.drop n).take 1) a' w') (l.take n) a) : (Code.region id l.toArray true).wp P Q a w := by
 simp only [callB, Bool.and_eq_true, decide_eq_true_eq] at hB
 obtain ⟨⟨⟨⟨hsel, hn⟩, hs⟩, hl⟩, hp⟩ := hB
 have hn' : n < l.length := by simpa using hn
 have htl : (l.take n).length = n := by simp; omega
 obtain ⟨o, ho⟩ : ∃ o, l[n]? = some o := ⟨_, List.getElem?_eq_getElem hn'⟩
 have hd1 : (l.drop n).take 1 = [o] := by
  rw [List.drop_eq_getElem_cons hn', List.take_succ_cons, List.take_zero]
  rw [List.getElem?_eq_getElem hn'] at ho
  rw [Option.some.inj ho]
 have inv0 : HeadInv .any l.toArray n (Array.replicate l.toArray.size false) :=
  ⟨by simp, fun j oj _ hl => (by rw [getD_replicate_false] at hl; cases hl), fun t _ ht => getD_in (by simpa using ht) (getD_replicate_false _ _)⟩
 have H := headQ_lex (md := .any) hsel hs hl (l.take n) 0 _ a (fun j hj => by
  have hj' : j < n := by rw [htl] at hj; exact hj
  simp [hj']) (by simpa using htl) inv0 (by rw [htl]; exact hp) h
 refine wp_region_any hm ?_
 have hlen : (l.drop (n + 1)).length = l.toArray.size - (n + 1) := by simp
 have := wpAny_of_headQ (Q' := Q) (g := (l.toArray.size - (n + 1)) + 1) (fun listed a' w' hw' hL => by
  obtain ⟨⟨h1, h2⟩, h3⟩ := hL
  rw [hd1] at h3
  refine ⟨fun h0 => (by rw [h1] at h0; cases h0), fun i hi => ?_⟩
  rw [h1] at hi
  obtain rfl : i = n := by simpa using hi
  refine op_then (fun a2 w2 hq => ?_) (by simpa using ho) (h3 w' hw')
  have hq' : wpQuiet P l.toArray (fun w' => w' = w2) (fun a' => Q .normal a' w2) (l.drop (i + 1)) a2 := hq
  have := wpAnyQ_lex (md := .any) hsel (l.drop (i + 1)) (i + 1) (listed.setIfInBounds i true) a2 (fun j => by simp [List.getElem?_drop]) (by rw [hlen]; exact h2) hq'
  rw [hlen] at this
  exact wpAny_of_quiet (C := fun w' => w' = w2) (fun a3 w3 hw hq3 => by rw [hw]; exact hq3) _ _ _ _ rfl this) _ _ _ _ (⟨⟨w.drewN 1, below_drewN (Below.refl _ _) 1⟩, rfl⟩ : ∃ p : Bel w, w.drew = p.v) H
 rw [htl, show n + (l.toArray.size - (n + 1) + 1) = l.toArray.size by omega] at this
 exact this
def plainOp : Op → Bool
 | .move _ | .assign _ | .pick _ _ _ | .load _ _ | .binOp _ _ _ _ _ | .unOp _ _ _ | .convert _ _ _ | .fieldAddr _ _ _ | .field _ _ _ | .indexAddr _ _ _ | .index _ _ _ | .extract _ _ => true
 | _ => false
section
variable {P : Program} {ops : Array Oper} {md : Region.Mode} {C : World → Prop}
theorem run_value_only {s : Sem Value} {w w' : World} {n : Next} (h : (do pure (Next.value (← s)) : Sem Next).run P w = .ok n w') : ∃ u, n = .value u := by
 rw [Sem.run_bind] at h
 generalize s.run P w = r at h
 cases r with
 | ok a w2 =>
  simp only [Result.andThen_ok, Sem.run_pure] at h
  injection h with h1 h2
  exact ⟨_, h1.symm⟩
 | halt x w2 => simp at h
theorem run_pick_only {s : Sem Bool} {x y : Value} {w w' : World} {n : Next} (h : (do pure (Next.value (if ← s then x else y)) : Sem Next).run P w = .ok n w') : ∃ u, n = .value u := by
 rw [Sem.run_bind] at h
 generalize s.run P w = r at h
 cases r with
 | ok a w2 =>
  simp only [Result.andThen_ok, Sem.run_pure] at h
  injection h with h1 h2
  exact ⟨_, h1.symm⟩
 | halt x w2 => simp at h
theorem plain_value {o : Oper} (hp : plainOp o.op = true) {ρ : Operand → Value} {w w' : World} {n : Next} (h : (execOp ρ o).run P w = .ok n w') : ∃ u, n = .value u := by
 unfold execOp at h
 unfold plainOp at hp
 split at hp
 all_goals first | (rename_i he; rw [he] at h; exact run_value_only h) | (rename_i he; rw [he] at h; exact run_pick_only h) | (rename_i he; rw [he] at h; injection h with h1 h2; exact ⟨_, h1.symm⟩) | (cases hp)
def LooseIn (P : Program) (ops : Array Oper) (C : World → Prop) (o : Oper) (R : Value → Prop) (a : Act) : Prop :=
 Region.wanted o (yielded ops a.tmps) = true ∧ ∀ w, C w → ∃ f args, (execOp a.eval o).run P w = .ok (.enter f args) w ∧ Calls P f args w (fun e w'' => ∃ v, e = .returned v ∧ R v ∧ C w'')
def lOp (P : Program) (ops : Array Oper) (C : World → Prop) (n : Nat) (R : Value → Prop) (i : Nat) (K : Act → Prop) (a : Act) : Prop :=
 if i = n then ∃ o, ops[n]? = some o ∧ LooseIn P ops C o R a ∧ ∀ v, R v → K (a.put o.dst v) else qOp P ops C i K a
def wpAnyL (P : Program) (md : Region.Mode) (ops : Array Oper) (C : World → Prop) (n : Nat) (R : Value → Prop) (Q : Act → Prop) : Nat → Array Bool → Act → Prop
 | 0, listed, a => Region.ready md ops listed = [] ∧ Q a
 | fuel + 1, listed, a =>
  (Region.ready md ops listed = [] → Q a) ∧
  ∀ i ∈ Region.ready md ops listed, lOp P ops C n R i (wpAnyL P md ops C n R Q fuel (listed.setIfInBounds i true)) a
end
section
variable {P : Program} {ops : Array Oper} {md : Region.Mode} {C : World → Prop}
def onlyVal (P : Program) (s : Sem Next) : Prop := ∀ w n w', s.run P w = .ok n w' → ∃ u, n = .value u
theorem onlyVal_bind {α : Type} {s : Sem α} {k : α → Sem Next} (h : ∀ a, onlyVal P (k a)) : onlyVal P (s >>= k) := by
 intro w n w' hr
 rw [Sem.run_bind] at hr
 generalize s.run P w = r at hr
 cases r with
 | ok a w2 =>
  simp only [Result.andThen_ok] at hr
  exact h a _ _ _ hr
 | halt x w2 => simp at hr
theorem onlyVal_pure (u : Value) : onlyVal P (pure (Next.value u)) := fun w n w' h => by
 rw [Sem.run_pure] at h
 injection h with h1 h2
 exact ⟨u, h1.symm⟩
theorem onlyVal_panic : onlyVal P (runtimePanic .nilDeref) := fun w n w' h => by
 simp [runtimePanic, goPanic] at h
def plain2 : Op → Bool
 | .call c => (match c.callee with | .builtin .len => true | .builtin .cap => true | .builtin .min => true | .builtin .max => true | _ => false)
 | .nilCheck _ => true
 | o => plainOp o
theorem nil_only (o : Oper) (x : Operand) (he : o.op = .nilCheck x) (ρ : Operand → Value) : onlyVal P (execOp ρ o) := by
 unfold execOp
 rw [he]
 dsimp only
 split
 ·exact onlyVal_panic
 ·exact onlyVal_panic
 ·exact onlyVal_panic
 ·split
  ·exact onlyVal_panic
  ·refine onlyVal_bind fun p => onlyVal_bind fun q => ?_
   split
   ·refine onlyVal_bind fun _ => onlyVal_pure _
   ·exact onlyVal_pure _
  ·exact onlyVal_pure _
 ·exact onlyVal_pure _
theorem plain2_only {o : Oper} (hp : plain2 o.op = true) (ρ : Operand → Value) : onlyVal P (execOp ρ o) := by
 intro w n w' h
 unfold plain2 at hp
 split at hp
 ·rename_i c he
  unfold execOp at h
  rw [he] at h
  dsimp only at h
  split at hp
  all_goals first | (rename_i hc; simp only [resolve, hc, pure_bind, invoke, builtin] at h; exact run_value_only h) | (cases hp)
 ·rename_i x he
  exact nil_only o x he ρ w n w' h
 ·exact plain_value hp h
def Grow (P : Program) (ops : Array Oper) (C : World → Prop) (o : Oper) (v : Value) (a : Act) : Prop :=
 (Region.wanted o (yielded ops a.tmps) = true ∧ ∀ w, C w → (execOp a.eval o).run P w = .ok (.value v) w ∨ ∃ f args, (execOp a.eval o).run P w = .ok (.enter f args) w ∧ Calls P f args w (fun e w'' => e = .returned v ∧ Below w.heap.size w w'')) ∨
 (Region.wanted o (yielded ops a.tmps) = false ∧ v = undef)
theorem Grow.of_same {o : Oper} {v : Value} {a a' : Act} (hy : Grow P ops C o v a) (he : execOp a'.eval o = execOp a.eval o)
  (hw : Region.wanted o (yielded ops a'.tmps) = Region.wanted o (yielded ops a.tmps)) : Grow P ops C o v a' := by
 unfold Grow at *
 rw [he, hw]
 exact hy
theorem Grow.of_quiet {o : Oper} {v : Value} {a : Act} (hp : plain2 o.op = true) (hy : YieldsIn P ops C o v a) : Grow P ops C o v a := by
 rcases hy with ⟨h1, h2⟩ | h
 ·refine .inl ⟨h1, fun w hw => ?_⟩
  have h3 := h2 w hw
  unfold Oper.quietAt at h3
  have h4 := plain2_only (P := P) hp a.eval w
  generalize (execOp a.eval o).run P w = r at h3 h4
  cases r with
  | ok n w' =>
   obtain ⟨u, rfl⟩ := h4 n w' rfl
   simp only [Oper.quietUpon] at h3
   obtain ⟨rfl, rfl⟩ := h3
   exact .inl rfl
  | halt x w' => exact absurd h3 (by simp [Oper.quietUpon])
 ·exact .inr h
def wpG (P : Program) (ops : Array Oper) (C : World → Prop) (Lq : Act → Prop) : List Oper → Act → Prop
 | [], a => Lq a
 | o :: l, a => ∃ v, Grow P ops C o v a ∧ wpG P ops C Lq l (a.put o.dst v)
theorem wpG_quiet {Lq K : Act → Prop} {l2 : List Oper} (hK : ∀ a, K a → wpG P ops C Lq l2 a) : ∀ (l : List Oper) (a : Act), (∀ o, o ∈ l → plain2 o.op = true) → wpQuiet P ops C K l a → wpG P ops C Lq (l ++ l2) a
 | [], a, _, h => hK a h
 | o :: l, a, hp, h => by
  have h' : if Region.wanted o (yielded ops a.tmps) then o.quiet P a C (wpQuiet P ops C K l) else wpQuiet P ops C K l (a.put o.dst undef) := h
  by_cases hw : Region.wanted o (yielded ops a.tmps) = true
  ·rw [if_pos hw] at h'
   obtain ⟨v, h1, h2⟩ := h'
   exact ⟨v, Grow.of_quiet (hp o (by simp)) (.inl ⟨hw, h1⟩), wpG_quiet hK l _ (fun o' ho' => hp o' (by simp [ho'])) h2⟩
  ·rw [if_neg hw] at h'
   exact ⟨undef, .inr ⟨by simpa using hw, rfl⟩, wpG_quiet hK l _ (fun o' ho' => hp o' (by simp [ho'])) h'⟩
end
section
variable {P : Program} {ops : Array Oper} {md : Region.Mode} {C : World → Prop}
structure HeadN (md : Region.Mode) (ops : Array Oper) (N n : Nat) (listed : Array Bool) : Prop where
 size : listed.size = ops.size
 closed : ∀ j oj, ops[j]? = some oj → listed.getD j false = true → ∀ e ∈ oj.after, Region.binds md e = true → listed.getD e.on false = true
 tail : ∀ t, N < t → t ≠ n → t < ops.size → listed.getD t true = false
theorem HeadN.set {N n i : Nat} {listed : Array Bool} (inv : HeadN md ops N n listed) (hi : i ∈ Region.ready md ops listed) (hin : i ≤ N ∨ i = n) : HeadN md ops N n (listed.setIfInBounds i true) := by
 obtain ⟨_, oi, hoi, hall⟩ := mem_ready.1 hi
 refine ⟨by simp [inv.size], fun j oj hj hl e he hb => ?_, fun t ht hn ht' => by rw [getD_set_ne true (by omega)]; exact inv.tail t ht hn ht'⟩
 by_cases hij : i = j
 ·subst hij
  have : oj = oi := Option.some.inj (hj.symm.trans hoi)
  subst this
  exact getD_set_true (hall e he hb)
 ·rw [getD_set_ne false hij] at hl
  exact getD_set_true (inv.closed j oj hj hl e he hb)
def lateN (md : Region.Mode) (ops : Array Oper) (N n : Nat) : Bool :=
 (List.range ops.size).all fun t => decide (t ≤ N) || t == n || Region.waitsFor md ops t N || (List.range ops.size).any fun u => decide (N < u) && u != n && Region.waitsFor md ops t u
theorem lastN {N n : Nat} {listed : Array Bool} (hN : N < ops.size) (hs : Region.sinkB md ops N = true) (inv : HeadN md ops N n listed) {i : Nat} (hi : i ≤ N) (hun : listed.getD i true = false) : listed.getD N true = false := by
 have key : ∀ d i, N - i = d → i ≤ N → listed.getD i true = false → listed.getD N true = false := by
  intro d
  induction d using Nat.strongRecOn with
  | _ d ih =>
   intro i hd hi hun
   rcases Nat.lt_or_ge i N with h | h
   ·obtain ⟨j, hj, hj2⟩ := List.any_eq_true.1 (List.all_eq_true.1 hs i (List.mem_range.2 h))
    simp only [Bool.and_eq_true, decide_eq_true_eq] at hj2
    have hjt := List.mem_range.1 hj
    obtain ⟨oj, hoj, e, he, hb, hon⟩ := Region.waitsFor_spec hj2.2
    cases hlj : listed.getD j false with
    | true =>
     have h2 := inv.closed j oj hoj hlj e he hb
     rw [hon, getD_both hun] at h2
     cases h2
    | false => exact ih (N - j) (by omega) j rfl (by omega) (getD_in (by rw [inv.size]; omega) hlj)
   ·obtain rfl : i = N := by omega
    exact hun
 exact key _ i rfl hi hun
theorem lateN_waits {N n : Nat} {listed : Array Bool} (hN : N < ops.size) (hs : Region.sinkB md ops N = true) (hl : lateN md ops N n = true) (inv : HeadN md ops N n listed) {i : Nat} (hi : i ≤ N) (hun : listed.getD i true = false) {t : Nat} (ht : N < t) (htn : t ≠ n) : t ∉ Region.ready md ops listed := by
 intro hr
 obtain ⟨_, ot, hot, hall⟩ := mem_ready.1 hr
 have htl : t < ops.size := (Array.getElem?_eq_some_iff.1 hot).1
 have h1 := List.all_eq_true.1 hl t (List.mem_range.2 htl)
 simp only [Bool.or_eq_true, decide_eq_true_eq, beq_iff_eq, htn, or_false] at h1
 rcases h1 with (h1 | h1) | h1
 ·omega
 ·obtain ⟨o', ho', e, he, hb, hon⟩ := Region.waitsFor_spec h1
  cases Option.some.inj (ho'.symm.trans hot)
  have h2 := hall e he hb
  rw [hon, getD_both (lastN hN hs inv hi hun)] at h2
  cases h2
 ·obtain ⟨u, hu, hu2⟩ := List.any_eq_true.1 h1
  simp only [Bool.and_eq_true, decide_eq_true_eq, bne_iff_ne] at hu2
  obtain ⟨o', ho', e, he, hb, hon⟩ := Region.waitsFor_spec hu2.2
  cases Option.some.inj (ho'.symm.trans hot)
  have h2 := hall e he hb
  rw [hon, getD_both (inv.tail u hu2.1.1 hu2.1.2 (List.mem_range.1 hu))] at h2
  cases h2
def WD (P : Program) (md : Region.Mode) (ops : Array Oper) (C : World → Prop) (N : Nat) (L : Array Bool → Act → Prop) : Nat → Array Bool → Act → Prop
 | 0, listed, a => L listed a
 | f + 1, listed, a => Region.ready md ops listed ≠ [] ∧ ∀ i ∈ Region.ready md ops listed, i ≤ N ∧ ∃ o v, ops[i]? = some o ∧ Grow P ops C o v a ∧ WD P md ops C N L f (listed.setIfInBounds i true) (a.put o.dst v)
def WN (P : Program) (md : Region.Mode) (ops : Array Oper) (C : World → Prop) (N n base : Nat) (dst : Option Nat) (L0 : Array Bool → Act → Prop) (L : Nat → Array Bool → Act → Prop) : Nat → Array Bool → Act → Prop
 | 0, listed, a => L0 listed a
 | f + 1, listed, a => Region.ready md ops listed ≠ [] ∧ ∀ i ∈ Region.ready md ops listed,
   (i ≤ N ∧ ∃ o v, ops[i]? = some o ∧ Grow P ops C o v a ∧ WN P md ops C N n base dst L0 L f (listed.setIfInBounds i true) (a.put o.dst v)) ∨
   (i = n ∧ ∀ X, base ≤ X → WD P md ops C N (L X) (f + 1) (listed.setIfInBounds n true) (a.put dst (.pointer (some ⟨X, 0, none⟩))))
theorem wpAny_WD {N g X : Nat} {ob : Obj} {L : Array Bool → Act → Prop} {Q : Exit → Act → World → Prop} (hC : ∀ w w', C w → Below w.heap.size w w' → C w')
  (hL : ∀ listed a w, C w → w.heap[X]? = some ob → L listed a → wpAny P md ops Q g listed a w) :
  ∀ (f : Nat) (listed : Array Bool) (a : Act) (w : World), C w → w.heap[X]? = some ob → WD P md ops C N L f listed a → wpAny P md ops Q (f + g) listed a w
 | 0, listed, a, w, hw, hx, h => by
  rw [Nat.zero_add]
  exact hL _ _ _ hw hx h
 | f + 1, listed, a, w, hw, hx, h => by
  rw [show f + 1 + g = (f + g) + 1 by omega]
  refine ⟨fun h0 => absurd h0 h.1, fun i hi => ?_⟩
  obtain ⟨hin, o, v, ho, hy, hk⟩ := h.2 i hi
  unfold wpOp
  simp only [ho]
  rcases hy with ⟨h1, h2⟩ | ⟨h1, rfl⟩
  ·simp only [h1, if_true]
   refine .inl ?_
   unfold Oper.wp
   rcases h2 w hw with h3 | ⟨fn, args, h3, h4⟩
   ·rw [h3]
    simp only [Oper.upon]
    exact wpAny_WD hC hL f _ _ w hw hx hk
   ·rw [h3]
    simp only [Oper.upon]
    refine h4.mono fun e w'' ⟨he, hl⟩ => ?_
    subst he
    exact wpAny_WD hC hL f _ _ w'' (hC _ _ hw hl) ((hl.block X (Array.getElem?_eq_some_iff.1 hx).1).trans hx) hk
  ·simp only [h1]
   exact wpAny_WD hC hL f _ _ w hw hx hk
theorem wpAny_WN {N n base g : Nat} {oA : Oper} {ob : Obj} {L0 : Array Bool → Act → Prop} {L : Nat → Array Bool → Act → Prop} {Q : Exit → Act → World → Prop} (hC : ∀ w w', C w → Below w.heap.size w w' → C w') (hb : ∀ w, C w → base ≤ w.heap.size)
  (hn : ops[n]? = some oA) (hg : oA.guard = none) (hA : ∀ ρ w, (execOp ρ oA).run P w = .ok (.value (.pointer (some ⟨w.heap.size, 0, none⟩))) (w.alloc ob))
  (hL0 : ∀ listed a w, C w → L0 listed a → wpAny P md ops Q (g + 1) listed a w)
  (hL : ∀ X listed a w, C w → base ≤ X → w.heap[X]? = some ob → L X listed a → wpAny P md ops Q g listed a w) :
  ∀ (f : Nat) (listed : Array Bool) (a : Act) (w : World), C w → WN P md ops C N n base oA.dst L0 L f listed a → wpAny P md ops Q (f + (g + 1)) listed a w
 | 0, listed, a, w, hw, h => by
  rw [Nat.zero_add]
  exact hL0 _ _ _ hw h
 | f + 1, listed, a, w, hw, h => by
  rw [show f + 1 + (g + 1) = (f + (g + 1)) + 1 by omega]
  refine ⟨fun h0 => absurd h0 h.1, fun i hi => ?_⟩
  rcases h.2 i hi with ⟨hin, o, v, ho, hy, hk⟩ | ⟨rfl, hk⟩
  ·unfold wpOp
   simp only [ho]
   rcases hy with ⟨h1, h2⟩ | ⟨h1, rfl⟩
   ·simp only [h1, if_true]
    refine .inl ?_
    unfold Oper.wp
    rcases h2 w hw with h3 | ⟨fn, args, h3, h4⟩
    ·rw [h3]
     simp only [Oper.upon]
     exact wpAny_WN hC hb hn hg hA hL0 hL f _ _ w hw hk
    ·rw [h3]
     simp only [Oper.upon]
     refine h4.mono fun e w'' ⟨he, hl⟩ => ?_
     subst he
     exact wpAny_WN hC hb hn hg hA hL0 hL f _ _ w'' (hC _ _ hw hl) hk
   ·simp only [h1]
    exact wpAny_WN hC hb hn hg hA hL0 hL f _ _ w hw hk
  ·have h1 : Region.wanted oA (yielded ops a.tmps) = true := by simp [Region.wanted, hg]
   unfold wpOp
   simp only [hn, h1, if_true]
   refine .inl ?_
   unfold Oper.wp
   rw [hA]
   simp only [Oper.upon]
   have := wpAny_WD (Q := Q) (g := g) (ob := ob) (X := w.heap.size) hC (fun listed a w' hw' hx hl => hL _ listed a w' hw' (hb w hw) hx hl) (f + 1) _ _ (w.alloc ob) (hC _ _ hw (Below.alloc (Below.refl _ _) (Nat.le_refl _) _)) (heap_alloc_new w ob) (hk _ (hb w hw))
   rw [show f + (g + 1) = f + 1 + g by omega]
   exact this
theorem WD_first {N n i : Nat} {oi : Oper} {v : Value} {L : Array Bool → Act → Prop} (hN : N < ops.size) (hi : ops[i]? = some oi) (hsel : ∀ (j : Nat) (o : Oper) cs b, ops[j]? = some o → o.op ≠ .select cs b)
  (hs : Region.sinkB md ops N = true) (hl : lateN md ops N n = true) (hin : i ≤ N) (hdone : ∀ listed a, L listed a → ∀ j ∈ Region.ready md ops listed, N < j) :
  ∀ (f : Nat) (listed : Array Bool) (a : Act), HeadN md ops N n listed → listed.getD n true = true →
   (∀ j oj, ops[j]? = some oj → j ≠ i → listed.getD j true = false → (∀ e ∈ oj.after, Region.binds md e = true → e.on ≠ i) → oi.apart ops oj = true) →
   i ∈ Region.ready md ops listed → Grow P ops C oi v a →
   WD P md ops C N L f (listed.setIfInBounds i true) (a.put oi.dst v) → WD P md ops C N L (f + 1) listed a
 | f, listed, a, inv, hnl, hfree, hr, hy, H => by
  have hun := (mem_ready.1 hr).1
  refine ⟨fun h => (by rw [h] at hr; cases hr), fun j hj => ?_⟩
  obtain ⟨hjun, oj, hoj, hall⟩ := mem_ready.1 hj
  have hjn : j ≤ N := Nat.le_of_not_lt fun h => lateN_waits hN hs hl inv hin hun h (fun e => by rw [e, hnl] at hjun; cases hjun) hj
  refine ⟨hjn, ?_⟩
  by_cases hji : j = i
  ·subst hji
   exact ⟨oi, v, hi, hy, H⟩
  ·match f, H with
   | 0, H => have := hdone _ _ H j (ready_mono hj hji); omega
   | f + 1, H =>
    have hnot : ∀ e ∈ oj.after, Region.binds md e = true → e.on ≠ i := fun e he hb heq => by
     have h1 := hall e he hb
     rw [heq, getD_both hun] at h1
     cases h1
    obtain ⟨p1, p2, p3⟩ := Oper.apart_spec (hfree j oj hoj hji hjun hnot)
    have hfree' : ∀ k ok, ops[k]? = some ok → k ≠ i → (listed.setIfInBounds j true).getD k true = false →
     (∀ e ∈ ok.after, Region.binds md e = true → e.on ≠ i) → oi.apart ops ok = true := fun k ok hk hki hun' hno => by
     refine hfree k ok hk hki ?_ hno
     by_cases hjk : j = k
     ·subst hjk; exact hjun
     ·rwa [getD_set_ne true hjk] at hun'
    obtain ⟨-, o, u, ho, gj, hk⟩ := H.2 j (ready_mono hj hji)
    obtain rfl : o = oj := by rw [hoj] at ho; exact (Option.some.inj ho).symm
    refine ⟨o, u, hoj, gj.of_same (execOp_put o (fun cs b => hsel j o cs b hoj) a oi.dst v p1).symm (wanted_put o a oi.dst v p1).symm, ?_⟩
    refine WD_first hN hi hsel hs hl hin hdone f (listed.setIfInBounds j true) _ (inv.set hj (.inl hjn)) ?_ hfree' (ready_mono hr (Ne.symm hji)) (hy.of_same (execOp_put oi (fun cs b => hsel i oi cs b hi) a o.dst u p3) (wanted_put oi a o.dst u p3)) ?_
    ·rw [getD_set_ne true (fun e => by rw [← e, hjun] at hnl; cases hnl)]
     exact hnl
    ·rw [Array.setIfInBounds_comm _ _ hji, ← Act.put_comm a v u p2]
     exact hk
theorem WN_first {N n base i : Nat} {oi oA : Oper} {v : Value} {L0 : Array Bool → Act → Prop} {L : Nat → Array Bool → Act → Prop} (hN : N < ops.size) (hNn : N < n) (hi : ops[i]? = some oi) (hn : ops[n]? = some oA) (hsel : ∀ (j : Nat) (o : Oper) cs b, ops[j]? = some o → o.op ≠ .select cs b)
  (hs : Region.sinkB md ops N = true) (hl : lateN md ops N n = true) (hin : i ≤ N) (hdone0 : ∀ listed a, L0 listed a → ∀ j ∈ Region.ready md ops listed, N < j) (hdone : ∀ X listed a, L X listed a → ∀ j ∈ Region.ready md ops listed, N < j)
  (hLn : ∀ X listed a, base ≤ X → L0 listed a → L X (listed.setIfInBounds n true) (a.put oA.dst (.pointer (some ⟨X, 0, none⟩)))) :
  ∀ (f : Nat) (listed : Array Bool) (a : Act), HeadN md ops N n listed →
   (∀ j oj, ops[j]? = some oj → j ≠ i → listed.getD j true = false → (∀ e ∈ oj.after, Region.binds md e = true → e.on ≠ i) → oi.apart ops oj = true) →
   i ∈ Region.ready md ops listed → Grow P ops C oi v a →
   WN P md ops C N n base oA.dst L0 L f (listed.setIfInBounds i true) (a.put oi.dst v) → WN P md ops C N n base oA.dst L0 L (f + 1) listed a
 | f, listed, a, inv, hfree, hr, hy, H => by
  have hun := (mem_ready.1 hr).1
  refine ⟨fun h => (by rw [h] at hr; cases hr), fun j hj => ?_⟩
  obtain ⟨hjun, oj, hoj, hall⟩ := mem_ready.1 hj
  by_cases hji : j = i
  ·subst hji
   exact .inl ⟨hin, oi, v, hi, hy, H⟩
  ·have hnot : ∀ e ∈ oj.after, Region.binds md e = true → e.on ≠ i := fun e he hb heq => by
    have h1 := hall e he hb
    rw [heq, getD_both hun] at h1
    cases h1
   obtain ⟨p1, p2, p3⟩ := Oper.apart_spec (hfree j oj hoj hji hjun hnot)
   have hfree' : ∀ k ok, ops[k]? = some ok → k ≠ i → (listed.setIfInBounds j true).getD k true = false →
     (∀ e ∈ ok.after, Region.binds md e = true → e.on ≠ i) → oi.apart ops ok = true := fun k ok hk hki hun' hno => by
    refine hfree k ok hk hki ?_ hno
    by_cases hjk : j = k
    ·subst hjk; exact hjun
    ·rwa [getD_set_ne true hjk] at hun'
   have keep : ∀ u, Grow P ops C oi v (a.put oj.dst u) := fun u => hy.of_same (execOp_put oi (fun cs b => hsel i oi cs b hi) a oj.dst u p3) (wanted_put oi a oj.dst u p3)
   by_cases hjn : j = n
   ·subst hjn
    obtain rfl : oA = oj := by rw [hoj] at hn; exact (Option.some.inj hn).symm
    have hset : (listed.setIfInBounds j true).getD j true = true := by
     have hjl : j < listed.size := by rw [inv.size]; exact (Array.getElem?_eq_some_iff.1 hoj).1
     simp [hjl]
    refine .inr ⟨rfl, fun X hX => ?_⟩
    refine WD_first hN hi hsel hs hl hin (hdone X) f (listed.setIfInBounds j true) _ (inv.set hj (.inr rfl)) hset hfree' (ready_mono hr (Ne.symm hji)) (keep _) ?_
    rw [Array.setIfInBounds_comm _ _ hji, ← Act.put_comm a v _ p2]
    match f, H with
    | 0, H => exact hLn X _ _ hX H
    | f + 1, H =>
     rcases H.2 j (ready_mono hj hji) with ⟨h1, -⟩ | ⟨-, hk⟩
     ·omega
     ·exact hk X hX
   ·have hjN : j ≤ N := Nat.le_of_not_lt fun h => lateN_waits hN hs hl inv hin hun h hjn hj
    match f, H with
    | 0, H => have := hdone0 _ _ H j (ready_mono hj hji); omega
    | f + 1, H =>
     rcases H.2 j (ready_mono hj hji) with ⟨h1, o, u, ho, gj, hk⟩ | ⟨h1, -⟩
     ·obtain rfl : o = oj := by rw [hoj] at ho; exact (Option.some.inj ho).symm
      refine .inl ⟨h1, o, u, hoj, gj.of_same (execOp_put o (fun cs b => hsel j o cs b hoj) a oi.dst v p1).symm (wanted_put o a oi.dst v p1).symm, ?_⟩
      refine WN_first hN hNn hi hn hsel hs hl hin hdone0 hdone hLn f (listed.setIfInBounds j true) _ (inv.set hj (.inl hjN)) hfree' (ready_mono hr (Ne.symm hji)) (keep u) ?_
      rw [Array.setIfInBounds_comm _ _ hji, ← Act.put_comm a v u p2]
      exact hk
     ·exact absurd h1 hjn
def partN (md : Region.Mode) (ops : Array Oper) (E : Array Bool → Bool) : Nat → Nat → Array Bool → Bool
 | 0, _, listed => E listed
 | f + 1, k, listed => (Region.ready md ops listed).contains k && Region.free md ops listed k && partN md ops E f (k + 1) (listed.setIfInBounds k true)
theorem N_lex {N n base : Nat} {oA : Oper} {Lq : Act → Prop} {E : Array Bool → Bool} {L : Nat → Array Bool → Act → Prop} (hN : N < ops.size) (hNn : N < n) (hn : ops[n]? = some oA) (hsel : Region.noSelect ops = true) (hs : Region.sinkB md ops N = true) (hl : lateN md ops N n = true)
  (hdone0 : ∀ listed, E listed = true → ∀ j ∈ Region.ready md ops listed, N < j) (hdone : ∀ X listed a, L X listed a → ∀ j ∈ Region.ready md ops listed, N < j)
  (hLn : ∀ X listed a, base ≤ X → (E listed = true ∧ Lq a) → L X (listed.setIfInBounds n true) (a.put oA.dst (.pointer (some ⟨X, 0, none⟩)))) :
  ∀ (l : List Oper) (k : Nat) (listed : Array Bool) (a : Act), (∀ j, j < l.length → l[j]? = ops[k + j]?) → k + l.length = N + 1 → HeadN md ops N n listed → partN md ops E l.length k listed = true →
  wpG P ops C Lq l a → WN P md ops C N n base oA.dst (fun listed' a' => E listed' = true ∧ Lq a') L l.length listed a
 | [], k, listed, a, _, _, _, hB, h => ⟨by simpa [partN] using hB, h⟩
 | o :: l, k, listed, a, hll, hk, inv, hB, h => by
  have h0 : ops[k]? = some o := by simpa using (hll 0 (by simp)).symm
  simp only [List.length_cons, partN, Bool.and_eq_true] at hB
  obtain ⟨⟨hr, hf⟩, hB'⟩ := hB
  have hkn : k ≤ N := by simp only [List.length_cons] at hk; omega
  have hr' : k ∈ Region.ready md ops listed := by simpa using hr
  obtain ⟨v, hy, hK⟩ := h
  exact WN_first hN hNn h0 hn (Region.noSelect_spec hsel) hs hl hkn (fun listed a h => hdone0 listed h.1) hdone hLn l.length listed a inv (Region.free_spec h0 hf) hr' hy
   (N_lex hN hNn hn hsel hs hl hdone0 hdone hLn l (k + 1) _ _ (fun j hj => by have := hll (j + 1) (by simp; omega); simpa [Nat.add_assoc, Nat.add_comm 1 j] using this) (by simp only [List.length_cons] at hk; omega) (inv.set hr' (.inl hkn)) hB' hK)
def wpP (P : Program) (ops : Array Oper) (K : Act → Prop) : List Oper → Act → Prop
 | [], a => K a
 | o :: l, a => ∃ v, Yields P ops o v a ∧ wpP P ops K l (a.put o.dst v)
theorem wpP_put {oA : Oper} {u : Value} {K K' : Act → Prop} (hK : ∀ a, K a → K' (a.put oA.dst u)) : ∀ (l : List Oper) (a : Act), (∀ o, o ∈ l → oA.apart ops o = true ∧ ∀ cs b, o.op ≠ .select cs b) → wpP P ops K l a → wpP P ops K' l (a.put oA.dst u)
 | [], a, _, h => hK a h
 | o :: l, a, ho, ⟨v, hy, h⟩ => by
  obtain ⟨ha, hs⟩ := ho o (by simp)
  obtain ⟨p1, p2, p3⟩ := Oper.apart_spec ha
  refine ⟨v, hy.of_same (execOp_put o hs a oA.dst u p1) (wanted_put o a oA.dst u p1), ?_⟩
  rw [Act.put_comm a u v p2]
  exact wpP_put hK l _ (fun o' ho' => ho o' (by simp [ho'])) h
theorem wpAny_pure {Q : Exit → Act → World → Prop} {K : Act → Prop} {E : Array Bool → Bool} {g : Nat} {w : World} (hsel : Region.noSelect ops = true) (hQ : ∀ c a d v w, Q (.panic c) (a.put d v) w → Q (.panic c) a w)
  (hK : ∀ listed a, E listed = true → K a → wpAny P md ops Q g listed a w) : ∀ (l : List Oper) (k : Nat) (listed : Array Bool) (a : Act), (∀ j, j < l.length → l[j]? = ops[k + j]?) → partN md ops E l.length k listed = true → wpP P ops K l a → wpAny P md ops Q (l.length + g) listed a w
 | [], k, listed, a, _, hB, h => by
  rw [List.length_nil, Nat.zero_add]
  exact hK listed a (by simpa [partN] using hB) h
 | o :: l, k, listed, a, hll, hB, ⟨v, hy, h⟩ => by
  have h0 : ops[k]? = some o := by simpa using (hll 0 (by simp)).symm
  simp only [List.length_cons, partN, Bool.and_eq_true] at hB
  obtain ⟨⟨hr, hf⟩, hB'⟩ := hB
  have hr' : k ∈ Region.ready md ops listed := by simpa using hr
  rw [show (o :: l).length + g = (l.length + g) + 1 by simp; omega]
  exact wpAny_first h0 (Region.noSelect_spec hsel) (fun c a w => hQ c a _ _ w) _ listed a w (Region.free_spec h0 hf) hr' hy
   (wpAny_pure hsel hQ hK l (k + 1) _ _ (fun j hj => by have := hll (j + 1) (by simp; omega); simpa [Nat.add_assoc, Nat.add_comm 1 j] using this) hB' h)
end
def end1 (l : List Oper) (N n : Nat) (listed : Array Bool) : Bool := partN .any l.toArray (fun listed' => Region.seqB .any l.toArray (l.length - (n + 1)) (n + 1) listed') (n - (N + 1)) (N + 1) listed && (Region.ready .any l.toArray listed).all fun j => decide (N < j)
def end0 (l : List Oper) (N n : Nat) (listed : Array Bool) : Bool := partN .any l.toArray (fun listed' => Region.seqB .any l.toArray (l.length - n) n listed') (n - (N + 1)) (N + 1) listed && ((Region.ready .any l.toArray listed).all fun j => decide (N < j)) && end1 l N n (listed.setIfInBounds n true)
def allocP (l : List Oper) (c N n : Nat) : Bool :=
 Region.noSelect l.toArray && decide (n < l.length) && decide (c ≤ N) && decide (N < n) && Region.sinkB .any l.toArray N && lateN .any l.toArray N n && partN .any l.toArray (end0 l N n) (N + 1) 0 (Array.replicate l.toArray.size false) && (l.take c).all (fun o => plain2 o.op) && ((l.take (N + 1)).drop (c + 1)).all (fun o => plain2 o.op) && ((l.take n).drop (N + 1)).all (fun o => match l[n]? with | some oA => oA.apart l.toArray o | none => false)
theorem alloc_pure {P : Program} {id : Nat} {Q : Exit → Act → World → Prop} {a : Act} {w : World} {l : List Oper} (c N n : Nat) (oc oA : Oper) (t : TypeId) (ob : Obj) (hc : l[c]? = some oc) (hn : l[n]? = some oA) (ho : oA.op = .alloc t) (hg : oA.guard = none)
  (hA : ∀ w, (Instr.alloc t true (.tuple #[])).run P w = .ok (.pointer (some ⟨w.heap.size, 0, none⟩)) (w.alloc ob)) (hm : P.follows .mixedOrders = true) (hB : allocP l c N n = true)
  (h : wpQuiet P l.toArray (fun w' => ∃ p : Bel w, w' = p.v) (fun a1 => ∃ v, Grow P l.toArray (fun w' => ∃ p : Bel w, w' = p.v) oc v a1 ∧
   wpQuiet P l.toArray (fun w' => ∃ p : Bel w, w' = p.v) (fun a2 => wpP P l.toArray (fun a3 => ∀ (p : Bel w) X, w.heap.size ≤ X → p.v.heap[X]? = some ob → wpList P l.toArray (NoPanic Q) (l.drop (n + 1)) (a3.put oA.dst (.pointer (some ⟨X, 0, none⟩))) p.v) ((l.take n).drop (N + 1)) a2) ((l.take (N + 1)).drop (c + 1)) (a1.put oc.dst v)) (l.take c) a) :
  (Code.region id l.toArray true).wp P Q a w := by
 simp only [allocP, Bool.and_eq_true, decide_eq_true_eq, List.all_eq_true, hn] at hB
 obtain ⟨⟨⟨⟨⟨⟨⟨⟨⟨hsel, hnl⟩, hcN⟩, hNn⟩, hs⟩, hl⟩, hp⟩, hp1⟩, hp2⟩, hap⟩ := hB
 have hN : N < l.toArray.size := by simp; omega
 have hn' : l.toArray[n]? = some oA := by simpa using hn
 have htl : (l.take (N + 1)).length = N + 1 := by simp; omega
 have hpl : ((l.take n).drop (N + 1)).length = n - (N + 1) := by simp; omega
 have hdl : (l.drop (n + 1)).length = l.length - (n + 1) := by simp
 have hdl0 : (l.drop n).length = l.length - n := by simp
 have hpj : ∀ j, j < ((l.take n).drop (N + 1)).length → ((l.take n).drop (N + 1))[j]? = l.toArray[N + 1 + j]? := fun j hj => by
  rw [hpl] at hj
  rw [List.getElem?_drop, List.getElem?_take_of_lt (by omega)]
  simp
 have inv0 : HeadN .any l.toArray N n (Array.replicate l.toArray.size false) :=
  ⟨by simp, fun j oj _ hl => (by rw [getD_replicate_false] at hl; cases hl), fun t _ _ ht => getD_in (by simpa using ht) (getD_replicate_false _ _)⟩
 have hcut : l.take (N + 1) = l.take c ++ oc :: (l.take (N + 1)).drop (c + 1) := by
  have h1 : (l.take (N + 1))[c]? = some oc := by rw [List.getElem?_take, if_pos (by omega)]; exact hc
  have h2 : c < (l.take (N + 1)).length := by omega
  rw [List.getElem?_eq_getElem h2] at h1
  have h3 : (l.take (N + 1)).take c = l.take c := by rw [List.take_take]; congr 1; omega
  have h4 := List.take_append_drop c (l.take (N + 1))
  rw [h3, List.drop_eq_getElem_cons h2, Option.some.inj h1] at h4
  exact h4.symm
 have hQ : ∀ c a d v w, NoPanic Q (.panic c) (a.put d v) w → NoPanic Q (.panic c) a w := fun c a d v w h => (h : False).elim
 have hA' : ∀ ρ w, (execOp ρ oA).run P w = .ok (.value (.pointer (some ⟨w.heap.size, 0, none⟩))) (w.alloc ob) := fun ρ w1 => by
  unfold execOp
  rw [ho]
  dsimp only
  rw [Sem.run_bind, hA]
  rfl
 have hC : ∀ w1 w2, (∃ p : Bel w, w1 = p.v) → Below w1.heap.size w1 w2 → ∃ p : Bel w, w2 = p.v := fun w1 w2 ⟨p, hp⟩ hl => by subst hp; exact ⟨⟨w2, p.h.trans (hl.mono p.h.size)⟩, rfl⟩
 have G : wpG P l.toArray (fun w' => ∃ p : Bel w, w' = p.v) (fun a2 => wpP P l.toArray (fun a3 => ∀ (p : Bel w) X, w.heap.size ≤ X → p.v.heap[X]? = some ob → wpList P l.toArray (NoPanic Q) (l.drop (n + 1)) (a3.put oA.dst (.pointer (some ⟨X, 0, none⟩))) p.v) ((l.take n).drop (N + 1)) a2) (l.take (N + 1)) a := by
  rw [hcut]
  refine wpG_quiet (fun a1 ⟨v, h1, h2⟩ => ?_) _ a hp1 h
  refine ⟨v, h1, ?_⟩
  have := wpG_quiet (l2 := []) (K := fun a2 => wpP P l.toArray (fun a3 => ∀ (p : Bel w) X, w.heap.size ≤ X → p.v.heap[X]? = some ob → wpList P l.toArray (NoPanic Q) (l.drop (n + 1)) (a3.put oA.dst (.pointer (some ⟨X, 0, none⟩))) p.v) ((l.take n).drop (N + 1)) a2) (Lq := fun a2 => wpP P l.toArray (fun a3 => ∀ (p : Bel w) X, w.heap.size ≤ X → p.v.heap[X]? = some ob → wpList P l.toArray (NoPanic Q) (l.drop (n + 1)) (a3.put oA.dst (.pointer (some ⟨X, 0, none⟩))) p.v) ((l.take n).drop (N + 1)) a2) (fun a2 h3 => h3) _ _ hp2 h2
  rwa [List.append_nil] at this
 have H := N_lex (md := .any) (base := w.heap.size) (E := end0 l N n) (L := fun X listed' a' => end1 l N n listed' = true ∧ wpP P l.toArray (fun a3 => ∀ (p : Bel w), p.v.heap[X]? = some ob → wpList P l.toArray (NoPanic Q) (l.drop (n + 1)) a3 p.v) ((l.take n).drop (N + 1)) a') hN hNn hn' hsel hs hl
  (fun listed hE j hj => by
   simp only [end0, Bool.and_eq_true, List.all_eq_true, decide_eq_true_eq] at hE
   exact hE.1.2 j hj)
  (fun X listed a' hE j hj => by
   have hE := hE.1
   simp only [end1, Bool.and_eq_true, List.all_eq_true, decide_eq_true_eq] at hE
   exact hE.2 j hj)
  (fun X listed a' hX ⟨hE, hq⟩ => by
   refine ⟨?_, wpP_put (fun a3 h3 p hx => h3 p X hX hx) _ _ (fun o ho' => ⟨by simpa using hap o ho', fun cs b hop => ?_⟩) hq⟩
   ·simp only [end0, Bool.and_eq_true] at hE
    exact hE.2
   ·obtain ⟨j, hj⟩ := List.getElem?_of_mem ho'
    have hjl := (List.getElem?_eq_some_iff.1 hj).1
    exact Region.noSelect_spec hsel (N + 1 + j) o cs b (by rw [← hpj j hjl]; exact hj) hop)
  (l.take (N + 1)) 0 _ a (fun j hj => by
   have hj' : j < N + 1 := by rw [htl] at hj; exact hj
   simp [hj']) (by rw [htl]; omega) inv0 (by rw [htl]; exact hp) G
 refine wp_region_noPanic (wp_region_any hm ?_)
 have := wpAny_WN (Q := NoPanic Q) (g := (n - (N + 1)) + (l.length - (n + 1))) (ob := ob) hC (fun w1 ⟨p, hp⟩ => by subst hp; exact p.h.size) hn' hg hA'
  (fun listed a' w' hw' ⟨hE, hq⟩ => by
   simp only [end0, Bool.and_eq_true] at hE
   have := wpAny_pure (md := .any) (Q := NoPanic Q) (g := l.length - n) (w := w') hsel hQ (fun listed2 a3 hE2 h3 => by
    have h4 : wpList P l.toArray (NoPanic Q) (l.drop n) a3 w' := by
     have hd : l.drop n = oA :: l.drop (n + 1) := by
      have hlt : n < l.length := hnl
      rw [List.drop_eq_getElem_cons hlt]
      rw [List.getElem?_eq_getElem hlt] at hn
      rw [Option.some.inj hn]
     rw [hd]
     obtain ⟨p, hp⟩ := hw'
     subst hp
     have h5 : wpOp P l.toArray (NoPanic Q) n (wpList P l.toArray (NoPanic Q) (l.drop (n + 1))) a3 p.v := by
      have h1 : Region.wanted oA (yielded l.toArray a3.tmps) = true := by simp [Region.wanted, hg]
      unfold wpOp
      simp only [hn', h1, if_true]
      refine .inl ?_
      unfold Oper.wp
      rw [hA']
      simp only [Oper.upon]
      exact h3 ⟨p.v.alloc ob, p.h.trans ((Below.alloc (Below.refl _ _) (Nat.le_refl _) _).mono p.h.size)⟩ p.v.heap.size p.h.size (heap_alloc_new p.v ob)
     unfold wpOp at h5
     simp only [hn'] at h5
     exact h5
    have := wpAny_of_seq (md := .any) (Q' := NoPanic Q) (l.drop n) n listed2 a3 w' (fun j => by simp [List.getElem?_drop]) (by rw [hdl0]; exact hE2) h4
    rwa [hdl0] at this) ((l.take n).drop (N + 1)) (N + 1) listed a' hpj (by rw [hpl]; exact hE.1.1) hq
   rw [hpl] at this
   rw [show n - (N + 1) + (l.length - (n + 1)) + 1 = n - (N + 1) + (l.length - n) by omega]
   exact this)
  (fun X listed a' w' hw' hX hx ⟨hE, hq⟩ => by
   simp only [end1, Bool.and_eq_true] at hE
   have := wpAny_pure (md := .any) (Q := NoPanic Q) (g := l.length - (n + 1)) (w := w') hsel hQ (fun listed2 a3 hE2 h3 => by
    obtain ⟨p, hp⟩ := hw'
    subst hp
    have := wpAny_of_seq (md := .any) (Q' := NoPanic Q) (l.drop (n + 1)) (n + 1) listed2 a3 p.v (fun j => by simp [List.getElem?_drop]) (by rw [hdl]; exact hE2) (h3 p hx)
    rwa [hdl] at this) ((l.take n).drop (N + 1)) (N + 1) listed a' hpj (by rw [hpl]; exact hE.1) hq
   rw [hpl] at this
   exact this) _ _ _ w.drew (⟨⟨w.drewN 1, below_drewN (Below.refl _ _) 1⟩, rfl⟩ : ∃ p : Bel w, w.drew = p.v) H
 rw [htl, show N + 1 + (n - (N + 1) + (l.length - (n + 1)) + 1) = l.toArray.size by simp; omega] at this
 exact this
end Go.Proofs.YtlkengnefhhppaaGreatDoor.Kg
