import Derived.Test.YtlkengnefhhppaaGreatDoorPQd
import Derived.Test.YtlkengnefhhppaaGreatDoorPBb
set_option linter.unusedVariables false
set_option maxHeartbeats 8000000
set_option maxRecDepth 20000
namespace Go.Proofs.YtlkengnefhhppaaGreatDoor
open Go.RowKit Go.Shelf
abbrev plcells (lb b sb rb vb bb : Nat) (mark : Int) : Array Value := #[.pointer (some ⟨lb, 0, none⟩), .pointer (some ⟨b, 0, none⟩), .pointer (some ⟨sb, 0, none⟩), .pointer (some ⟨rb, 0, none⟩), .pointer (some ⟨vb, 0, none⟩), .pointer (some ⟨bb, 0, none⟩), .int .i64 mark]
structure Pm (w1 : World) (n1 : Nat) (w : World) (pb lb sb b g mb : Nat) (lv : Value) (vb rb : Nat) (rg : Nat → Nat) (rl : Value) (bb : Nat) (c : Cfg) (L : List LT) (x : Tps) (sw : Bool) (ws : Nat → Int) (th : List Tng) (l : List Int) (n : Nat) (mark : Int) : Prop where
 bo : Bo6 w1 n1 w sb b g mb lv vb rb rg rl c x sw ws th l n
 own : w.heap[pb]? = some (.cells (plcells lb b sb rb vb bb mark) 77 (0, 0))
 ly : Ly n1 w lb c L
 lok : LOk c L
 pz : ∀ z, plc L z = 0 ∨ ∃ T, T ∈ th ∧ T.at_ = plc L z
 lo : n1 ≤ pb
 np : pb ∉ pF sb b g mb lv ++ dF vb rb rg rl
abbrev aF (pb sb b g mb : Nat) (lv : Value) (vb rb : Nat) (rg : Nat → Nat) (rl : Value) : List Nat := pb :: (pF sb b g mb lv ++ dF vb rb rg rl)
section
variable {w1 w w' : World} {n1 pb lb sb b g mb n n' : Nat} {lv lv' : Value} {c : Cfg} {L : List LT} {x x' : Tps} {sw sw' : Bool} {ws ws' : Nat → Int} {th th' : List Tng} {l l' : List Int} {vb rb bb m : Nat} {rg : Nat → Nat} {rl rl' : Value} {mark mark' : Int} {L0 : List (Option (Value × List Int))}
theorem Bo6.mono (B : Bo6 w1 n1 w sb b g mb lv vb rb rg rl c x sw ws th l n) (h : n ≤ n') : Bo6 w1 n1 w sb b g mb lv vb rb rg rl c x sw ws th l n' :=
 ⟨B.rm.mono h, B.dx, B.ap, B.lo, B.tn, B.nd⟩
theorem Pm.lt (H : Pm w1 n1 w pb lb sb b g mb lv vb rb rg rl bb c L x sw ws th l n mark) : pb < w.heap.size := (Array.getElem?_eq_some_iff.1 H.own).1
theorem Pm.cell (H : Pm w1 n1 w pb lb sb b g mb lv vb rb rg rl bb c L x sw ws th l n mark) (j : Nat) : w.cell? ⟨pb, j, none⟩ = (plcells lb b sb rb vb bb mark)[j]? := cell_of_row _ _ j _ _ _ H.own
theorem Pm.stq : Stq n1 (aF pb sb b g mb lv vb rb rg rl) (fun w => Pm w1 n1 w pb lb sb b g mb lv vb rb rg rl bb c L x sw ws th l n mark) :=
 ⟨fun w w' G h t hF hn => ⟨h.bo.touch t (fun q hq => hF q (List.mem_cons_of_mem _ hq)) hn, (t.block pb h.lt (hF pb (List.mem_cons_self ..))).trans h.own, h.ly.below (t.below h.bo.rm.hsz hn), h.lok, h.pz, h.lo, h.np⟩,
  fun w h q hq => by
   rcases List.mem_cons.1 hq with rfl | hq
   ·exact h.lt
   ·exact h.bo.lts q hq⟩
theorem Pm.below (H : Pm w1 n1 w pb lb sb b g mb lv vb rb rg rl bb c L x sw ws th l n mark) (h : Below w.heap.size w w') : Pm w1 n1 w' pb lb sb b g mb lv vb rb rg rl bb c L x sw ws th l n mark :=
 Pm.stq.keep _ _ [] H (Touch.of_below h []) (by simp) (by simp)
theorem Px.next (h : Px w1 w n1 bb m (aF pb sb b g mb lv vb rb rg rl) (fun w => Pm w1 n1 w pb lb sb b g mb lv vb rb rg rl bb c L x sw ws th l n mark) L0) (B : Bo6 w1 n1 w' sb b g mb lv' vb rb rg rl' c x' sw' ws' th' l' n') (t : Touch (pF sb b g mb lv ++ dF vb rb rg rl) w w') (hn : Kg.Newer w.heap.size (pF sb b g mb lv ++ dF vb rb rg rl) (pF sb b g mb lv' ++ dF vb rb rg rl')) (hat : ∀ T, T ∈ th → ∃ U, U ∈ th' ∧ U.at_ = T.at_) :
  Px w1 w' n1 bb m (aF pb sb b g mb lv' vb rb rg rl') (fun w => Pm w1 n1 w pb lb sb b g mb lv' vb rb rg rl' bb c L x' sw' ws' th' l' n' mark) L0 := by
 have H := h.p
 have hsz := H.bo.rm.hsz
 refine h.step Pm.stq ⟨B, (t.block pb H.lt H.np).trans H.own, H.ly.below (t.below hsz H.bo.los), H.lok, fun z => ?_, H.lo, fun hm => ?_⟩ (t.wide (fun y hy => List.mem_cons_of_mem _ hy)) (fun k hk => ?_)
 ·rcases H.pz z with h1 | ⟨T, h1, h2⟩
  ·exact .inl h1
  ·obtain ⟨U, h3, h4⟩ := hat T h1
   exact .inr ⟨U, h3, h4.trans h2⟩
 ·rcases hn pb hm with h1 | h1
  ·exact H.np h1
  ·have := H.lt; omega
 ·rcases List.mem_cons.1 hk with rfl | hk
  ·exact .inl (List.mem_cons_self ..)
  ·rcases hn k hk with h1 | h1
   ·exact .inl (List.mem_cons_of_mem _ h1)
   ·exact .inr h1
theorem Px.setMark (h : Px w1 w n1 bb m (aF pb sb b g mb lv vb rb rg rl) (fun w => Pm w1 n1 w pb lb sb b g mb lv vb rb rg rl bb c L x sw ws th l n mark) L0) (mark' : Int) :
  Px w1 (w.setCell ⟨pb, 6, none⟩ (.int .i64 mark')) n1 bb m (aF pb sb b g mb lv vb rb rg rl) (fun w => Pm w1 n1 w pb lb sb b g mb lv vb rb rg rl bb c L x sw ws th l n mark') L0 := by
 have H := h.p
 have t : Touch [pb] w (w.setCell ⟨pb, 6, none⟩ (.int .i64 mark')) := Touch.setCell _ _ _ (by simp)
 refine h.step Pm.stq ⟨H.bo.touch t (fun q hq hm => H.np (by simp at hm; rw [← hm]; exact hq)) (fun q hq => by simp at hq; rw [hq]; exact H.lo), ?_, H.ly.below (t.below H.bo.rm.hsz (fun q hq => by simp at hq; rw [hq]; exact H.lo)), H.lok, H.pz, H.lo, H.np⟩ (t.wide (fun y hy => by simp at hy; simp [hy])) (Kg.Newer.refl _ _)
 simp [World.setCell, Array.getElem?_modify, H.own]
end
def Ps (w1 : World) (n1 : Nat) (w : World) (pb lb sb b g mb vb rb : Nat) (rg : Nat → Nat) (bb : Nat) (c : Cfg) (L : List LT) (m n : Nat) : Prop :=
 ∃ lv rl x sw ws th l, Px w1 w n1 bb m (aF pb sb b g mb lv vb rb rg rl) (fun w => Pm w1 n1 w pb lb sb b g mb lv vb rb rg rl bb c L x sw ws th l n (1000 * (m : Int))) [none]
section
variable {w1 w w' : World} {n1 pb lb sb b g mb n n' : Nat} {lv lv' : Value} {c : Cfg} {L : List LT} {x x' : Tps} {sw sw' : Bool} {ws ws' : Nat → Int} {th th' : List Tng} {l l' : List Int} {vb rb bb m : Nat} {rg : Nat → Nat} {rl rl' : Value} {mark mark' : Int} {L0 : List (Option (Value × List Int))}
theorem Px.mono (h : Px w1 w n1 bb m (aF pb sb b g mb lv vb rb rg rl) (fun w => Pm w1 n1 w pb lb sb b g mb lv vb rb rg rl bb c L x sw ws th l n mark) L0) (hn : n ≤ n') : Px w1 w n1 bb m (aF pb sb b g mb lv vb rb rg rl) (fun w => Pm w1 n1 w pb lb sb b g mb lv vb rb rg rl bb c L x sw ws th l n' mark) L0 :=
 ⟨h.ex, Pm.stq, ⟨h.p.bo.mono hn, h.p.own, h.p.ly, h.p.lok, h.p.pz, h.p.lo, h.p.np⟩, h.l, h.hb, h.be⟩
theorem Ps.mono (S : Ps w1 n1 w pb lb sb b g mb vb rb rg bb c L m n) (h : n ≤ n') : Ps w1 n1 w pb lb sb b g mb vb rb rg bb c L m n' := by
 obtain ⟨lv, rl, x, sw, ws, th, l, P⟩ := S
 exact ⟨lv, rl, x, sw, ws, th, l, P.mono h⟩
theorem Px.nx (h : Px w1 w n1 bb m (aF pb sb b g mb lv vb rb rg rl) (fun w => Pm w1 n1 w pb lb sb b g mb lv vb rb rg rl bb c L x sw ws th l n (1000 * (m : Int))) [none]) {k : Nat} (hN : Nx6 w1 n1 w sb b g mb lv vb rb rg rl c x sw th n k w') : Ps w1 n1 w' pb lb sb b g mb vb rb rg bb c L m (n + k) := by
 obtain ⟨lv', rl', ws', th', l', n', B, t, hn, hk, hat⟩ := hN
 exact ⟨lv', rl', x, sw, ws', th', l', (h.next B t hn hat).mono hk⟩
theorem store6_any (S : Ps w1 n1 w pb lb sb b g mb vb rb rg bb c L m n) (hn : n ≤ 576460752303423488) (a f z : Int) :
  Calls Tryz.prog 19 #[.pointer (some ⟨pb, 0, none⟩), .int .i64 a, .int .i64 f, .int .i64 z] w fun e w' => e = .returned (.bool true) ∧ Ps w1 n1 w' pb lb sb b g mb vb rb rg bb c L m (n + 1) := by
 obtain ⟨lv, rl, x, sw, ws, th, l, P⟩ := S
 have HP : Hid (Px w1 w n1 bb m (aF pb sb b g mb lv vb rb rg rl) (fun w => Pm w1 n1 w pb lb sb b g mb lv vb rb rg rl bb c L x sw ws th l n (1000 * (m : Int))) [none]) := P
 have hs := seems6_any (P.p.cell 3) P.p.bo.dx.rx a
 clear P
 go_enter Tryz.func19, Tryz.ntmps19
 go_wp2_with fail
 refine hs.mono ?_
 rintro e w2 ⟨bs, rfl, hbs, l2⟩
 have HP2 : Hid (Px w1 w2 n1 bb m (aF pb sb b g mb lv vb rb rg rl) (fun w => Pm w1 n1 w pb lb sb b g mb lv vb rb rg rl bb c L x sw ws th l n (1000 * (m : Int))) [none]) := HP.out.below l2
 have Hbs : Hid (bs = false → Adr c x ws th a) := hbs
 clear hs hbs l2 HP
 cases bs
 case true =>
  have HE : Hid (Ps w1 n1 w2 pb lb sb b g mb vb rb rg bb c L m (n + 1)) := Ps.mono ⟨lv, rl, x, sw, ws, th, l, HP2.out⟩ (by omega)
  go_wp2
  go_ret
  exact ⟨rfl, HE.out⟩
 have Ha : Hid (Adr c x ws th a) := Hbs.out rfl
 have hs := seems6_any (HP2.out.p.cell 3) HP2.out.p.bo.dx.rx z
 clear Hbs
 go_wp2_with fail
 refine hs.mono ?_
 rintro e w3 ⟨bs, rfl, hbs, l3⟩
 have HP3 : Hid (Px w1 w3 n1 bb m (aF pb sb b g mb lv vb rb rg rl) (fun w => Pm w1 n1 w pb lb sb b g mb lv vb rb rg rl bb c L x sw ws th l n (1000 * (m : Int))) [none]) := HP2.out.below l3
 have Hbs : Hid (bs = false → Adr c x ws th z) := hbs
 clear hs hbs l3 HP2
 cases bs
 case true =>
  have HE : Hid (Ps w1 n1 w3 pb lb sb b g mb vb rb rg bb c L m (n + 1)) := Ps.mono ⟨lv, rl, x, sw, ws, th, l, HP3.out⟩ (by omega)
  go_wp2
  go_ret
  exact ⟨rfl, HE.out⟩
 have k2 : w3.cell? ⟨pb, 2, none⟩ = some (.pointer (some ⟨sb, 0, none⟩)) := HP3.out.p.cell 2
 have k4 : w3.cell? ⟨pb, 4, none⟩ = some (.pointer (some ⟨vb, 0, none⟩)) := HP3.out.p.cell 4
 have hst := HP3.out.p.bo.store a f z Ha.out (Hbs.out rfl) hn
 have Hnp : Hid (pb ∉ pF sb b g mb lv ++ dF vb rb rg rl ∧ pb < w3.heap.size) := ⟨HP3.out.p.np, HP3.out.p.lt⟩
 clear Hbs Ha
 go_wp2_with fail
 refine hst.mono ?_
 rintro e w4 ⟨E, rfl, t4, hd⟩
 have k4' : w4.cell? ⟨pb, 4, none⟩ = some (.pointer (some ⟨vb, 0, none⟩)) := (World.cell?_of_block (w := w3) (t4.block pb Hnp.out.2 (fun hm => Hnp.out.1 (List.mem_append.2 (.inl hm))))).trans k4
 have hd4 := hd w4 (Below.refl _ _)
 clear hst k2 k4 hd t4
 go_wp2_with fail
 refine hd4.mono ?_
 rintro e w5 ⟨rfl, hN⟩
 have HE : Hid (Ps w1 n1 w5 pb lb sb b g mb vb rb rg bb c L m (n + 1)) := HP3.out.nx hN
 clear hd4 hN HP3 k4'
 go_wp2
 go_ret
 exact ⟨rfl, HE.out⟩
end
section
variable {w1 w w' : World} {n1 pb lb sb b g mb n n' : Nat} {lv lv' : Value} {c : Cfg} {L : List LT} {x x' : Tps} {sw sw' : Bool} {ws ws' : Nat → Int} {th th' : List Tng} {l l' : List Int} {vb rb bb m : Nat} {rg : Nat → Nat} {rl rl' : Value} {mark mark' : Int} {L0 : List (Option (Value × List Int))}
theorem list6_any (S : Ps w1 n1 w pb lb sb b g mb vb rb rg bb c L m n) (hm : m < 300000000) :
  Calls Tryz.prog 7 #[.pointer (some ⟨pb, 0, none⟩)] w fun e w' => e = .returned (.bool true) ∧ Ps w1 n1 w' pb lb sb b g mb vb rb rg bb c L (m + 3) n := by
 obtain ⟨lv, rl, x, sw, ws, th, l, P⟩ := S
 have hfew := P.p.bo.few
 have HP : Hid (Px w1 w n1 bb (m + 0) (aF pb sb b g mb lv vb rb rg rl) (fun w => Pm w1 n1 w pb lb sb b g mb lv vb rb rg rl bb c L x sw ws th l n (1000 * ((m + 0 : Nat) : Int))) [none]) := P
 clear P
 go_enter Tryz.func7, Tryz.ntmps7
 go_wp2
 go_loopw [3] (fun v3 wr => ∃ k : Nat, k ≤ 3 ∧ v3 = .int .i64 k ∧ Hid (Px w1 wr n1 bb (m + k) (aF pb sb b g mb lv vb rb rg rl) (fun w => Pm w1 n1 w pb lb sb b g mb lv vb rb rg rl bb c L x sw ws th l n (1000 * ((m + k : Nat) : Int))) [none])) (fun v3 _ => 3 - (intOf v3).toNat)
 case atStart => exact ⟨0, Nat.zero_le _, rfl, HP⟩
 case round =>
  obtain ⟨k, hk, rfl, HQ⟩ := hrel
  clear HP
  by_cases hkl : k < 3
  ·have hkI : (k : Int) < 3 := by omega
   obtain ⟨M, hM⟩ : ∃ M : Int, M = 1000 * ((m + k : Nat) : Int) := ⟨_, rfl⟩
   have Hkm : Hid (m + k < 400000000 ∧ M + 1000 = 1000 * ((m + (k + 1) : Nat) : Int)) := by show _ ∧ _; omega
   have hM0 : 0 ≤ M := by omega
   have hM1 : M ≤ 1000000000000 := by omega
   rw [← hM] at HQ
   clear hM
   have k2 : wr.cell? ⟨pb, 2, none⟩ = some (.pointer (some ⟨sb, 0, none⟩)) := HQ.out.p.cell 2
   have hs := sList_any HQ.out.p.bo.rm.rs (by omega)
   go_wp2_with fail
   refine hs.mono ?_
   rintro e w2 ⟨v, rfl, hrow, l2⟩
   have HQ2 : Hid (Px w1 w2 n1 bb (m + k) (aF pb sb b g mb lv vb rb rg rl) (fun w => Pm w1 n1 w pb lb sb b g mb lv vb rb rg rl bb c L x sw ws th l n M) [some (v, l)]) := HQ.out.newB l2 hrow 0
   obtain ⟨av, cap, rfl⟩ := own_sl hrow
   clear hs l2 HQ k2 hrow
   have k4 : w2.cell? ⟨pb, 4, none⟩ = some (.pointer (some ⟨vb, 0, none⟩)) := HQ2.out.p.cell 4
   have hd := r6List_any HQ2.out.p.bo.dx (by omega)
   go_wp2_with fail
   refine hd.mono ?_
   rintro e w3 ⟨v3, rfl, hrow3, l3⟩
   have HQ3 : Hid (Px w1 w3 n1 bb (m + k) (aF pb sb b g mb lv vb rb rg rl) (fun w => Pm w1 n1 w pb lb sb b g mb lv vb rb rg rl bb c L x sw ws th l n M) [some (.slice av l.length cap, l)]) := HQ2.out.below l3
   have hsm := sameInts6_yes (.slice av l.length cap) v3 l w3.heap.size w3 (Lrd.of_row (row_zero0 (HQ3.out.row (i := 0) rfl))) (Lrd.of_row (row_zero0 hrow3)) (Nat.le_refl _) (by omega)
   obtain ⟨av3, cap3, rfl⟩ := own_sl hrow3
   clear hd l3 HQ2 k4 hrow3
   go_wp2_with fail
   refine hsm.mono ?_
   rintro e w4 ⟨rfl, l4⟩
   have HQ4 : Hid (Px w1 w4 n1 bb (m + k) (aF pb sb b g mb lv vb rb rg rl) (fun w => Pm w1 n1 w pb lb sb b g mb lv vb rb rg rl bb c L x sw ws th l n M) [some (.slice av l.length cap, l)]) := HQ3.out.below l4
   clear hsm l4 HQ3
   have k5 : w4.cell? ⟨pb, 5, none⟩ = some (.pointer (some ⟨bb, 0, none⟩)) := HQ4.out.p.cell 5
   have hh := HQ4.out.hold Hkm.out.1
   go_wp2_with fail
   refine hh.mono ?_
   rintro e w5 ⟨rfl, P5⟩
   have HQ5 : Hid (Px w1 w5 n1 bb (m + k) (aF pb sb b g mb lv vb rb rg rl) (fun w => Pm w1 n1 w pb lb sb b g mb lv vb rb rg rl bb c L x sw ws th l n M) [some (.slice av l.length cap, l)]) := P5
   clear hh P5 HQ4 k5
   have k6 : w5.cell? ⟨pb, 6, none⟩ = some (.int .i64 M) := HQ5.out.p.cell 6
   have f6 : w5.frozen? ⟨pb, 6, none⟩ = false := by
    unfold World.frozen?
    simp only [HQ5.out.p.own]
    simp
   have HQ6 : Hid (Px w1 (w5.setCell ⟨pb, 6, none⟩ (.int .i64 (M + 1000))) n1 bb (m + k) (aF pb sb b g mb lv vb rb rg rl) (fun w => Pm w1 n1 w pb lb sb b g mb lv vb rb rg rl bb c L x sw ws th l n (M + 1000)) [some (.slice av l.length cap, l)]) := HQ5.out.setMark _
   go_upto_region 8 with fail
   generalize w5.setCell ⟨pb, 6, none⟩ (.int .i64 (M + 1000)) = w6 at *
   clear k6 f6 HQ5
   have bd : Below w6.heap.size w6 w6.drew := below_drewN (Below.refl _ _) 1
   have HQ7 : Hid (Px w1 w6.drew n1 bb (m + k) (aF pb sb b g mb lv vb rb rg rl) (fun w => Pm w1 n1 w pb lb sb b g mb lv vb rb rg rl bb c L x sw ws th l n (M + 1000)) [some (.slice av l.length cap, l)]) := HQ6.out.below bd
   have k5 : w6.cell? ⟨pb, 5, none⟩ = some (.pointer (some ⟨bb, 0, none⟩)) := HQ6.out.p.cell 5
   have k6 : w6.cell? ⟨pb, 6, none⟩ = some (.int .i64 (M + 1000)) := HQ6.out.p.cell 6
   have hint := HQ7.out.ints Hkm.out.1 (i := 0) rfl (by omega) (M + 1000) (by omega) (by omega)
   clear bd HQ6
   refine quiet_tail 9 mixed (by kernel_rfl) ?_
   simp only [List.take_succ_cons, List.take_zero, List.drop_succ_cons, List.drop_zero]
   repeat (go_big_quiet_step (fail))
   refine wpQuiet_nil ?_
   go_wp2_with fail
   refine hint.mono ?_
   rintro e w8 ⟨rfl, P8⟩
   have HQ8 : Hid (Px w1 w8 n1 bb (m + (k + 1)) (aF pb sb b g mb lv vb rb rg rl) (fun w => Pm w1 n1 w pb lb sb b g mb lv vb rb rg rl bb c L x sw ws th l n (1000 * ((m + (k + 1) : Nat) : Int))) [none]) := by
    rw [← Hkm.out.2]
    exact P8
   clear hint P8 HQ7 k5 k6 hM0 hM1
   go_wp2
   go_roundw
   case rel => exact ⟨k + 1, by omega, by go_num, HQ8⟩
   case measure => simp [intOf]; omega
  ·have hke : k = 3 := by omega
   have hkI : ¬ (k : Int) < 3 := by omega
   have HQ3 : Hid (Px w1 wr n1 bb (m + 3) (aF pb sb b g mb lv vb rb rg rl) (fun w => Pm w1 n1 w pb lb sb b g mb lv vb rb rg rl bb c L x sw ws th l n (1000 * ((m + 3 : Nat) : Int))) [none]) := by
    have := HQ.out
    rw [hke] at this
    exact this
   clear HQ hke
   have k5 : wr.cell? ⟨pb, 5, none⟩ = some (.pointer (some ⟨bb, 0, none⟩)) := HQ3.out.p.cell 5
   have hh := HQ3.out.hold (by omega)
   go_wp2_with fail
   refine hh.mono ?_
   rintro e w5 ⟨rfl, P5⟩
   have HE : Hid (Ps w1 n1 w5 pb lb sb b g mb vb rb rg bb c L (m + 3) n) := ⟨lv, rl, x, sw, ws, th, l, P5⟩
   clear hh P5 HQ3 k5
   go_wp2
   go_ret
   exact ⟨rfl, HE.out⟩
end
theorem ptrs_not (b g : Nat) (c : Cfg) (x : Tps) (sw : Bool) (ws : Nat → Int) (a : Int) (hn : ¬ At c x ws a) (w : World) (h : Ar w b g c x sw ws) (hL : Laid w) :
  Calls Tryz.prog 74 #[.pointer (some ⟨b, 0, none⟩), .int .i64 a] w fun e w' => e = .returned (.slice none 0 0) ∧ Below w.heap.size w w' := by
 have ho := object_not b g c x sw ws a hn w h hL
 clear h hL hn
 go_enter Tryz.func74, Tryz.ntmps74
 go_wp2_with fail
 refine ho.mono ?_
 rintro e w1 ⟨rfl, b1⟩
 have b2 := Below.alloc b1 b1.size (.cells ozero 104)
 clear ho b1
 go_wp2
 go_ret
 exact ⟨rfl, b2⟩
theorem setPtr_no (a h : Nat) (c : Cfg) (x : Tps) (sw : Bool) (ws : Nat → Int) (i j t : Int) (ht0 : 0 ≤ t) (ht1 : t < c.words) (hno : ¬ (At c x ws i ∧ (0 ≤ j ∧ j < ptOf (wat c ws i)))) (w : World) (hA : Ar w a h c x sw ws) (hL : Laid w) :
  Calls Tryz.prog 28 #[.pointer (some ⟨a, 0, none⟩), .int .i64 i, .int .i64 j, .int .i64 t] w fun e w' => e = .returned (.bool false) ∧ Below w.heap.size w w' := by
 by_cases hat : At c x ws i
 ·exact setPtr_out a h c x sw ws i _ t j ht0 ht1 rfl hat.1 hat.2.1 hat.2.2 (fun hh => hno ⟨hat, hh⟩) w hA hL
 ·have hw := hA.words
  refine setPtr_core a h c.words.toNat i j t _ w ht0 (by omega) (by omega) hA.cell14 (fun ad => .slice ad 0 0) (fun ad w1 => Below w.heap.size w w1) ?_ ?_
  ·refine (ptrs_not a h c x sw ws i hat w hA hL).mono ?_
   rintro e w' ⟨rfl, l⟩
   exact ⟨none, rfl, l⟩
  ·intro ad w1 l
   refine (set_out ad 0 0 j t (by omega) w1).mono ?_
   rintro e w' ⟨rfl, rfl⟩
   exact ⟨false, rfl, rfl, l⟩
section
variable {w1 w w' wa wb wc : World} {n1 sb b g mb n n' : Nat} {lv lv' : Value} {c : Cfg} {x x' : Tps} {sw sw' : Bool} {ws ws' : Nat → Int} {th th' : List Tng} {l l' : List Int} {vb rb : Nat} {rg : Nat → Nat} {rl rl' : Value}
def Nz6 (w1 : World) (n1 : Nat) (w : World) (sb b g mb : Nat) (lv : Value) (vb rb : Nat) (rg : Nat → Nat) (rl : Value) (c : Cfg) (th : List Tng) (n : Nat) (wc : World) : Prop :=
 ∃ x sw ws' th' l', Bo6 w1 n1 wc sb b g mb lv vb rb rg rl c x sw ws' th' l' n ∧ Touch (pF sb b g mb lv ++ dF vb rb rg rl) w wc ∧ ∀ T, T ∈ th → ∃ U, U ∈ th' ∧ U.at_ = T.at_
theorem Nz6.same (B : Bo6 w1 n1 w sb b g mb lv vb rb rg rl c x sw ws th l n) (h : Below w.heap.size w w') : Nz6 w1 n1 w sb b g mb lv vb rb rg rl c th n w' :=
 ⟨x, sw, ws, th, l, B.below h, Touch.of_below h _, fun T hT => ⟨T, hT, rfl⟩⟩
theorem Own2.refl (N : Nat) (lv : Value) : Own2 N lv lv := fun q hq => .inl hq
theorem Bo6.swap (B : Bo6 w1 n1 w sb b g mb lv vb rb rg rl c x sw ws th l n) :
  Calls Tryz.prog 26 #[.pointer (some ⟨b, 0, none⟩)] w fun e wa => e = .returned (.tuple #[]) ∧ Touch (pF sb b g mb lv) w wa ∧ ∀ wb, Below wa.heap.size wa wb → Calls Tryz.prog 27 #[.pointer (some ⟨rb, 0, none⟩)] wb fun e wc => e = .returned (.tuple #[]) ∧ Nz6 w1 n1 w sb b g mb lv vb rb rg rl c th n wc := by
 refine (swap_any b g c x sw ws w B.rm.bq.ax.ar).mono ?_
 rintro e wa ⟨rfl, hA, ta, -⟩
 have ta' : Touch [b, g] w wa := ta.wide (fun y hy => by simp at hy; simp [hy])
 have tp : Touch (pF sb b g mb lv) w wa := ta.wide (fun y hy => by simp at hy; simp [hy])
 refine ⟨rfl, tp, fun wb lb => ?_⟩
 have D := B.dxat tp lb
 refine (rswap_any rb rg c x sw ws wb D.rx.ra).mono ?_
 rintro e wc ⟨rfl, hR, tc⟩
 have tc' : Touch (dF vb rb rg rl) wb wc := tc.wide (fun y hy => mem_dF.2 (.inr (.inl hy)))
 have R : Rm w1 n1 wa sb b g mb lv c x (!sw) ws th l n (fun a => decide (a ∈ l)) := B.rm.next ta' hA B.rm.bq.ax.hl
 have D' : Dx wc vb rb rg rl c x (!sw) ws th l := D.next tc ⟨hR, D.rx.hp⟩
 obtain ⟨q1, q2, -⟩ := B.made tp R (Own2.refl _ _) lb tc' D' (Own2.refl _ _) B.tn B.nd
 exact ⟨rfl, x, !sw, ws, th, l, q1, q2, fun T hT => ⟨T, hT, rfl⟩⟩
theorem Bo6.setPtr (B : Bo6 w1 n1 w sb b g mb lv vb rb rg rl c x sw ws th l n) (a f z : Int) (ha : a = 0 ∨ ∃ T, T ∈ th ∧ T.at_ = a) (hz : z = 0 ∨ ∃ T, T ∈ th ∧ T.at_ = z) :
  Calls Tryz.prog 28 #[.pointer (some ⟨b, 0, none⟩), .int .i64 a, .int .i64 f, .int .i64 z] w fun e wa => ∃ d, e = .returned (.bool d) ∧ Touch (pF sb b g mb lv) w wa ∧ ∀ wb, Below wa.heap.size wa wb → Calls Tryz.prog 29 #[.pointer (some ⟨rb, 0, none⟩), .int .i64 a, .int .i64 f, .int .i64 z] wb fun e wc => e = .returned (.bool d) ∧ Nz6 w1 n1 w sb b g mb lv vb rb rg rl c th n wc := by
 have hzw : 0 ≤ z ∧ z < c.words := by
  rcases hz with rfl | ⟨U, hU, rfl⟩
  ·have := B.rm.bq.ax.ar.words; omega
  ·have := B.dx.rx.hp.pos w hU; omega
 by_cases hyes : ∃ T, T ∈ th ∧ T.at_ = a ∧ 0 ≤ f ∧ f < T.ps.length
 ·obtain ⟨T, hT, rfl, h0, h1⟩ := hyes
  obtain ⟨i, hi⟩ := List.getElem?_of_mem hT
  obtain ⟨f', rfl⟩ : ∃ f' : Nat, f = f' := ⟨f.toNat, by omega⟩
  have hf : f' < T.ps.length := by omega
  refine (B.rm.bq.ax.setPtr_ex i T hi f' z hf hzw.1 hzw.2).mono ?_
  rintro e wa ⟨rfl, ta, ws', e', hA, hH⟩
  subst e'
  have tp : Touch (pF sb b g mb lv) w wa := ta.wide (fun y hy => by simp at hy; simp [hy])
  refine ⟨true, rfl, tp, fun wb lb => ?_⟩
  have D := B.dxat tp lb
  refine (D.rx.setPtr i T hi f' z hf hzw.1 hzw.2).mono ?_
  rintro e wc ⟨rfl, tc, hR⟩
  have tc' : Touch (dF vb rb rg rl) wb wc := tc.wide (fun y hy => mem_dF.2 (.inr (.inl hy)))
  have hat := set_ats hi (U := { T with ps := T.ps.set f' z }) rfl
  obtain ⟨q1, q2, -⟩ := B.made tp (B.rm.next ta.one hA hH) (Own2.refl _ _) lb tc' (D.next tc hR) (Own2.refl _ _) (fun a ha => by
   obtain ⟨V, h1, h2⟩ := B.tn a ha
   obtain ⟨X, h3, h4⟩ := hat V h1
   exact ⟨X, h3, h4.trans h2⟩) B.nd
  exact ⟨rfl, x, sw, _, _, l, q1, q2, hat⟩
 ·have hno : ¬ (At c x ws a ∧ (0 ≤ f ∧ f < ptOf (wat c ws a))) := by
   rintro ⟨h1, h2⟩
   rcases ha with rfl | ⟨T, hT, rfl⟩
   ·exact at_zero c x ws h1
   ·have h3 := B.dx.rx.hp.hl.psn T hT
    have h4 := (B.dx.rx.hp.hl.hds T hT).2.2.1
    exact hyes ⟨T, hT, rfl, h2.1, by omega⟩
  refine (setPtr_no b g c x sw ws a f z hzw.1 hzw.2 hno w B.rm.bq.ax.ar B.rm.bq.ax.la).mono ?_
  rintro e wa ⟨rfl, la⟩
  refine ⟨false, rfl, Touch.of_below la _, fun wb lb => ?_⟩
  have lab := la.trans (lb.mono la.size)
  refine (rsetPtr_no rb rg c x sw ws a f z (fun h => hno ⟨h.1, h.2.1⟩) (B.dx.rx.hp.wat_wd a) wb (B.dx.below lab).rx.ra).mono ?_
  rintro e wc ⟨rfl, lc⟩
  exact ⟨rfl, Nz6.same B (lab.trans (lc.mono lab.size))⟩
theorem Bo6.put (B : Bo6 w1 n1 w sb b g mb lv vb rb rg rl c x sw ws th l n) (p : Int) :
  Calls Tryz.prog 30 #[.pointer (some ⟨b, 0, none⟩), .int .i64 4, hv 99999 1 p 0 0 0 false] w fun e wa => ∃ r d, e = .returned (.tuple #[.int .i64 r, .bool d]) ∧ Touch (pF sb b g mb lv) w wa ∧ ∀ wb, Below wa.heap.size wa wb → Calls Tryz.prog 31 #[.pointer (some ⟨rb, 0, none⟩), .int .i64 4, hv 99999 1 p 0 0 0 false] wb fun e wc => e = .returned (.tuple #[.int .i64 r, .bool d]) ∧ Nz6 w1 n1 w sb b g mb lv vb rb rg rl c th n wc := by
 have quiet : (Calls Tryz.prog 30 #[.pointer (some ⟨b, 0, none⟩), .int .i64 4, hv 99999 1 p 0 0 0 false] w fun e w' => e = .returned (.tuple #[.int .i64 0, .bool false]) ∧ Below w.heap.size w w') → (∀ wb, Ra wb rb rg c x sw ws → Calls Tryz.prog 31 #[.pointer (some ⟨rb, 0, none⟩), .int .i64 4, hv 99999 1 p 0 0 0 false] wb fun e wc => e = .returned (.tuple #[.int .i64 0, .bool false]) ∧ Below wb.heap.size wb wc) →
   Calls Tryz.prog 30 #[.pointer (some ⟨b, 0, none⟩), .int .i64 4, hv 99999 1 p 0 0 0 false] w fun e wa => ∃ r d, e = .returned (.tuple #[.int .i64 r, .bool d]) ∧ Touch (pF sb b g mb lv) w wa ∧ ∀ wb, Below wa.heap.size wa wb → Calls Tryz.prog 31 #[.pointer (some ⟨rb, 0, none⟩), .int .i64 4, hv 99999 1 p 0 0 0 false] wb fun e wc => e = .returned (.tuple #[.int .i64 r, .bool d]) ∧ Nz6 w1 n1 w sb b g mb lv vb rb rg rl c th n wc := by
  intro h1 h2
  refine h1.mono ?_
  rintro e wa ⟨rfl, la⟩
  refine ⟨0, false, rfl, Touch.of_below la _, fun wb lb => ?_⟩
  have lab := la.trans (lb.mono la.size)
  refine (h2 wb (B.dx.below lab).rx.ra).mono ?_
  rintro e wc ⟨rfl, lc⟩
  exact ⟨rfl, Nz6.same B (lab.trans (lc.mono lab.size))⟩
 by_cases hf : flt 1 p 0 0 0 = 0
 ·by_cases hn : 2 + p + 0 ≤ bhd c 4 - x.top 4
  ·refine (B.rm.bq.ax.put_ex 4 99999 1 p 0 0 0 false 0 (by decide) ⟨by decide, by decide⟩ hf (by omega)).mono ?_
   rintro e wa ⟨rfl, ta, ws', e', hA, hH⟩
   have tp : Touch (pF sb b g mb lv) w wa := ta.wide (fun y hy => by simp only [List.mem_cons, List.not_mem_nil, or_false] at hy ⊢; rcases hy with h | h <;> simp [h])
   refine ⟨_, true, rfl, tp, fun wb lb => ?_⟩
   have D := B.dxat tp lb
   have hsub := sub_in_hp B.dx.rx.hp w 4
   have t4 : x.top ((4 : Nat) : Int) = x.top 4 := rfl
   have b4 : bhd c ((4 : Nat) : Int) = bhd c 4 := rfl
   have hp0 : 0 ≤ p := by obtain ⟨h1, h2, h3, h4, h5, h6, h7, h8, h9, h10, h11, h12⟩ := May.of hf; omega
   refine (rput_yes rb rg c x sw ws 4 (by decide) (by decide) 99999 1 p 0 0 0 false hf (x.top 4).toNat (2 + p + 0).toNat (by omega) (by omega) (by omega) wb D.rx.ra).mono ?_
   rintro e wc ⟨rfl, hR, tc⟩
   have tc' : Touch (dF vb rb rg rl) wb wc := tc.wide (fun y hy => mem_dF.2 (.inr (.inl hy)))
   have hHp := D.rx.hp.put w 4 99999 1 p 0 0 0 false 0 (by decide) ⟨by decide, by decide⟩ hf (by omega)
   have e1 : ((x.top 4).toNat : Int) = x.top 4 := by omega
   have e2 : ((2 + p + 0).toNat : Int) = 2 + p + 0 := by omega
   have hR' : Ra wc rb rg c (x.put 4 (x.top 4 + (2 + p + 0))) sw (putw ws (x.top 4).toNat (2 + p + 0).toNat (wrd 1 p 0 0 0 false) 99999) := by
    have h9 := hR
    rw [e1, e2] at h9
    exact h9
   subst e'
   have hat : ∀ T, T ∈ th → ∃ U, U ∈ th ++ [⟨x.top 4, 4, 99999, 1, p, 0, 0, 0, false, 0, List.replicate p.toNat 0, List.replicate (0 : Int).toNat 0⟩] ∧ U.at_ = T.at_ := fun T hT => ⟨T, List.mem_append.2 (.inl hT), rfl⟩
   obtain ⟨q1, q2, -⟩ := B.made tp (B.rm.next ta hA hH) (Own2.refl _ _) lb tc' (D.next tc ⟨hR', hHp⟩) (Own2.refl _ _) (fun a ha => by
    obtain ⟨V, h1, h2⟩ := B.tn a ha
    exact ⟨V, List.mem_append.2 (.inl h1), h2⟩) B.nd
   exact ⟨by rw [e1], _, sw, _, _, l, q1, q2, hat⟩
  ·exact quiet (put_full b g c x sw ws 4 99999 1 p 0 0 0 false hf hn w B.rm.bq.ax.ar B.rm.bq.ax.la) (fun wb hR => rput_full rb rg c x sw ws 4 99999 1 p 0 0 0 false hf hn wb hR)
 ·exact quiet (put_bad b g 4 99999 1 p 0 0 0 false hf w B.rm.bq.ax.la) (fun wb hR => rput_bad rb 4 99999 1 p 0 0 0 false hf wb)
theorem Bo6.missing (B : Bo6 w1 n1 w sb b g mb lv vb rb rg rl c x sw ws th l n) :
  Calls Tryz.prog 24 #[.pointer (some ⟨sb, 0, none⟩)] w fun e wa => ∃ r d, e = .returned (.tuple #[.int .i64 r, .bool d]) ∧ Below w.heap.size w wa ∧ ∀ wb, Below wa.heap.size wa wb → Calls Tryz.prog 25 #[.pointer (some ⟨vb, 0, none⟩)] wb fun e wc => e = .returned (.tuple #[.int .i64 r, .bool d]) ∧ Below wb.heap.size wb wc := by
 refine (missing_any B.rm).mono ?_
 rintro e wa ⟨r, d, rfl, hrd, la⟩
 refine ⟨r, d, rfl, la, fun wb lb => ?_⟩
 have lab := la.trans (lb.mono la.size)
 have hm := r6Missing_any (B.dx.below lab) (B.dx.rx.hp.few_th w) B.few
 have hf : (((th.filter (inS 4)).find? (miss c sw (fun a => decide (a ∈ l)))).map (·.at_)).getD 0 = r ∧ ((th.filter (inS 4)).find? (miss c sw (fun a => decide (a ∈ l)))).isSome = d := by
  rcases hrd with ⟨rfl, rfl, h1⟩ | ⟨rfl, pre, T, post, h1, h2, h3, rfl⟩
  ·have : (th.filter (inS 4)).find? (miss c sw (fun a => decide (a ∈ l))) = none := by
    rw [List.find?_eq_none]
    intro T hT
    rw [h1 T hT]
    simp
   rw [this]
   exact ⟨rfl, rfl⟩
  ·have : (th.filter (inS 4)).find? (miss c sw (fun a => decide (a ∈ l))) = some T := by
    rw [List.find?_eq_some_iff_append]
    exact ⟨h2, pre, post, h1, fun U hU => by rw [h3 U hU]; rfl⟩
   rw [this]
   exact ⟨rfl, rfl⟩
 rw [hf.1, hf.2] at hm
 exact hm
end
end Go.Proofs.YtlkengnefhhppaaGreatDoor
