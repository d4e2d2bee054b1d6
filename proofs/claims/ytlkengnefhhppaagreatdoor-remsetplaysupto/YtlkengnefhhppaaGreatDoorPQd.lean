import Derived.Test.YtlkengnefhhppaaGreatDoorPQc
import Derived.Test.YtlkengnefhhppaaGreatDoorPYh
import Derived.Test.YtlkengnefhhppaaGreatDoorUYD7
import Derived.Test.YtlkengnefhhppaaGreatDoorPYe
set_option linter.unusedVariables false
set_option maxHeartbeats 8000000
set_option maxRecDepth 20000
namespace Go.Proofs.YtlkengnefhhppaaGreatDoor
open Go.RowKit Go.Shelf
section
variable {w1 w w' wa wb wc : World} {n1 sb b g mb n n' : Nat} {lv lv' : Value} {c : Cfg} {x x' : Tps} {sw sw' : Bool} {ws ws' : Nat → Int} {th th' : List Tng} {l l' : List Int} {vb rb : Nat} {rg : Nat → Nat} {rl rl' : Value}
theorem mk_at_all {q : Int → Bool} {ns : List Int} {th : List Tng} : ∀ T, T ∈ th → ∃ U, U ∈ mk_ q ns th ∧ U.at_ = T.at_ := fun T hT => mk_ats hT
theorem Bo6.few (B : Bo6 w1 n1 w sb b g mb lv vb rb rg rl c x sw ws th l n) : l.length ≤ 262145 := B.dx.rx.hp.few w l B.nd B.tn
theorem adr_in {x : Tps} {ws : Nat → Int} {th : List Tng} (H : Hp c x ws th) (w : World) {a : Int} (h : ∃ T, T ∈ th ∧ T.at_ = a) : InI a := by
 obtain ⟨T, h1, rfl⟩ := h
 have := H.pos w h1
 unfold InI
 omega
def Np6 (w1 : World) (n1 : Nat) (w : World) (sb b g mb : Nat) (lv : Value) (vb rb : Nat) (rg : Nat → Nat) (rl : Value) (c : Cfg) (x : Tps) (sw : Bool) (ws : Nat → Int) (th : List Tng) (n m : Nat) (wc : World) : Prop :=
 ∃ lv' rl' ws' th' l' n', Bo6 w1 n1 wc sb b g mb lv' vb rb rg rl' c x sw ws' th' l' n' ∧ Touch (pF sb b g mb lv ++ dF vb rb rg rl) w wc ∧ Kg.Newer w.heap.size (pF sb b g mb lv ++ dF vb rb rg rl) (pF sb b g mb lv' ++ dF vb rb rg rl') ∧ n' ≤ n + m ∧ (∀ T, T ∈ th → ∃ U, U ∈ th' ∧ U.at_ = T.at_) ∧ ∀ a, Adr c x ws th a → Adr c x ws' th' a
theorem Bo6.prune (B : Bo6 w1 n1 w sb b g mb lv vb rb rg rl c x sw ws th l n) (mv : Value) (more : List Int) (hm : Lrd w.heap.size w mv .i64 more) (hms : ∀ a, a ∈ more → Adr c x ws th a) (hin : ∀ a, a ∈ more → InI a) (hml : more.length ≤ 1073741824) (hn : n ≤ 576460752303423488) :
  Calls Tryz.prog 61 #[.pointer (some ⟨sb, 0, none⟩), mv] w fun e wa => e = .returned (.tuple #[]) ∧ Touch (pF sb b g mb lv) w wa ∧ ∀ wb mw, Below wa.heap.size wa wb → Lrd wb.heap.size wb mw .i64 more → Calls Tryz.prog 62 #[.pointer (some ⟨vb, 0, none⟩), mw] wb fun e wc => e = .returned (.tuple #[]) ∧ Np6 w1 n1 w sb b g mb lv vb rb rg rl c x sw ws th n (262145 + more.length) wc := by
 have hl := B.few
 have hla : ∀ a, a ∈ l → Adr c x ws th a := fun a ha => .inl (B.tn a ha)
 refine (prune_adr B.rm mv more hm hla hms (fun a ha => by
  rcases List.mem_append.1 ha with h | h
  ·exact adr_in B.dx.rx.hp w (B.tn a h)
  ·exact hin a h) (by omega) hml hn).mono ?_
 rintro e wa ⟨rfl, ta, lv', ws1, n', ol, k1, R, hn'⟩
 have ta' : Touch (pF sb b g mb lv) w wa := ta.wide (fun y hy => by simp only [List.mem_cons, List.not_mem_nil, or_false] at hy ⊢; rcases hy with h | h | h | h <;> simp [h])
 refine ⟨rfl, ta', fun wb mw lb hmw => ?_⟩
 refine (r6Prune_any (B.dxat ta' lb) mw more hmw hla hms (by omega) hml).mono ?_
 rintro e wc ⟨rfl, tc, rl', ws2, or_, k2, D⟩
 have hmem : ∀ a, a ∈ (ded (l ++ more)).filter (hta c sw th) ↔ a ∈ l ++ more ∧ hta c sw th a = true := fun a => by rw [List.mem_filter, mem_ded]
 have hS := inS_two (hta c sw th) (fun a => decide (a ∈ l)) (ded (l ++ more)) ((ded (l ++ more)).filter (hta c sw th)) (fun a => by rw [hmem, mem_ded]) (fun a ha => decide_eq_false (fun h => ha ((mem_ded _ a).2 (List.mem_append.2 (.inl h)))))
 have hth := mk_two th (inS' (hta c sw th) (fun a => decide (a ∈ l)) (ded (l ++ more))) (hta c sw th) (ded (l ++ more)) (l ++ more) ((ded (l ++ more)).filter (hta c sw th)) (fun a => mem_ded _ a) (fun a ha => by unfold inS'; rw [if_pos ((mem_ded _ a).2 ha)]) hmem
 rw [← ded_filter, ← hth] at D
 have hws : ws2 = ws1 := k1.same k2 R.bq.ax.hp D.rx.hp w
 subst hws
 rw [hS] at R D
 have hat : ∀ T, T ∈ th → ∃ U, U ∈ mk_ (fun a => decide (a ∈ (ded (l ++ more)).filter (hta c sw th))) (ded (l ++ more)) th ∧ U.at_ = T.at_ := mk_at_all
 obtain ⟨q1, q2, q3⟩ := B.made ta' R (fun q hq => .inr (ol q hq)) lb tc D or_ (fun a ha => by
  have h1 := ((hmem a).1 ha).2
  unfold hta at h1
  rw [Bool.and_eq_true, List.any_eq_true] at h1
  obtain ⟨-, T, h2, h3⟩ := h1
  rw [Bool.and_eq_true, decide_eq_true_eq] at h3
  obtain ⟨U, h4, h5⟩ := hat T h2
  exact ⟨U, h4, h5.trans h3.1⟩) ((ded_nd _).filter _)
 exact ⟨rfl, lv', rl', _, _, _, n', q1, q2, q3, by omega, hat, fun a ha => (ha.kh k1).mk _ _⟩
theorem Bo6.rebuild (B : Bo6 w1 n1 w sb b g mb lv vb rb rg rl c x sw ws th l n) :
  Calls Tryz.prog 22 #[.pointer (some ⟨sb, 0, none⟩)] w fun e wa => e = .returned (.tuple #[]) ∧ Touch (pF sb b g mb lv) w wa ∧ ∀ wb, Below wa.heap.size wa wb → Calls Tryz.prog 23 #[.pointer (some ⟨vb, 0, none⟩)] wb fun e wc => e = .returned (.tuple #[]) ∧ Nx6 w1 n1 w sb b g mb lv vb rb rg rl c x sw th n 262145 wc := by
 have hl := B.few
 have hfew := B.dx.rx.hp.few_th w
 refine (rebuild_adr B.rm (by omega)).mono ?_
 rintro e wa ⟨rfl, ta, lv', ws1, ol, k1, R⟩
 have ta' : Touch (pF sb b g mb lv) w wa := ta.wide (fun y hy => by simp only [List.mem_cons, List.not_mem_nil, or_false] at hy ⊢; rcases hy with h | h | h | h <;> simp [h])
 refine ⟨rfl, ta', fun wb lb => ?_⟩
 refine (r6Rebuild_any (B.dxat ta' lb) hfew).mono ?_
 rintro e wc ⟨rfl, tc, rl', ws2, or_, k2, D⟩
 have hmem : ∀ a, a ∈ (tens th).filter (hta c sw th) ↔ a ∈ tens th ∧ hta c sw th a = true := fun a => by rw [List.mem_filter]
 have hS := inS_two (hta c sw th) (fun _ => false) (tens th) ((tens th).filter (hta c sw th)) hmem (fun a ha => rfl)
 have hth := mk_two th (inS' (hta c sw th) (fun _ => false) (tens th)) (hta c sw th) (tens th) (tens th) ((tens th).filter (hta c sw th)) (fun a => Iff.rfl) (fun a ha => by unfold inS'; rw [if_pos ha]) hmem
 rw [← hth] at D
 have hws : ws2 = ws1 := k1.same k2 R.bq.ax.hp D.rx.hp w
 subst hws
 rw [hS] at R D
 have hat : ∀ T, T ∈ th → ∃ U, U ∈ mk_ (fun a => decide (a ∈ (tens th).filter (hta c sw th))) (tens th) th ∧ U.at_ = T.at_ := mk_at_all
 have hnd : (tens th).Nodup := by
  unfold tens
  exact (B.dx.rx.hp.hl.ats_nodup).sublist (List.Sublist.map _ List.filter_sublist)
 have htl : (tens th).length ≤ 262145 := B.dx.rx.hp.few w (tens th) hnd (fun a ha => tens_mem ha)
 obtain ⟨q1, q2, q3⟩ := B.made ta' R (fun q hq => .inr (ol q hq)) lb tc D or_ (fun a ha => by
  obtain ⟨T, h2, h3⟩ := tens_mem ((hmem a).1 ha).1
  obtain ⟨U, h4, h5⟩ := hat T h2
  exact ⟨U, h4, h5.trans h3⟩) (hnd.filter _)
 exact ⟨rfl, lv', rl', _, _, _, _, q1, q2, q3, by omega, hat⟩
end
def tha (th : List Tng) (a : Int) : Bool := th.any (fun T => decide (T.at_ = a))
theorem tha_iff {th : List Tng} {a : Int} : tha th a = true ↔ ∃ T, T ∈ th ∧ T.at_ = a := by
 unfold tha
 rw [List.any_eq_true]
 simp
theorem tha_no {th : List Tng} {a : Int} (h : ∀ T, T ∈ th → T.at_ ≠ a) : tha th a = false := by
 cases e : tha th a
 ·rfl
 ·obtain ⟨T, h1, h2⟩ := tha_iff.1 e
  exact absurd h2 (h T h1)
section
variable {w w' : World} {pb b : Nat} {g : Nat → Nat} {c : Cfg} {x : Tps} {sw : Bool} {ws ws0 : Nat → Int} {th : List Tng}
theorem Hp.spc (H : Hp c x ws th) (w : World) {T : Tng} (hT : T ∈ th) : Go.Proofs.YtlkengnefhhppaaGreatDoor.spc c T.at_ = T.sp ∧ 1 ≤ T.sp ∧ T.sp ≤ 4 := by
 obtain ⟨w, b, g, hA⟩ := H.ar w
 obtain ⟨s, s1, s4, h1, h2, -⟩ := H.hl.stands hA hT
 rw [h2, h1]
 omega
theorem object6_any (k3 : w.cell? ⟨pb, 3, none⟩ = some (.pointer (some ⟨b, 0, none⟩))) (H : Rx w b g c x sw ws th) (a : Int) : Calls Tryz.prog 113 #[.pointer (some ⟨pb, 0, none⟩), .int .i64 a] w fun e w' => e = .returned (.bool (tha th a)) ∧ Below w.heap.size w w' := by
 have hs := rspaceof_any b g c x sw ws a w H.ra
 have HR : Hid (Rx w b g c x sw ws th) := H
 have hpl : pb < w.heap.size := World.block_lt_of_cell? _ _ k3
 obtain ⟨q0, q4, -, -⟩ := spc_in H.ra.ok a
 have HS : Hid (∀ T, T ∈ th → T.at_ = a → T.sp = spc c a) := fun T hT e => by rw [← e]; exact ((H.hp.spc w hT).1).symm
 have HS1 : Hid (∀ T, T ∈ th → 1 ≤ T.sp) := fun T hT => (H.hp.spc w hT).2.1
 clear H
 obtain ⟨s, hsE⟩ : ∃ s : Nat, spc c a = s := ⟨(spc c a).toNat, by omega⟩
 rw [hsE] at hs q4 HS
 have s4 : s ≤ 4 := by omega
 clear hsE q0 q4
 go_enter Tryz.func113, Tryz.ntmps113
 go_wp2_with fail
 refine hs.mono ?_
 rintro e w2 ⟨rfl, l2⟩
 clear hs
 have k3' : w2.cell? ⟨pb, 3, none⟩ = some (.pointer (some ⟨b, 0, none⟩)) := (l2.cell (p := ⟨pb, 3, none⟩) hpl).trans k3
 by_cases h0 : s = 0
 ·have HN : Hid (tha th a = false) := tha_no (fun T hT e => by have h1 := HS.out T hT e; have h2 := HS1.out T hT; omega)
  have hsI : ((s : Int) == 0) = true := by simp; omega
  clear h0
  go_wp2
  go_ret
  exact ⟨by rw [HN.out]; rfl, l2⟩
 ·have hw := (HR.out.below l2).walk s (by omega) s4
  have hsI : ((s : Int) == 0) = false := by simp; omega
  have Hin : Hid (tha th a = true ↔ a ∈ atsS th s) := by
   show _ ↔ _
   rw [tha_iff]
   constructor
   ·rintro ⟨T, h1, h2⟩
    exact List.mem_map.2 ⟨T, List.mem_filter.2 ⟨h1, by simpa using HS.out T h1 h2⟩, h2⟩
   ·intro h
    obtain ⟨T, h1, h2, -⟩ := atsS_mem h
    exact ⟨T, h1, h2⟩
  have Hfew : Hid ((atsS th s).length ≤ 262145) := HR.out.hp.few w (atsS th s) (HR.out.hp.atsS_nd s) (fun a ha => by obtain ⟨T, h3, h4, -⟩ := atsS_mem ha; exact ⟨T, h3, h4⟩)
  generalize atsS th s = xs at *
  clear HS HS1 k3 HR
  go_wp2_with fail
  refine hw.mono ?_
  rintro e w3 ⟨v, rfl, hrow, l3⟩
  have l4 := l2.trans (l3.mono l2.size)
  obtain ⟨av, cap, rfl, hcap, hcells⟩ := Lrd.of_row (row_zero0 hrow)
  have hlx := Hfew.out
  clear hw k3' l2 l3 hrow hsI h0
  go_wp2
  go_loopw [8] (fun v8 wr => ∃ k : Nat, k ≤ xs.length ∧ v8 = .int .i64 k ∧ Hid (∀ j y, j < k → xs[j]? = some y → y ≠ a) ∧ wr = w3) (fun v8 _ => xs.length - (intOf v8).toNat)
  case atStart => exact ⟨0, Nat.zero_le _, rfl, (fun j y hj => by omega : ∀ j y, j < 0 → xs[j]? = some y → y ≠ a), rfl⟩
  case round =>
   obtain ⟨k, hk, rfl, HN, rfl⟩ := hrel
   by_cases hkl : k < xs.length
   ·have hz := List.getElem?_eq_getElem hkl
    generalize xs[k]'hkl = z at hz
    obtain ⟨q, o, rfl, hq, hc⟩ := hcells k z hz
    have Hz : Hid (xs[k]? = some z) := hz
    have hkI : (k : Int) < (xs.length : Int) := by omega
    by_cases e : z = a
    ·have HE : Hid (tha th a = true) := Hin.out.2 (by rw [← e]; exact List.mem_of_getElem? Hz.out)
     have e' : (z == a) = true := by simpa using e
     clear hz hcells
     go_wp2
     go_ret
     exact ⟨by rw [HE.out]; rfl, l4⟩
    ·have HN2 : Hid (∀ j y, j < k + 1 → xs[j]? = some y → y ≠ a) := fun j y hj hy => by
      by_cases e2 : j = k
      ·subst e2
       rw [Hz.out] at hy
       simp at hy
       rw [← hy]
       exact e
      ·exact HN.out j y (by omega) hy
     have e' : (z == a) = false := by simpa using e
     clear hz
     go_wp2
     go_roundw
     case rel => exact ⟨k + 1, by omega, by go_num, HN2, trivial⟩
     case measure => simp [intOf]; omega
   ·have hkI : ¬ (k : Int) < (xs.length : Int) := by omega
    have HE : Hid (tha th a = false) := by
     cases e : tha th a
     ·rfl
     ·obtain ⟨j, hj⟩ := List.getElem?_of_mem (Hin.out.1 e)
      exact absurd rfl (HN.out j a (by have := (List.getElem?_eq_some_iff.1 hj).1; omega) hj)
    clear hcells
    go_wp2
    go_ret
    exact ⟨by rw [HE.out]; rfl, l4⟩
theorem seems6_any (k3 : w.cell? ⟨pb, 3, none⟩ = some (.pointer (some ⟨b, 0, none⟩))) (H : Rx w b g c x sw ws th) (a : Int) : Calls Tryz.prog 58 #[.pointer (some ⟨pb, 0, none⟩), .int .i64 a] w fun e w' => ∃ bs, e = .returned (.bool bs) ∧ (bs = false → Adr c x ws th a) ∧ Below w.heap.size w w' := by
 have hpl : pb < w.heap.size := World.block_lt_of_cell? _ _ k3
 obtain ⟨s, k, p, r, y, t, h, fl, hfl, hh⟩ : ∃ s k p r y t h fl, ((fl && !tha th a) = false → Adr c x ws th a) ∧ Calls Tryz.prog 75 #[.pointer (some ⟨b, 0, none⟩), .int .i64 a] w fun e w' => e = .returned (.tuple #[hv s k p r y t h, .bool fl]) ∧ Below w.heap.size w w' := by
  by_cases hT : ∃ T, T ∈ th ∧ T.at_ = a
  ·obtain ⟨T, hT, rfl⟩ := hT
   exact ⟨T.s, T.k, T.p, T.r, T.a, T.t, T.h, true, fun _ => .inl ⟨T, hT, rfl⟩, H.head hT⟩
  ·by_cases hA : At c x ws a
   ·have hh := rhead_at b g c x sw ws a hA (H.hp.wat_wd a) w H.ra
    unfold hdv at hh
    refine ⟨_, _, _, _, _, _, _, true, fun e => ?_, hh⟩
    rw [tha_no (fun T h1 h2 => hT ⟨T, h1, h2⟩)] at e
    simp at e
   ·exact ⟨0, 0, 0, 0, 0, 0, false, false, fun _ => .inr ⟨fun T h1 h2 => hT ⟨T, h1, h2⟩, hA⟩, H.head_not a hA⟩
 have HR : Hid (Rx w b g c x sw ws th) := H
 have Hfl : Hid ((fl && !tha th a) = false → Adr c x ws th a) := hfl
 clear H hfl
 go_enter Tryz.func58, Tryz.ntmps58
 go_wp2_with fail
 refine hh.mono ?_
 rintro e w2 ⟨rfl, l2⟩
 clear hh
 go_upto_region 2 with fail
 have l3 := Below.alloc l2 l2.size (.cells (hcells s k p r y t h) 38)
 generalize w2.alloc (.cells (hcells s k p r y t h) 38) = w3 at *
 have k3' : w3.cell? ⟨pb, 3, none⟩ = some (.pointer (some ⟨b, 0, none⟩)) := (l3.cell (p := ⟨pb, 3, none⟩) hpl).trans k3
 have ho := object6_any k3' (HR.out.below l3) a
 obtain ⟨d, hd⟩ : ∃ d, d = tha th a := ⟨_, rfl⟩
 rw [← hd] at ho Hfl
 clear l2 hd k3 k3' HR
 go_wp2_with fail
 refine ho.mono ?_
 rintro e w4 ⟨rfl, l4⟩
 have l5 := l3.trans (l4.mono l3.size)
 clear ho l3 l4
 cases fl
 ·go_wp2
  go_ret
  exact ⟨_, rfl, fun _ => Hfl.out rfl, l5⟩
 ·cases d
  ·go_wp2
   go_ret
   exact ⟨_, rfl, fun e => (by cases e), l5⟩
  ·go_wp2
   go_ret
   exact ⟨_, rfl, fun _ => Hfl.out rfl, l5⟩
end
theorem sameInts6_yes (u v : Value) (l : List Int) (n0 : Nat) (w : World) (h : Lrd n0 w u .i64 l) (h' : Lrd n0 w v .i64 l) (hn : n0 ≤ w.heap.size) (hl : l.length ≤ 1073741824) :
  Calls Tryz.prog 32 #[u, v] w fun e w' => e = .returned (.bool true) ∧ Below w.heap.size w w' := by
 obtain ⟨a, cap, rfl, -, hc⟩ := h
 obtain ⟨a', cap', rfl, -, hc'⟩ := h'
 have Hc : Hid (∀ (f : Nat) z, l[f]? = some z → ∃ q off, a = some ⟨q, off, none⟩ ∧ q < n0 ∧ w.cell? ⟨q, off + f, none⟩ = some (.int .i64 z)) := hc
 have Hc' : Hid (∀ (f : Nat) z, l[f]? = some z → ∃ q off, a' = some ⟨q, off, none⟩ ∧ q < n0 ∧ w.cell? ⟨q, off + f, none⟩ = some (.int .i64 z)) := hc'
 clear hc hc'
 go_enter Tryz.func32, Tryz.ntmps32
 go_wp2
 go_loopw [5] (fun v5 wr => ∃ k : Nat, k ≤ l.length ∧ v5 = .int .i64 k ∧ Below w.heap.size w wr) (fun v5 _ => l.length - (intOf v5).toNat)
 case atStart => exact ⟨0, Nat.zero_le _, rfl, Below.refl _ _⟩
 case round =>
  obtain ⟨k, hk, rfl, hbe⟩ := hrel
  by_cases hkl : k < l.length
  ·have hz : l[k]? = some (l[k]'hkl) := List.getElem?_eq_getElem hkl
   generalize l[k]'hkl = z at hz
   obtain ⟨q, off, rfl, hq, ca⟩ := Hc.out k z hz
   obtain ⟨q', off', rfl, hq', ca'⟩ := Hc'.out k z hz
   have da : wr.cell? ⟨q, off + k, none⟩ = some (.int .i64 z) := (hbe.cell (p := ⟨q, off + k, none⟩) (by simp only; omega)).trans ca
   have da' : wr.cell? ⟨q', off' + k, none⟩ = some (.int .i64 z) := (hbe.cell (p := ⟨q', off' + k, none⟩) (by simp only; omega)).trans ca'
   have hkI : (k : Int) < (l.length : Int) := by omega
   clear hz ca ca'
   go_upto_region 6 with fail
   go_quiet (fail)
   have hb2 : Below w.heap.size w (wr.drewN nq) := below_drewN hbe nq
   clear da da'
   go_wp2
   go_roundw
   case rel => exact ⟨k + 1, by omega, by go_num, hb2⟩
   case measure => simp [intOf]; omega
  ·have hkn : ¬ (k : Int) < (l.length : Int) := by omega
   go_wp2
   go_ret
   exact ⟨rfl, hbe⟩
theorem places_any {n1 : Nat} {w : World} {lb : Nat} {c : Cfg} {L : List LT} (h : Ly n1 w lb c L) (hn1 : n1 ≤ w.heap.size) (hlen : L.length ≤ 400) (v : Value) (l : List Int) (hv : Lrd w.heap.size w v .i64 l) (hin : ∀ a, a ∈ l → InI a) (hl : l.length ≤ 1073741824) :
  Calls Tryz.prog 21 #[.pointer (some ⟨lb, 0, none⟩), v] w fun e w' => ∃ v', e = .returned v' ∧ w'.ownsRow w.heap.size 3 1 v' (l.map (plc L)).length (ints (l.map (plc L))) ∧ Below w.heap.size w w' := by
 obtain ⟨a, cap, rfl, -, hc⟩ := hv
 obtain ⟨i0, hi0, hz0, hz1, hz2⟩ := info_parts Tryz.infoInt
 have HI : Hid (Tryz.prog.info? 3 = some i0 ∧ i0.zero = some (.int .i64 0) ∧ i0.size = 1 ∧ i0.bytes = 8) := ⟨hi0, hz0, hz1, hz2⟩
 have Hc : Hid (∀ (f : Nat) z, l[f]? = some z → ∃ q off, a = some ⟨q, off, none⟩ ∧ q < w.heap.size ∧ w.cell? ⟨q, off + f, none⟩ = some (.int .i64 z)) := hc
 have HLy : Hid (Ly n1 w lb c L) := h
 have Hin : Hid (∀ a, a ∈ l → InI a) := hin
 obtain ⟨pl, hpl⟩ : ∃ pl, pl = l.map (plc L) := ⟨_, rfl⟩
 rw [← hpl]
 have Hpl : Hid (pl = l.map (plc L)) := hpl
 clear hc h hi0 hz0 hz1 hz2 hin hpl
 go_enter Tryz.func21, Tryz.ntmps21
 go_wp2
 go_loopw [5, 6] (fun v5 v6 wr => ∃ k : Nat, k ≤ l.length ∧ v6 = .int .i64 k ∧ Hid (wr.ownsRow w.heap.size 3 1 v5 k (ints ((l.take k).map (plc L)))) ∧ Hid (Below w.heap.size w wr)) (fun _ v6 _ => l.length - (intOf v6).toNat)
 case atStart => exact ⟨0, Nat.zero_le _, rfl, World.ownsRow_nil _ _ _ _, Below.refl _ _⟩
 case round =>
  obtain ⟨k, hk, rfl, Hrow, Hbe⟩ := hrel
  by_cases hkl : k < l.length
  ·have hz : l[k]? = some (l[k]'hkl) := List.getElem?_eq_getElem hkl
   generalize l[k]'hkl = z at hz
   have Htk : Hid (l.take (k + 1) = l.take k ++ [z]) := by show _ = _; rw [List.take_add_one, hz]; rfl
   obtain ⟨q, off, rfl, hq, ca⟩ := Hc.out k z hz
   have da : wr.cell? ⟨q, off + k, none⟩ = some (.int .i64 z) := (Hbe.out.cell (p := ⟨q, off + k, none⟩) hq).trans ca
   have hp := place_any (HLy.out.below (Hbe.out.mono hn1)) (Nat.le_trans hn1 Hbe.out.size) hlen z (Hin.out z (List.mem_of_getElem? hz))
   have hkI : (k : Int) < (l.length : Int) := by omega
   obtain ⟨a6, n6, c6, rfl⟩ := row_slice Hrow.out
   obtain ⟨pz, hpz⟩ : ∃ pz, pz = plc L z := ⟨_, rfl⟩
   rw [← hpz] at hp
   have Hpz : Hid (pz = plc L z) := hpz
   clear hz ca hpz
   go_wp2_with fail
   refine hp.mono ?_
   rintro e w2 ⟨rfl, l2⟩
   have Hrow2 : Hid (w2.ownsRow w.heap.size 3 1 (.slice a6 n6 c6) k (ints ((l.take k).map (plc L)))) := row_keep Hrow.out (fun y hy => l2.block y (row_lt Hrow.out y hy))
   have Hbe2 : Hid (Below w.heap.size w w2) := Hbe.out.trans (l2.mono Hbe.out.size)
   clear hp l2 da Hrow Hbe
   go_wp2_with (at_builtin; refine wpList_append_own_at _ rfl _ _ 32 rfl w.heap.size 3 i0 (.int .i64 0) 1 8 Tryz.underlying32 HI.out.1 HI.out.2.1 HI.out.2.2.1 HI.out.2.2.2 rfl (by decide) _ _ _ rfl (Hrow2.out.alloc _) ⟨w2.heap.size, 0, none⟩ 1 1 [.int .i64 pz] rfl rfl (cell_one_new _ _ _) (by simp [Value.oneCell']) (by simp [maxLen]; omega) (by omega) (by have := Hbe2.out.size; simp; omega) ?_; intro v' w3 hown' hgrow _ hat)
   have Hrow3 : Hid (w3.ownsRow w.heap.size 3 1 v' (k + 1) (ints ((l.take (k + 1)).map (plc L)))) := by
    show w3.ownsRow w.heap.size 3 1 v' (k + 1) (ints ((l.take (k + 1)).map (plc L)))
    rw [Htk.out]
    simpa [ints, Hpz.out] using hown'
   have Hbe3 : Hid (Below w.heap.size w w3) := (Hbe2.out.alloc Hbe2.out.size _).grown hgrow (by have := Hbe2.out.size; simp; omega) (fun y hy => by
    rcases Hrow2.out.2 with ⟨e1, -⟩ | ⟨g, cap, cur, e1, e2, -⟩
    ·have hy' : (Value.slice a6 n6 c6).ownBlock = some y := hy
     rw [e1] at hy'
     simp [Value.ownBlock] at hy'
    ·have hy' : (Value.slice a6 n6 c6).ownBlock = some y := hy
     rw [e1] at hy'
     simp [Value.ownBlock] at hy'
     omega)
   obtain ⟨a7, n7, c7, hv7⟩ := row_slice hown'
   subst hv7
   clear hown' hgrow hat Hrow2 Hbe2
   go_roundw
   case rel => exact ⟨k + 1, by omega, by go_num, Hrow3, Hbe3⟩
   case measure => simp [intOf]; omega
  ·have hke : k = l.length := by omega
   have Hr : Hid (wr.ownsRow w.heap.size 3 1 u5 pl.length (ints pl)) := by
    have := Hrow.out
    rw [hke, List.take_length] at this
    show wr.ownsRow w.heap.size 3 1 u5 pl.length (ints pl)
    rw [Hpl.out, List.length_map]
    exact this
   have hkn : ¬ (k : Int) < (l.length : Int) := by omega
   clear Hrow
   go_wp2
   go_ret
   exact ⟨_, rfl, Hr.out, Hbe.out⟩
end Go.Proofs.YtlkengnefhhppaaGreatDoor
