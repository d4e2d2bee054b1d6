import Derived.Test.YtlkengnefhhppaaGreatDoorPQe
import Derived.Test.YtlkengnefhhppaaGreatDoorPQg
import Derived.Test.YtlkengnefhhppaaGreatDoorPQh
import Derived.Test.YtlkengnefhhppaaGreatDoorPKe
import Derived.Test.YtlkengnefhhppaaGreatDoorUYT
set_option linter.unusedVariables false
set_option maxHeartbeats 8000000
set_option maxRecDepth 20000
namespace Go.Proofs.YtlkengnefhhppaaGreatDoor
open Go.RowKit Go.Shelf
section
variable {w1 w w' : World} {n1 pb lb sb b g mb n n' : Nat} {lv lv' : Value} {c : Cfg} {L : List LT} {x x' : Tps} {sw sw' : Bool} {ws ws' : Nat → Int} {th th' : List Tng} {l l' : List Int} {vb rb bb m : Nat} {rg : Nat → Nat} {rl rl' : Value}
theorem step6_any (S : Ps w1 n1 w pb lb sb b g mb vb rb rg bb c L m n) (hn : n ≤ 288230376151711744) (hm : m < 200000000) (o : Op6) (hok : o.Ok n1 w) :
  Calls Tryz.prog 6 #[.pointer (some ⟨pb, 0, none⟩), .agg (ocl o.k o.a o.b o.c o.mv)] w fun e w' => e = .returned (.bool true) ∧ ∃ m', m' ≤ m + 3 ∧ Ps w1 n1 w' pb lb sb b g mb vb rb rg bb c L m' (n + 4194304) := by
 obtain ⟨oK, oA, oB, oC, oM, oL⟩ := o
 by_cases h1 : oK = 1
 ·subst h1
  exact step6_store S hn hm oA oB oC oM oL hok
 by_cases h2 : oK = 2
 ·subst h2
  exact step6_at S hn hm oA oB oC oM oL hok
 by_cases h3 : oK = 3
 ·subst h3
  exact step6_list S hn hm oA oB oC oM oL hok
 by_cases h4 : oK = 4
 ·subst h4
  exact step6_places S hn hm oA oB oC oM oL hok
 by_cases h5 : oK = 5
 ·subst h5
  exact step6_rebuild S hn hm oA oB oC oM oL hok
 by_cases h6 : oK = 6
 ·subst h6
  exact step6_missing S hn hm oA oB oC oM oL hok
 by_cases h7 : oK = 7
 ·subst h7
  exact step6_swap S hn hm oA oB oC oM oL hok
 by_cases h8 : oK = 8
 ·subst h8
  exact step6_ptr S hn hm oA oB oC oM oL hok
 by_cases h9 : oK = 9
 ·subst h9
  exact step6_prune S hn hm oA oB oC oM oL hok
 by_cases h10 : oK = 10
 ·subst h10
  exact step6_put S hn hm oA oB oC oM oL hok
 exact step6_none S hn hm oK oA oB oC oM oL hok h1 h2 h3 h4 h5 h6 h7 h8 h9 h10
theorem words6_full (S : Ps w1 n1 w pb lb sb b g mb vb rb rg bb c L m n) :
  Calls Tryz.prog 8 #[.pointer (some ⟨pb, 0, none⟩)] w fun e w' => e = .returned (.bool true) ∧ Ps w1 n1 w' pb lb sb b g mb vb rb rg bb c L m n := by
 obtain ⟨lv, rl, x, sw, ws, th, l, P⟩ := S
 have HP : Hid (Px w1 w n1 bb m (aF pb sb b g mb lv vb rb rg rl) (fun w => Pm w1 n1 w pb lb sb b g mb lv vb rb rg rl bb c L x sw ws th l n (1000 * (m : Int))) [none]) := P
 have k3 : w.cell? ⟨pb, 3, none⟩ = some (.pointer (some ⟨rb, 0, none⟩)) := P.p.cell 3
 have hsz := rsize_any rb rg c x sw ws w P.p.bo.dx.rx.ra
 have hwd := P.p.bo.rm.bq.ax.ar.words
 obtain ⟨N, hN⟩ : ∃ N : Nat, c.words = N := ⟨c.words.toNat, by omega⟩
 have hNb : N ≤ 1000000 := by omega
 rw [hN] at hsz
 clear P hwd hN
 go_enter Tryz.func8, Tryz.ntmps8
 go_wp2_with fail
 refine hsz.mono ?_
 rintro e w2 ⟨rfl, rfl⟩
 clear hsz k3
 go_wp2
 go_loopw [4] (fun v4 wr => ∃ k : Nat, k ≤ N ∧ v4 = .int .i64 k ∧ Hid (Px w1 wr n1 bb m (aF pb sb b g mb lv vb rb rg rl) (fun w => Pm w1 n1 w pb lb sb b g mb lv vb rb rg rl bb c L x sw ws th l n (1000 * (m : Int))) [none])) (fun v4 _ => N - (intOf v4).toNat)
 case atStart => exact ⟨0, Nat.zero_le _, rfl, HP⟩
 case round =>
  obtain ⟨k, hk, rfl, HQ⟩ := hrel
  clear HP
  by_cases hkl : k < N
  ·have hkI : (k : Int) < (N : Int) := by omega
   have k1 : wr.cell? ⟨pb, 1, none⟩ = some (.pointer (some ⟨b, 0, none⟩)) := HQ.out.p.cell 1
   have k3 : wr.cell? ⟨pb, 3, none⟩ = some (.pointer (some ⟨rb, 0, none⟩)) := HQ.out.p.cell 3
   have h1 := word_any3 b g c x sw ws k wr HQ.out.p.bo.rm.bq.ax.ar
   have h2 := rword_any rb rg c x sw ws k wr HQ.out.p.bo.dx.rx.ra
   generalize wat c ws (k : Int) = W at *
   go_wp2_with fail
   refine h1.mono ?_
   rintro e w3 ⟨rfl, rfl⟩
   clear h1
   go_wp2_with fail
   refine h2.mono ?_
   rintro e w4 ⟨rfl, l4⟩
   have HQ4 : Hid (Px w1 w4 n1 bb m (aF pb sb b g mb lv vb rb rg rl) (fun w => Pm w1 n1 w pb lb sb b g mb lv vb rb rg rl bb c L x sw ws th l n (1000 * (m : Int))) [none]) := HQ.out.below l4
   clear h2 l4 HQ k1 k3
   go_wp2
   go_roundw
   case rel => exact ⟨k + 1, by omega, by go_num, HQ4⟩
   case measure => simp [intOf]; omega
  ·have hkI : ¬ (k : Int) < (N : Int) := by omega
   go_wp2
   go_ret
   exact ⟨rfl, lv, rl, x, sw, ws, th, l, HQ.out⟩
end
theorem Prd.mono {n0 n1 : Nat} {w : World} {v : Value} {P : List LT} (h : Prd n0 w v P) (hn : n0 ≤ n1) : Prd n1 w v P := by
 obtain ⟨a, cap, h1, h2⟩ := h
 refine ⟨a, cap, h1, fun i o ho => ?_⟩
 obtain ⟨q1, q2, q3, g, off, q4, q5, q6⟩ := h2 i o ho
 exact ⟨q1, q2.mono hn, q3.mono hn, g, off, q4, Nat.lt_of_lt_of_le q5 hn, q6⟩
theorem Ly.wide {n1 n2 : Nat} {w : World} {lb : Nat} {c : Cfg} {L : List LT} (h : Ly n1 w lb c L) (hn : n1 ≤ n2) : Ly n2 w lb c L := by
 obtain ⟨v, h1, h2⟩ := h.things
 obtain ⟨u, h3, h4⟩ := h.ats
 exact ⟨Nat.lt_of_lt_of_le h.lt hn, h.cfg, ⟨v, h1, h2.mono hn⟩, ⟨u, h3, h4.mono hn⟩⟩
theorem Ps.start {w4 w6 w7 w8 : World} {lb mb b g vb rb : Nat} {rg : Nat → Nat} {c : Cfg} {L : List LT} {x : Tps} {ws : Nat → Int} {th th' : List Tng} (hR : Rm w4 w4.heap.size w6 (mb + 1) b g mb (.slice none 0 0) c x false ws th [] 0 (fun a => decide (a ∈ ([] : List Int)))) (hQ : Rq w6 w6.heap.size w7 rb rg c x ws th') (hvb : w7.heap.size ≤ vb) (l8 : Below w7.heap.size w7 w8) (hD : Dx w8 vb rb rg (.slice none 0 0) c x false ws th []) (hly : Ly w4.heap.size w6 lb c L) (ok : LOk c L) (sk : Sk L th) :
  Ps w4 w4.heap.size ((w8.alloc (.cells (Kg.bkc Kg.bk0) 75)).alloc (.cells (plcells lb b (mb + 1) rb vb w8.heap.size 0) 77)) (w8.heap.size + 1) lb (mb + 1) b g mb vb rb rg w8.heap.size c L 0 0 := by
 have s4 : w4.heap.size ≤ w6.heap.size := hR.bq.be.size
 have s6 : w6.heap.size ≤ w7.heap.size := hQ.be.size
 have s7 : w7.heap.size ≤ w8.heap.size := l8.size
 obtain ⟨W, hW⟩ : ∃ W, W = (w8.alloc (.cells (Kg.bkc Kg.bk0) 75)).alloc (.cells (plcells lb b (mb + 1) rb vb w8.heap.size 0) 77) := ⟨_, rfl⟩
 have hbk : Kg.Bk W w8.heap.size Kg.bk0 := by rw [hW]; exact (Below.heap_alloc _ _ _ (by simp)).trans (heap_alloc_new w8 _)
 have hpl : W.heap[w8.heap.size + 1]? = some (.cells (plcells lb b (mb + 1) rb vb w8.heap.size 0) 77 (0, 0)) := by
  rw [hW]
  have h := heap_alloc_new (w8.alloc (.cells (Kg.bkc Kg.bk0) 75)) (.cells (plcells lb b (mb + 1) rb vb w8.heap.size 0) 77)
  simpa using h
 have l9 : Below w8.heap.size w8 W := by rw [hW]; exact Below.alloc (Below.alloc (Below.refl _ _) (Nat.le_refl _) _) (by simp) _
 have sW : W.heap.size = w8.heap.size + 2 := by rw [hW]; simp
 rw [← hW]
 clear hW
 have l69 : Below w6.heap.size w6 W := (hQ.be.trans (l8.mono s6)).trans (l9.mono (by omega))
 have l49 : Below w4.heap.size w4 W := hR.bq.be.trans (l69.mono s4)
 have hp6 : ∀ q, q ∈ pF (mb + 1) b g mb (.slice none 0 0) → q < w6.heap.size := hR.lt_pF
 have hp4 : ∀ q, q ∈ pF (mb + 1) b g mb (.slice none 0 0) → w4.heap.size ≤ q := hR.lo_pF
 have hd8 : ∀ q, q ∈ dF vb rb rg (.slice none 0 0) → q < w8.heap.size := hD.lt_dF
 have hd6 : ∀ q, q ∈ dF vb rb rg (.slice none 0 0) → w6.heap.size ≤ q := fun q hq => by
  rcases mem_dF.1 hq with rfl | hq | hq
  ·omega
  ·rcases Nat.lt_or_ge q w6.heap.size with h | h
   ·exact (rft_no hQ.lb hQ.lg h hq).elim
   ·exact h
  ·simp [Value.ownBlock] at hq
 have hall : ∀ q, q ∈ aF (w8.heap.size + 1) (mb + 1) b g mb (.slice none 0 0) vb rb rg (.slice none 0 0) → w4.heap.size ≤ q ∧ (q < w8.heap.size ∨ q = w8.heap.size + 1) := fun q hq => by
  rcases List.mem_cons.1 hq with rfl | hq
  ·exact ⟨by omega, .inr rfl⟩
  ·rcases List.mem_append.1 hq with hq | hq
   ·have := hp6 q hq
    exact ⟨hp4 q hq, .inl (by omega)⟩
   ·have := hd6 q hq
    exact ⟨by omega, .inl (hd8 q hq)⟩
 refine ⟨.slice none 0 0, .slice none 0 0, x, false, ws, th, [], ?_⟩
 have hnn : ∀ (i : Nat) v l, ([none] : List (Option (Value × List Int)))[i]? = some (some (v, l)) → False := fun i v l hi => by
  have h2 : ([none] : List (Option (Value × List Int))) = List.replicate 1 none := rfl
  rw [h2, List.getElem?_replicate] at hi
  split at hi <;> simp at hi
 have hPm : Pm w4 w4.heap.size W (w8.heap.size + 1) lb (mb + 1) b g mb (.slice none 0 0) vb rb rg (.slice none 0 0) w8.heap.size c L x false ws th [] 0 (1000 * ((0 : Nat) : Int)) := by
  refine ⟨⟨hR.below l69, hD.below l9, fun q h1 h2 => ?_, fun q h1 => ?_, fun a ha => by simp at ha, List.nodup_nil⟩, hpl, hly.below (l69.mono s4), ok, fun z => ?_, by omega, fun h => ?_⟩
  ·have := hp6 q h1
   have := hd6 q h2
   omega
  ·have := hd6 q h1
   omega
  ·cases e : thr L z
   ·exact .inl (plc_none e)
   ·obtain ⟨o, ho⟩ := thr_iff.1 e
    obtain ⟨i, T, hi, -, hm⟩ := sk.find ho
    exact .inr ⟨T, List.mem_of_getElem? hi, by rw [plc_some ho, hm.at_]⟩
  ·rcases List.mem_append.1 h with h | h
   ·have := hp6 _ h; omega
   ·have := hd8 _ h; omega
 refine ⟨⟨Kg.bk0, _, [], [], [], Kg.bok0 hbk (by omega), fun i v l hi => (hnn i v l hi).elim, fun i v l hi => (hnn i v l hi).elim, fun i j v l u m hi => (hnn i v l hi).elim, fun k hk => ⟨?_, fun ho => ?_, by simp⟩⟩, Pm.stq, hPm, fun q hq => (hall q hq).1, by omega, l49⟩
 ·have := (hall k hk).2
  omega
 ·have h3 := (hall k hk).2
  rcases ho with rfl | ⟨j, j1, j2, j3⟩
  ·omega
  ·rw [Kg.bk0_row j j1 j2] at j3
   cases j3
end Go.Proofs.YtlkengnefhhppaaGreatDoor
