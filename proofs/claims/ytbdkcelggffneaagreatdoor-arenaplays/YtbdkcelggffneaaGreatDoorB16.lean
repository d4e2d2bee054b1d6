/-
  The document's arena: the walk of a space.
-/
import Derived.Test.YtbdkcelggffneaaGreatDoorB15
set_option linter.unusedVariables false
set_option maxRecDepth 20000
namespace Go.Proofs.YtbdkcelggffneaaGreatDoor
open Go.RowKit Go.Shelf

theorem own_sl {w : World} {base e size n : Nat} {v : Value} {xs : List Value} (h : w.ownsRow base e size v n xs) : ∃ a cap, v = .slice a n cap := by
  rcases h.2 with ⟨rfl, h0⟩ | ⟨g, cap, cur, rfl, _⟩
  · exact ⟨none, 0, by rw [h0]⟩
  · exact ⟨_, _, rfl⟩

theorem own_ge {w : World} {base e size n : Nat} {v : Value} {xs : List Value} (h : w.ownsRow base e size v n xs) (k : Nat) (hk : v.ownBlock = some k) : base ≤ k := by
  rcases h.2 with ⟨rfl, h0⟩ | ⟨g, cap, cur, rfl, hb, _⟩
  · simp [Value.ownBlock] at hk
  · simp [Value.ownBlock] at hk
    omega

theorem past_stop {c : Cfg} {ws : Nat → Int} {T a p : Int} (h : Past c ws T a p) (hs : T ≤ a ∨ ¬ (IsTag 3 (wat c ws a) ∧ wat c ws a / 4 ≤ T - a)) : p = a := by
  cases h with
  | done _ => rfl
  | step h1 h2 h3 _ =>
    rcases hs with h | h
    · omega
    · exact absurd ⟨h2, h3⟩ h

theorem past_next {c : Cfg} {ws : Nat → Int} {T a p : Int} (h : Past c ws T a p) (ha : a < T) (ht : IsTag 3 (wat c ws a)) (hl : wat c ws a / 4 ≤ T - a) : Past c ws T (a + wat c ws a / 4) p := by
  cases h with
  | done h =>
    rcases h with h | h
    · omega
    · exact absurd ⟨ht, hl⟩ h
  | step _ _ _ r => exact r

/-- What the walk holds between two rounds. -/
structure Wk (W : World) (c : Cfg) (ws : Nat → Int) (T e : Int) (l : List Int) (a : Int) (v : Value) (w : World) (pre l' : List Int) (p : Int) : Prop where
  past : Past c ws T a p
  walk : Walk c ws T p l' e
  eq : l = pre ++ l'
  own : w.ownsRow W.heap.size 3 1 v pre.length (pre.map (Value.int .i64))
  bel : Below W.heap.size W w

theorem Wk.below {W w w' : World} {c : Cfg} {ws : Nat → Int} {T e a p : Int} {l pre l' : List Int} {v : Value} (h : Wk W c ws T e l a v w pre l' p) (b : Below w.heap.size w w') : Wk W c ws T e l a v w' pre l' p :=
  ⟨h.past, h.walk, h.eq, row_keep h.own (fun q hq => b.block q (row_lt h.own q hq)), h.bel.trans (b.mono h.bel.size)⟩

theorem at_of {c : Cfg} {x : Tps} (ok : c.Ok) {s : Nat} (s1 : 1 ≤ s) (s4 : s ≤ 4) {a : Int} (h0 : fst c s ≤ a) (h1 : a < x.top s) (h2 : x.top s ≤ bhd c s) : spc c a = s := spc_is ok a s (by omega) (by omega) h0 (by omega)

set_option maxHeartbeats 8000000 in
theorem rwalk_any (b : Nat) (g : Nat → Nat) (c : Cfg) (x : Tps) (sw : Bool) (ws : Nat → Int) (s : Nat) (s1 : 1 ≤ s) (s4 : s ≤ 4) (l : List Int) (p e : Int) (hp : Past c ws (x.top s) (fst c s) p) (hwk : Walk c ws (x.top s) p l e) (hl : l.length < 1000000) (hw : ∀ j, Wd (wat c ws j)) (W : World) (hA : Ra W b g c x sw ws) :
    Calls Tryz.prog 83 #[.pointer (some ⟨b, 0, none⟩), .int .i64 s] W fun r w' => ∃ v, r = .returned (.tuple #[v, .int .i64 (if e < x.top s then e else 0)]) ∧ w'.ownsRow W.heap.size 3 1 v l.length (l.map (Value.int .i64)) ∧ Below W.heap.size W w' := by
  obtain ⟨i0, hi, hz0, hz1, hz2⟩ := info_parts Tryz.infoInt
  have HI0 : Hid ((Tryz.prog.info? 3 = some i0) ∧ i0.zero = some (.int .i64 0) ∧ i0.size = 1 ∧ i0.bytes = 8) := ⟨hi, hz0, hz1, hz2⟩
  have hsp := rspace_any (s : Int) W
  rw [decide_eq_true (show 1 ≤ (s : Int) ∧ (s : Int) ≤ 4 by omega)] at hsp
  have hb := rbounds_any b g c x sw ws s W hA
  have hti := hA.top_in s s1 s4
  have hfi := fst_in hA.ok (s : Int)
  have hf1 := fst_one hA.ok s s1 s4
  have hTb : x.top s ≤ 400000 := by have := spn_bhd hA.ok s s1 s4; omega
  have HAt : Hid (∀ a, fst c s ≤ a → a < x.top s → spc c a = s) := fun a h0 h1 => at_of hA.ok s1 s4 h0 h1 hti.2
  have HR : Hid (∀ w1, Below W.heap.size W w1 → Ra w1 b g c x sw ws) := fun w1 l => hA.below l
  have HT : Hid (∀ w1, Below W.heap.size W w1 → Calls Tryz.prog 76 #[.pointer (some ⟨b, 0, none⟩), .int .i64 s] w1 fun e w' => e = .returned (.int .i64 (x.top s)) ∧ Below w1.heap.size w1 w') := fun w1 l => rtop_any b g c x sw ws s w1 (hA.below l)
  have HW0 : Hid (Wk W c ws (x.top s) e l (fst c s) (.slice none 0 0) W [] l p) := ⟨hp, hwk, rfl, World.ownsRow_nil _ _ _ _, Below.refl _ _⟩
  have HW : Hid (∀ j, Wd (wat c ws j)) := hw
  have HF : Hid (fst c s ≤ fst c s) := Int.le_refl _
  clear hA hi hz0 hz1 hz2 hp hwk hw hti
  obtain ⟨T, hT⟩ : ∃ T, T = x.top s := ⟨_, rfl⟩
  have HTE : Hid (T = x.top s) := hT
  rw [← hT] at HT HW0 hTb HAt ⊢
  clear hT
  obtain ⟨E, hE⟩ : ∃ E, E = if e < T then e else 0 := ⟨_, rfl⟩
  have HE1 : Hid (e < T → E = e) := fun h => by rw [hE, if_pos h]
  have HE0 : Hid (T ≤ e → E = 0) := fun h => by rw [hE, if_neg (by omega)]
  rw [← hE]
  clear hE
  generalize hF : fst c (s : Int) = F at *
  clear hF
  generalize bhd c (s : Int) = B at *
  go_enter Tryz.func83, Tryz.ntmps83
  go_wp2_with fail
  refine hsp.mono ?_
  rintro r w1 ⟨rfl, rfl⟩
  clear hsp
  go_wp2_with fail
  refine hb.mono ?_
  rintro r w2 ⟨rfl, l2⟩
  have HW2 : Hid (Wk W c ws T e l F (.slice none 0 0) w2 [] l p) := HW0.out.below l2
  clear hb HW0 l2
  go_wp2
  go_loopw [6, 7] (fun v k wr => ∃ (a q : Int) (pre l' : List Int), k = .int .i64 a ∧ F ≤ a ∧ a ≤ 400000 ∧ Hid (Wk W c ws T e l a v wr pre l' q)) (fun _ k _ => (T - intOf k).toNat)
  case atStart => exact ⟨F, p, [], l, rfl, Int.le_refl _, by omega, HW2⟩
  case round =>
    obtain ⟨a, q, pre, l', rfl, hFa, hab, HK⟩ := hrel
    clear HW2
    obtain ⟨va, vc, rfl⟩ := own_sl HK.out.own
    go_wp2_with fail
    refine (HT.out _ HK.out.bel).mono ?_
    rintro r w3 ⟨rfl, l3⟩
    have HK3 : Hid (Wk W c ws T e l a (.slice va pre.length vc) w3 pre l' q) := HK.out.below l3
    clear HK l3
    by_cases hlt : a < T
    · by_cases hst : Stands c ws T a
      · have hat : At c x ws a := by
          have e1 := HAt.out a hFa hlt
          refine ⟨by rw [e1]; omega, by rw [e1, ← HTE.out]; exact hlt, by rw [e1, ← HTE.out]; exact hst⟩
        have hh := rhead_at b g c x sw ws a hat (HW.out a) w3 (HR.out w3 HK3.out.bel)
        unfold hdv at hh
        obtain rfl : q = a := past_stop HK3.out.past (.inr (fun h => by have := hst.1.1; have := h.1.1; omega))
        obtain ⟨l2, q2, hl', hp2, hw2⟩ : ∃ l2 q2, l' = q :: l2 ∧ Past c ws T (q + osz c ws q) q2 ∧ Walk c ws T q2 l2 e := by
          have hwk := HK3.out.walk
          cases hwk with
          | done h => omega
          | fail h hn => exact absurd hst hn
          | obj h hs hp r => exact ⟨_, _, rfl, hp, r⟩
        subst hl'
        have hsz := hst.2
        unfold osz at hsz hp2
        have NK : Hid (Past c ws T (q + (2 + ptOf (wat c ws q) + rwOf (wat c ws q))) q2 ∧ Walk c ws T q2 l2 e) := ⟨hp2, hw2⟩
        have hpt := pt_in (wat c ws q)
        have hrw := rw_in (wat c ws q)
        have hlen : pre.length < 1000000 := by
          have := HK3.out.eq
          rw [this] at hl
          simp at hl
          omega
        clear hp2 hw2 hst hat
        generalize wat c ws (q + 1) = m1 at *
        generalize kdOf (wat c ws q) = K at *
        generalize ptOf (wat c ws q) = P at *
        generalize rwOf (wat c ws q) = R at *
        generalize agOf (wat c ws q) = A at *
        generalize stOf (wat c ws q) = U at *
        generalize hdOf (wat c ws q) = H at *
        obtain ⟨p0, p1⟩ := hpt
        obtain ⟨r0, r1⟩ := hrw
        go_wp2_with fail
        refine hh.mono ?_
        rintro r w4 ⟨rfl, l4⟩
        have HK4 : Hid (Wk W c ws T e l q (.slice va pre.length vc) w4 pre (q :: l2) q) := HK3.out.below l4
        clear hh HK3 l4
        go_upto_region 7 with fail
        have hY := Box.new w4 31 (.int .u64 m1) (.int .i64 K) (.int .i64 P) (.int .i64 R) (.int .i64 A) (.int .i64 U) (.bool H)
        have HK5 : Hid (Wk W c ws T e l q (.slice va pre.length vc) (w4.alloc (.cells (hcells m1 K P R A U H) 31)) pre (q :: l2) q) := HK4.out.below (Below.alloc (Below.refl _ _) (Nat.le_refl _) _)
        have hne : some w4.heap.size ≠ (Value.slice va pre.length vc).ownBlock := fun hh => Nat.lt_irrefl _ (row_lt HK4.out.own _ hh.symm)
        have hylt := hY.lt
        clear HK4
        generalize (w4.alloc (.cells (hcells m1 K P R A U H) 31)) = w5 at *
        generalize w4.heap.size = BH at *
        have HY : Hid (Box w5 BH (.int .u64 m1) (.int .i64 K) (.int .i64 P) (.int .i64 R) (.int .i64 A) (.int .i64 U) (.bool H) ∧ some BH ≠ (Value.slice va pre.length vc).ownBlock ∧ BH < w5.heap.size) := ⟨hY, hne, hylt⟩
        clear hY hne hylt
        have hs5 : W.heap.size ≤ w5.heap.size := HK5.out.bel.size
        go_wp2_with (at_builtin; refine wpList_append_own_at _ rfl _ _ 37 rfl W.heap.size 3 i0 (.int .i64 0) 1 8 Tryz.underlying37 HI0.out.1 HI0.out.2.1 HI0.out.2.2.1 HI0.out.2.2.2 rfl (by decide) _ _ _ rfl (HK5.out.own.alloc _) ⟨w5.heap.size, 0, none⟩ 1 1 [.int .i64 q] rfl rfl (cells_new _ _ _) (by simp [Value.oneCell']) (by simp [maxLen]; omega) (by omega) (by simp; omega) ?_)
        intro v' w6 ho hg _ _
        have HK6 : Hid (Wk W c ws T e l (q + (2 + P + R)) v' w6 (pre ++ [q]) l2 q2) := ⟨NK.out.1, NK.out.2, by rw [HK5.out.eq]; simp, by rw [List.length_append, List.map_append]; exact ho, (HK5.out.bel.alloc HK5.out.bel.size _).grown hg (by have := HK5.out.bel.size; simp; omega) (fun k hk => own_ge HK5.out.own k hk)⟩
        have y0 := grow_cell hg HY.out.2.2 HY.out.1.h0 HY.out.2.1
        have y1 := grow_cell hg HY.out.2.2 HY.out.1.h1 HY.out.2.1
        have y2 := grow_cell hg HY.out.2.2 HY.out.1.h2 HY.out.2.1
        have y3 := grow_cell hg HY.out.2.2 HY.out.1.h3 HY.out.2.1
        have y4 := grow_cell hg HY.out.2.2 HY.out.1.h4 HY.out.2.1
        have y5 := grow_cell hg HY.out.2.2 HY.out.1.h5 HY.out.2.1
        have y6 := grow_cell hg HY.out.2.2 HY.out.1.h6 HY.out.2.1
        clear hg ho HK5 HY NK
        obtain ⟨va2, vc2, rfl⟩ := own_sl HK6.out.own
        go_wp2_with fail
        clear y0 y1 y2 y3 y4 y5 y6
        refine (rsizeh_any m1 K P R A U H p0 p1 r0 r1 w6).mono ?_
        rintro r w7 ⟨rfl, hw7⟩
        have HK7 : Hid (Wk W c ws T e l (q + (2 + P + R)) (.slice va2 (pre ++ [q]).length vc2) w7 (pre ++ [q]) l2 q2) := HK6.out.below (by rw [hw7]; exact Below.alloc (Below.refl _ _) (Nat.le_refl _) _)
        rw [show (pre ++ [q]).length = pre.length + 1 by simp] at HK7
        clear hw7 HK6
        go_wp2
        go_roundw
        case rel => exact ⟨q + (2 + P + R), q2, pre ++ [q], l2, rfl, by omega, by omega, HK7⟩
        case measure => simp [intOf]; omega
      · have hnat : ¬ At c x ws a := fun hat => hst (by
          have e1 := HAt.out a hFa hlt
          have := hat.2.2
          rw [e1, ← HTE.out] at this
          exact this)
        have hh := rhead_nat b g c x sw ws a hnat (HW.out a) w3 (HR.out w3 HK3.out.bel)
        clear hnat
        go_wp2_with fail
        refine hh.mono ?_
        rintro r w4 ⟨rfl, l4⟩
        have HK5 : Hid (Wk W c ws T e l a (.slice va pre.length vc) (w4.alloc (.cells (hcells 0 0 0 0 0 0 false) 31)) pre l' q) := (HK3.out.below l4).below (Below.alloc (Below.refl _ _) (Nat.le_refl _) _)
        clear hh HK3 l4
        go_upto_region 7 with fail
        generalize (w4.alloc (.cells (hcells 0 0 0 0 0 0 false) 31)) = w5 at *
        go_wp2_with fail
        refine (rword_any b g c x sw ws a w5 (HR.out w5 HK5.out.bel)).mono ?_
        rintro r w6 ⟨rfl, l6⟩
        have HK6 : Hid (Wk W c ws T e l a (.slice va pre.length vc) w6 pre l' q) := HK5.out.below l6
        clear HK5 l6
        have hfd := rfilled_any (wat c ws a) (HW.out a) w6
        by_cases htag : IsTag 3 (wat c ws a)
        · have htn : tn 3 (wat c ws a) = wat c ws a / 4 := by unfold tn; rw [if_pos htag]
          have hn1 : 1 ≤ wat c ws a / 4 := htag.2.1
          have hn2 : wat c ws a / 4 ≤ 1099511627776 := htag.2.2
          rw [htn, decide_eq_true htag] at hfd
          have HF1 : Hid (wat c ws a / 4 ≤ T - a → Wk W c ws T e l (a + wat c ws a / 4) (.slice va pre.length vc) w6 pre l' q) := fun hle => ⟨past_next HK6.out.past hlt htag hle, HK6.out.walk, HK6.out.eq, HK6.out.own, HK6.out.bel⟩
          have HF2 : Hid (T - a < wat c ws a / 4 → l = pre ∧ e = a) := fun hgt => by
            obtain rfl : q = a := past_stop HK6.out.past (.inr (fun hh => by have := hh.2; omega))
            have hwk := HK6.out.walk
            have heq := HK6.out.eq
            cases hwk with
            | done h => omega
            | fail h _ => exact ⟨by simpa using heq, rfl⟩
            | obj h hs _ _ => exact absurd hs hst
          clear htag htn hst
          generalize wat c ws a / 4 = n at *
          generalize wat c ws a = m at *
          go_wp2_with fail
          refine hfd.mono ?_
          rintro r w7 ⟨rfl, rfl⟩
          clear hfd
          go_wp2_with fail
          refine (HT.out _ HK6.out.bel).mono ?_
          rintro r w8 ⟨rfl, l8⟩
          by_cases hle : n ≤ T - a
          · have HK8 : Hid (Wk W c ws T e l (a + n) (.slice va pre.length vc) w8 pre l' q) := (HF1.out hle).below l8
            have hgt : ¬ T < a + n := by omega
            clear HF1 HF2 HK6 l8
            go_wp2
            go_roundw
            case rel => exact ⟨a + n, q, pre, l', rfl, by omega, by omega, HK8⟩
            case measure => simp [intOf]; omega
          · have HK8 : Hid (Wk W c ws T e l a (.slice va pre.length vc) w8 pre l' q) := HK6.out.below l8
            have hgt : T < a + n := by omega
            have hfin : Hid (l = pre ∧ e = a) := HF2.out (by omega)
            clear HF1 HF2 HK6 l8
            go_wp2
            go_ret2
            exact ⟨.slice va pre.length vc, by rw [HE1.out (by rw [hfin.out.2]; exact hlt), hfin.out.2]; rfl, by rw [hfin.out.1]; exact HK8.out.own, HK8.out.bel⟩
        · have htn : tn 3 (wat c ws a) = 0 := by unfold tn; rw [if_neg htag]
          rw [htn, decide_eq_false htag] at hfd
          have hfin : Hid (l = pre ∧ e = a) := by
            obtain rfl : q = a := past_stop HK6.out.past (.inr (fun hh => htag hh.1))
            have hwk := HK6.out.walk
            have heq := HK6.out.eq
            cases hwk with
            | done h => omega
            | fail h _ => exact ⟨by simpa using heq, rfl⟩
            | obj h hs _ _ => exact absurd hs hst
          clear htag htn hst
          generalize wat c ws a = m at *
          go_wp2_with fail
          refine hfd.mono ?_
          rintro r w7 ⟨rfl, rfl⟩
          clear hfd
          go_wp2
          go_ret2
          exact ⟨.slice va pre.length vc, by rw [HE1.out (by rw [hfin.out.2]; exact hlt), hfin.out.2]; rfl, by rw [hfin.out.1]; exact HK6.out.own, HK6.out.bel⟩
    · have hq := past_stop HK3.out.past (.inl (by omega))
      have hfin : Hid (l = pre ∧ ¬ e < T) := by
        have hwk := HK3.out.walk
        have heq := HK3.out.eq
        cases hwk with
        | done h => exact ⟨by simpa using heq, by omega⟩
        | fail h _ => omega
        | obj h _ _ _ => omega
      clear hq
      go_wp2
      go_ret2
      exact ⟨.slice va pre.length vc, by rw [HE0.out (by have := hfin.out.2; omega)]; rfl, by rw [hfin.out.1]; exact HK3.out.own, HK3.out.bel⟩

end Go.Proofs.YtbdkcelggffneaaGreatDoor
