/-
  walked, Check.
-/
import Derived.Test.YtpiemfchjlihfaaGreatDoorHW
import Derived.Test.YtpiemfchjlihfaaGreatDoorHR
import Derived.Test.YtpiemfchjlihfaaGreatDoorA11
set_option linter.unusedVariables false
namespace Go.Proofs.YtpiemfchjlihfaaGreatDoor
open Go.RowKit Go.Shelf

attribute [local go_sem] Oper.semAt_some

/-- Where the word behind the last object stands. -/
def ew (c : Cfg) (ws : Nat → Int) (f : Int) (l : List Int) : Int := (l.getLast?.map (fun a => a + osz c ws a)).getD f

theorem ew_snoc (c : Cfg) (ws : Nat → Int) (f : Int) (l : List Int) (a : Int) : ew c ws f (l ++ [a]) = a + osz c ws a := by simp [ew]

theorem ew_cons (c : Cfg) (ws : Nat → Int) (f a : Int) (l : List Int) : ew c ws f (a :: l) = ew c ws (a + osz c ws a) l := by
  unfold ew
  cases l with
  | nil => rfl
  | cons y l => rw [List.getLast?_cons_cons]; cases h : (y :: l).getLast? with
    | none => simp at h
    | some z => rfl

theorem walk_end {c : Cfg} {ws : Nat → Int} {top p e : Int} {l : List Int} (h : Walk c ws top p l e) : ∀ f, Past c ws top f p → Past c ws top (ew c ws f l) e := by
  induction h with
  | done _ => intro f hf; exact hf
  | fail _ _ => intro f hf; exact hf
  | obj _ _ hp _ ih => intro f hf; rw [ew_cons]; exact ih _ hp

theorem walk_ge {c : Cfg} {ws : Nat → Int} {top p e : Int} {l : List Int} (h : Walk c ws top p l e) : ∀ f, 0 ≤ f → Past c ws top f p → 0 ≤ ew c ws f l := by
  induction h with
  | done _ => intro f h0 _; exact h0
  | fail _ _ => intro f h0 _; exact h0
  | @obj a a' _ _ _ _ hp _ ih => intro f h0 hf; rw [ew_cons]; exact ih _ (by have := hf.ge; have := osz_in c ws a; omega) hp

/-- What walked holds between two rounds. -/
def Wkd (c : Cfg) (ws : Nat → Int) (f : Int) (BB : Nat) (w : World) (S : Nat → Prop) (pre : List Int) (W : World) : Prop :=
  W.heap[BB]? = some (.cells #[.int .i64 (ew c ws f pre)] 3 (0, 0)) ∧ ¬ S BB ∧ (∀ k, S k → k < W.heap.size) ∧ Below w.heap.size w W

theorem wkd_own (c : Cfg) (ws : Nat → Int) (f : Int) (BB : Nat) (w : World) (B : Nat) (hB : w.heap.size ≤ B) : OwnS B (Wkd c ws f BB w) := by
  rintro S s X Y row ⟨hb, h1, h3, h4⟩ hg hrow
  have hbl := (Array.getElem?_eq_some_iff.1 hb).1
  have hbr : some BB ≠ row := fun e => by
    obtain ⟨_, o, ho, hc⟩ := hrow _ e.symm
    rw [hb] at ho; cases ho; cases hc
  refine ⟨(hg.block _ hbl hbr).trans hb, ?_, ?_, ?_⟩
  · rintro (h | h)
    · exact h1 h
    · omega
  · rintro k (h | h)
    · have := h3 k h; have := hg.size; omega
    · exact h.2
  · exact h4.grown hg h4.size (fun k e => by have := (hrow k e).1; omega)

abbrev itv (ca cs : Nat) : Value := .func (.func 99) #[] #[.pointer (some ⟨ca, 0, none⟩), .pointer (some ⟨cs, 0, none⟩)]

theorem It.new {w : World} {b g : Nat} {c : Cfg} {x : Tps} {sw : Bool} {ws : Nat → Int} (hA : Ar w b g c x sw ws) (hL : Laid w) (S : Int) : It ((w.alloc (.cells #[.pointer (some ⟨b, 0, none⟩)] 26)).alloc (.cells #[.int .i64 S] 3)) b g w.heap.size (w.heap.size + 1) c x sw ws S := by
  have l : Below w.heap.size w ((w.alloc (.cells #[.pointer (some ⟨b, 0, none⟩)] 26)).alloc (.cells #[.int .i64 S] 3)) := Below.alloc (Below.alloc (Below.refl _ _) (Nat.le_refl _) _) (by simp) _
  refine ⟨hA.below l, hL.keep l, ?_, ?_⟩
  · exact cell_of_row _ _ 0 _ _ _ ((Below.heap_alloc _ _ _ (by simp)).trans (heap_alloc_new w (.cells #[.pointer (some ⟨b, 0, none⟩)] 26 (0, 0))))
  · have := heap_alloc_new (w.alloc (.cells #[.pointer (some ⟨b, 0, none⟩)] 26)) (.cells #[.int .i64 S] 3 (0, 0))
    rw [World.size_alloc] at this
    exact cell_of_row _ _ 0 _ _ _ this

theorem objects1_enters : ∀ args w, (callFunc 99 args).run Tryz.prog w = .ok (.enter 99 args) w := enters_of Tryz.func99 (by kernel_rfl) rfl

/-- A world that has only grown. -/
structure Bel (w : World) where
  v : World
  h : Below w.heap.size w v

theorem region_below {P : Program} {id : Nat} {Q : Exit → Act → World → Prop} {a : Act} {w : World} {l : List Oper} (hm : P.follows .mixedOrders = true) (hB : Region.lexB .any l.toArray = true)
    (h : wpQuiet P l.toArray (fun w' => ∃ p : Bel w, w' = p.v) (fun a' => ∀ w', (∃ p : Bel w, w' = p.v) → Q .normal a' w') l a) : (Code.region id l.toArray true).wp P Q a w :=
  wp_region_quiet (C := fun w' => ∃ p : Bel w, w' = p.v) hm hB ⟨⟨w.drewN 1, below_drewN (Below.refl _ _) 1⟩, rfl⟩ (by simpa using h)

theorem calls_bel {P : Program} {f : FuncId} {args : Array Value} {w : World} {p : Bel w} {v : Value} (h : Calls P f args p.v fun e w' => e = .returned v ∧ Below p.v.heap.size p.v w') : Calls P f args p.v fun e w'' => e = .returned v ∧ ∃ q : Bel w, w'' = q.v :=
  h.mono fun _ w'' ⟨he, l⟩ => ⟨he, ⟨w'', p.h.trans (l.mono p.h.size)⟩, rfl⟩

set_option maxRecDepth 100000 in
set_option maxHeartbeats 4000000 in
theorem walked_any (b g : Nat) (c : Cfg) (x : Tps) (sw : Bool) (ws : Nat → Int) (S : Int) (l : List Int) (p e : Int) (hwb : ∀ y ∈ l, 0 ≤ y ∧ y ≤ 262145) (hp : Past c ws (x.top S) (fst c S) p) (hwk : Walk c ws (x.top S) p l e) (w : World) (hA : Ar w b g c x sw ws) (hL : Laid w) :
    Calls Tryz.prog 84 #[.pointer (some ⟨b, 0, none⟩), .int .i64 S] w fun r w' => r = .returned (.int .i64 e) ∧ Below w.heap.size w w' := by
  refine (callsIn_wide (n := 9)).1 ?_
  have hbo := bounds_any b g c x sw ws S w hA
  have HA : Hid (Ar w b g c x sw ws ∧ Laid w) := ⟨hA, hL⟩
  have hbl := hA.own.lt
  have hgl := hA.row.lt
  have h0l := hL.lt0
  have h1l := hL.lt1
  clear hA hL
  refine callsIn_of_wp_marks Tryz.func84 rfl trivial ?_ rfl
  simp only [Tryz.ntmps84, List.size_toArray, List.length_cons, List.length_nil, Nat.reduceAdd, Nat.reduceSub, Array.replicate_succ, Array.replicate_zero, List.push_toArray, List.append_toArray, List.nil_append, List.cons_append]
  gi_wp2
  refine ⟨trivial, (callsIn_wide.2 hbo).mono ?_⟩
  rintro r w1 ⟨rfl, b1⟩
  have b2 := Below.alloc b1 b1.size (.cells #[.int .i64 (fst c S)] 3)
  have hBB : (w1.alloc (.cells #[.int .i64 (fst c S)] 3)).heap[w1.heap.size]? = some (.cells #[.int .i64 (fst c S)] 3 (0, 0)) := heap_alloc_new w1 _
  have hge := b1.size
  clear hbo b1
  gi_wp2
  generalize (w1.alloc (.cells #[.int .i64 (fst c S)] 3)) = W1 at *
  generalize w1.heap.size = BB at *
  refine ⟨trivial, (callsIn_wide.2 (objects_any b S W1)).mono ?_⟩
  rintro r w2 ⟨rfl, hw2⟩
  have i2 := It.new (HA.out.1.below b2) (HA.out.2.keep b2) S
  rw [← hw2] at i2
  have hBl := (Array.getElem?_eq_some_iff.1 hBB).1
  have b3 : Below W1.heap.size W1 w2 := by rw [hw2]; exact Below.alloc (Below.alloc (Below.refl _ _) (Nat.le_refl _) _) (by simp) _
  have b4 := b2.trans (b3.mono b2.size)
  have hB2 := (b3.block _ hBl).trans hBB
  clear hw2
  gi_wp2
  have hcl := World.block_lt_of_cell? _ _ i2.ca
  have hsl := World.block_lt_of_cell? _ _ i2.cs
  simp only at hcl hsl
  have hwf := walk_full b g W1.heap.size (W1.heap.size + 1) c x sw ws S l p e hp hwk w.heap.size w2 i2 (by have := b4.size; omega) hbl hgl h0l h1l
  refine range_fullA (S0 := fun k => k = W1.heap.size ∨ k = W1.heap.size + 1) (Own := fun k => k = W1.heap.size ∨ k = W1.heap.size + 1) (gf := 99) (lb := #[.pointer (some ⟨W1.heap.size, 0, none⟩), .pointer (some ⟨W1.heap.size + 1, 0, none⟩)]) (w0 := w2) (n0 := w.heap.size) (encs := encO c ws) (xs := l) rfl objects1_enters hwf (fun k h => h) (Below.refl _ _) b4.size (fun _ => rfl)
    (Wkd c ws (fst c S) BB w) (wkd_own c ws _ BB w _ b4.size) ⟨hB2, by rintro (h | h) <;> omega, by rintro k (rfl | rfl) <;> assumption, b4⟩
    (fun y H => { tmps := #[.pointer (some ⟨b, 0, none⟩), .int .i64 S, undef, undef, .int .i64 0, .pointer (some ⟨BB, 0, none⟩), .int .i64 (bhd c S), .int .i64 y, .pointer (some ⟨H, 0, none⟩), .tuple #[.int .i64 (fst c S), .int .i64 (bhd c S)], .pointer (some ⟨b, 0, none⟩), .int .i64 S, .tuple #[.int .i64 (fst c S), .int .i64 (bhd c S)], .int .i64 (fst c S), .int .i64 (bhd c S), .pointer (some ⟨b, 0, none⟩), .int .i64 S, itv W1.heap.size (W1.heap.size + 1), .int .i64 y, hdv c ws y, undef, undef, undef, undef, undef, undef, undef, undef, undef, undef], defers := [] })
    (fun y => .cells (hcells (wat c ws (y + 1)) (kdOf (wat c ws y)) (ptOf (wat c ws y)) (rwOf (wat c ws y)) (agOf (wat c ws y)) (stOf (wat c ws y)) (hdOf (wat c ws y))) 46 (0, 0))
    (fun S1 S2 pre W h hs => ⟨h.1, fun h' => h.2.1 (hs _ h'), fun k hk => h.2.2.1 k (hs k hk), h.2.2.2⟩) (fun S1 pre W h => h.2.2.1) ?assign ?body ?done
  case assign =>
    intro lp y W K m hK
    gi_wp2
    exact hK
  case body =>
    rintro lp S1 pre y H W m ⟨hv, h1, h3, hB⟩ hpre hH
    have hpt := pt_in (wat c ws y)
    have hrw := rw_in (wat c ws y)
    have hos : 2 + ptOf (wat c ws y) + rwOf (wat c ws y) = osz c ws y := rfl
    have hyb := hwb y (hpre.subset (by simp))
    have hsz := size_any3 (wat c ws (y + 1)) (kdOf (wat c ws y)) (ptOf (wat c ws y)) (rwOf (wat c ws y)) (agOf (wat c ws y)) (stOf (wat c ws y)) (hdOf (wat c ws y)) hpt.1 hpt.2 hrw.1 hrw.2 W
    have zz := osz_in c ws y
    rw [hos] at hsz
    have HE : Hid (ew c ws (fst c S) (pre ++ [y]) = y + osz c ws y) := ew_snoc c ws _ pre y
    have Hv : Hid (W.heap[BB]? = some (.cells #[.int .i64 (ew c ws (fst c S) pre)] 3 (0, 0))) := hv
    have n0 := cell_of_row _ _ 0 _ _ _ hH
    have n1 := cell_of_row _ _ 1 _ _ _ hH
    have n2 := cell_of_row _ _ 2 _ _ _ hH
    have n3 := cell_of_row _ _ 3 _ _ _ hH
    have n4 := cell_of_row _ _ 4 _ _ _ hH
    have n5 := cell_of_row _ _ 5 _ _ _ hH
    have n6 := cell_of_row _ _ 6 _ _ _ hH
    simp only [List.getElem?_toArray, List.getElem?_cons_zero, List.getElem?_cons_succ] at n0 n1 n2 n3 n4 n5 n6
    have hBl2 := (Array.getElem?_eq_some_iff.1 hv).1
    clear hv hH hpt hrw hos
    gi_wp2
    refine ⟨trivial, fun h => (by cases h), ((callsIn_wide.2 hsz).inRound lp).mono ?_⟩
    rintro r w4 ⟨rfl, hw4⟩
    have l4 : Below W.heap.size W w4 := by rw [hw4]; exact Below.alloc (Below.refl _ _) (Nat.le_refl _) _
    have hv4 := (l4.block _ hBl2).trans Hv.out
    have kc : w4.cell? ⟨BB, 0, none⟩ = some (.int .i64 (ew c ws (fst c S) pre)) := cell_of_row _ _ 0 _ _ _ hv4
    have kf : w4.frozen? ⟨BB, 0, none⟩ = false := by unfold World.frozen?; simp only [hv4]; simp
    have Hv4 : Hid (w4.heap[BB]? = some (.cells #[.int .i64 (ew c ws (fst c S) pre)] 3 (0, 0))) := hv4
    clear hsz n0 n1 n2 n3 n4 n5 n6 hw4 hv4
    generalize osz c ws y = z at *
    gi_wp2
    refine ⟨fun k hk => ?_, ?_, ?_, h1, fun k hk => ?_, ?_⟩
    · rw [Below.heap_setCell _ _ _ _ (fun e => h1 (by simp at e; rw [← e]; exact hk))]
      exact l4.block k (h3 k hk)
    · exact Below.setCell (l4.mono hB.size) hge _
    · rw [HE.out]
      simp [World.setCell, Array.getElem?_modify, Hv4.out]
    · have := h3 k hk; have := l4.size; simp [World.setCell]; omega
    · exact Below.setCell (hB.trans (l4.mono hB.size)) hge _
  case done =>
    rintro D S1 W hD ⟨hv, h1, h3, hB⟩ hK
    have kc : W.cell? ⟨BB, 0, none⟩ = some (.int .i64 (ew c ws (fst c S) l)) := cell_of_row _ _ 0 _ _ _ hv
    have hAW := HA.out.1.below hB
    have hLW := HA.out.2.keep hB
    have hend := walk_end hwk _ hp
    have hgew := walk_ge hwk _ (hAW.sub_in S).1 hp
    have htw : x.top S ≤ c.words := by have := hAW.sub_in S; omega
    have Hto : Hid (∀ p : Bel W, Calls Tryz.prog 36 #[.pointer (some ⟨b, 0, none⟩), .int .i64 S] p.v fun e w' => e = .returned (.int .i64 (x.top S)) ∧ Below p.v.heap.size p.v w') := fun p => top_any b g c x sw ws S p.v (hAW.below p.h)
    have Hpa : Hid (∀ p : Bel W, Calls Tryz.prog 100 #[.pointer (some ⟨b, 0, none⟩), .int .i64 (x.top S), .int .i64 (ew c ws (fst c S) l)] p.v fun r w' => r = .returned (.int .i64 e) ∧ Below p.v.heap.size p.v w') := fun p => past_any b g c x sw ws _ _ e hgew htw hend p.v (hAW.below p.h) (hLW.keep p.h)
    have kp : ∀ p : Bel W, p.v.cell? ⟨BB, 0, none⟩ = some (.int .i64 (ew c ws (fst c S) l)) := fun p => (World.cell?_of_block (w := W) (p.h.block _ (World.block_lt_of_cell? _ _ kc))).trans kc
    have hDl := (Array.getElem?_eq_some_iff.1 hK).1
    have HK : Hid (W.heap[D]? = some (.deferred (some []))) := hK
    clear hAW hLW hend hgew htw kc hv hwf hK
    haveI hinh : Inhabited (Bel W) := ⟨⟨W, Below.refl _ _⟩⟩
    gi_wp2
    refine wpIn_wide.2 ?_
    refine region_below mixed (by kernel_rfl) ?_
    repeat (go_big_quiet_step (first | (go_at_call 36; exact calls_bel (Hto.out _)) | (go_at_call 100; exact calls_bel (Hpa.out _))))
    refine wpQuiet_nil ?_
    rintro w6 ⟨⟨w6, b8⟩, rfl⟩
    have hK6 := (b8.block _ hDl).trans HK.out
    have hB6 := hB.trans (b8.mono hB.size)
    clear kp b8
    gi_wp2
    refine ⟨by simp, .inl ⟨_, _, rfl, run_takeDeferred hK6, ?_⟩⟩
    exact ⟨_, results_tmp rfl _ _ _, rfl, hB6.trans (belowK_b (w := w) (Nat.le_refl _) w6 D _ _ (by have := b4.size; omega) hK6 rfl rfl)⟩

end Go.Proofs.YtpiemfchjlihfaaGreatDoor
