import Derived.Test.YtemdmpfifcihfaaRA1
/-
  The document's lists.
-/
set_option linter.unusedVariables false
namespace Go.Proofs.Ytemdmpfifcihfaa
open Go.RowKit

theorem Rf.one {w : World} {base b : Nat} {vt : Value} {vs : Nat → Value} {S : Sta} (H : Rf w base b vt vs S) {j : Nat} (hj : j < S.T * 2 + 2) : (vs j).oneCell' = true := by
  obtain ⟨a, c, e⟩ := own_slice (H.row j hj)
  rw [e]
  rfl

theorem two_new (w : World) (x y : Value) (t : TypeId) : ∀ j u, [x, y][j]? = some u → (w.alloc (.cells #[x, y] t)).cell? ((⟨w.heap.size, 0, none⟩ : Addr).add j) = some u := by
  intro j u hj
  have h := heap_alloc_new w (.cells #[x, y] t (0, 0))
  have := heap_cell h j
  rw [Addr.add_lit, Nat.zero_add]
  exact this.trans (by simpa using hj)

/-- The lists that hold roots. -/
def lsts (T : Nat) (vs : Nat → Value) : List Value := (List.range T).map (fun i => vs (i * 2)) ++ [vs (T * 2), vs (T * 2 + 1)]

set_option maxRecDepth 20000 in
set_option maxHeartbeats 1000000 in
theorem rlists_any (base b : Nat) (vt : Value) (vs : Nat → Value) (S : Sta) (w : World) (H : Rf w base b vt vs S) (hO : S.Ok) :
    Calls Try.prog 76 #[.pointer (some ⟨b, 0, none⟩)] w fun e w' => ∃ v', e = .returned v' ∧ w'.ownsRow w.heap.size 31 1 v' (S.T + 2) (lsts S.T vs) ∧ Below w.heap.size w w' := by
  obtain ⟨i0, hi0, hz0, hz1, hz2⟩ := info_parts Try.infoInts
  have HH : Hid ((Try.prog.info? 31 = some i0) ∧ i0.zero = some (.slice none 0 0) ∧ i0.size = 1 ∧ i0.bytes = 24) := ⟨hi0, hz0, hz1, hz2⟩
  have HR : Hid (Rf w base b vt vs S) := H
  have hT := hO.T8
  have hT1 := hO.T1
  obtain ⟨g, cap, ev, -, -⟩ := H.thc (t := 0) (by omega)
  have EV : Hid (vt = .slice (some ⟨g, 0, none⟩) S.T cap) := ev
  clear H hO hi0 hz0 hz1 hz2 ev
  go_enter Try.func76, Try.ntmps76
  go_wp2
  go_loopw [3, 4] (fun v i wr => ∃ (j : Nat), j ≤ S.T ∧ i = .int .i64 j ∧ Hid (wr.ownsRow w.heap.size 31 1 v j ((List.range j).map (fun i => vs (i * 2))) ∧ Below w.heap.size w wr)) (fun _ i _ => S.T - (intOf i).toNat)
  case atStart => exact ⟨0, Nat.zero_le _, rfl, World.ownsRow_nil _ _ _ _, Below.refl _ _⟩
  case round =>
    obtain ⟨j, hj, rfl, hp⟩ := hrel
    obtain ⟨av, cv, e3⟩ := own_slice hp.out.1
    subst e3
    have H1 : Rf wr base b vt vs S := HR.out.keep (fun k hk => hp.out.2.block k (HR.out.mem k hk).2)
    have c0 := H1.cell0
    rw [EV.out] at c0
    by_cases hlt : j < S.T
    · obtain ⟨g', cap', ev, x0, x1⟩ := H1.thc hlt
      have eg : g' = g := by have := EV.out; rw [ev] at this; simp at this; exact this.1
      subst eg
      obtain ⟨ax, cs, es⟩ := own_slice (H1.slots hlt)
      have ES : Hid (vs (j * 2) = .slice ax (S.rw (j * 2 + 1)).length cs) := es
      rw [es] at x0
      have hji : (j : Int) < (S.T : Int) := by omega
      clear H1 ev x1 es
      generalize (S.rw (j * 2 + 1)).length = ns at *
      go_wp2_with (at_builtin; refine wpList_append_own_at _ rfl _ _ 41 rfl w.heap.size 31 i0 (.slice none 0 0) 1 24 Try.underlying41 HH.out.1 HH.out.2.1 HH.out.2.2.1 HH.out.2.2.2 rfl (by decide) _ _ _ rfl (hp.out.1.alloc _) ⟨wr.heap.size, 0, none⟩ 1 1 [.slice ax ns cs] rfl rfl (cell_one_new _ _ _) (by simp [Value.oneCell']) (by simp [maxLen]; omega) (by omega) (by have := hp.out.2.size; simp; omega) ?_)
      intro v7 w7 o7 g7 _ _
      have P7 : Hid (w7.ownsRow w.heap.size 31 1 v7 (j + 1) ((List.range (j + 1)).map (fun i => vs (i * 2))) ∧ Below w.heap.size w w7) := by
        refine ⟨by rw [List.range_succ, List.map_append]; simpa [ES.out] using o7, (hp.out.2.alloc hp.out.2.size _).grown g7 (by have := hp.out.2.size; simp; omega) (fun i e => (hp.out.1.lt i e).1)⟩
      clear o7 g7 hp c0 x0
      go_wp2
      go_roundw
      case rel => exact ⟨j + 1, hlt, by go_num, P7⟩
      case measure => simp [intOf]; omega
    · obtain rfl : j = S.T := by omega
      have hnk : ¬ (S.T : Int) < (S.T : Int) := by omega
      have c2 := H1.cell2
      have c3 := H1.cell3
      obtain ⟨a2, k2, e2⟩ := own_slice H1.hnd
      obtain ⟨a3, k3, e3⟩ := own_slice H1.que
      have E2 : Hid (vs (S.T * 2) = .slice a2 S.hs.length k2 ∧ vs (S.T * 2 + 1) = .slice a3 S.qs.length k3) := ⟨e2, e3⟩
      rw [e2] at c2
      rw [e3] at c3
      clear e2 e3
      generalize S.hs.length = n2 at *
      generalize S.qs.length = n3 at *
      have HP : Hid (wr.drew.ownsRow w.heap.size 31 1 (.slice av S.T cv) S.T ((List.range S.T).map (fun i => vs (i * 2))) ∧ Below w.heap.size w wr.drew) := ⟨own_keep (k := 0) hp.out.1 (fun _ _ => rfl), below_drewN hp.out.2 1⟩
      clear hp H1 hlt hj
      go_wp2_with fail
      go_region_law (refine step_append_own_at rfl (.tmp 25) (.tmp 34) 41 rfl w.heap.size 31 i0 (.slice none 0 0) 1 24 Try.underlying41 HH.out.1 HH.out.2.1 HH.out.2.2.1 HH.out.2.2.2 rfl (by decide) (.slice av S.T cv) S.T ((List.range S.T).map (fun i => vs (i * 2))) rfl (HP.out.1.alloc _) ⟨wr.heap.size, 0, none⟩ 2 2 [.slice a2 n2 k2, .slice a3 n3 k3] rfl rfl (two_new _ _ _ _) (by simp [Value.oneCell']) (by simp [maxLen]; omega) (by omega) (by have := HP.out.2.size; simp at this ⊢; omega) ?_; intro v7 w7 o7 g7 _; have P7 : Hid (w7.ownsRow w.heap.size 31 1 v7 (S.T + 2) (lsts S.T vs) ∧ Below w.heap.size w w7) := ⟨by unfold lsts; simpa [E2.out.1, E2.out.2] using o7, (HP.out.2.alloc HP.out.2.size _).grown g7 (by have := HP.out.2.size; simp at this ⊢; omega) (fun i e => (HP.out.1.lt i e).1)⟩; clear o7 g7)
      all_goals go_wp2
      all_goals go_ret
      all_goals exact ⟨_, rfl, P7.out⟩

end Go.Proofs.Ytemdmpfifcihfaa

/-
  The document's All: the pure side.
-/
set_option linter.unusedVariables false
namespace Go.Proofs.Ytemdmpfifcihfaa
open Go.RowKit

/-- What of a list isn't null, as the document asks it. -/
def pz (l : List Int) : List Int := l.filter (fun x => decide (0 < x))

theorem pz_nz {l : List Int} (h : ∀ x ∈ l, 0 ≤ x) : pz l = nz l := by
  unfold pz nz
  refine List.filter_congr (fun x hx => ?_)
  have := h x hx
  simp only [ne_eq, decide_not]
  by_cases e : x = 0
  · subst e; simp
  · have : 0 < x := by omega
    simp [e, this]

theorem pz_tolds : ∀ (hs : List (Option Int)), (∀ x, some x ∈ hs → 0 ≤ x) → pz (tolds hs) = hnz hs
  | [], _ => rfl
  | o :: hs, h => by
    have ih := pz_tolds hs (fun x hx => h x (by simp [hx]))
    unfold pz tolds at ih ⊢
    unfold hnz nz at ih ⊢
    cases o with
    | none => simpa using ih
    | some y =>
      have hy := h y (by simp)
      by_cases e : y = 0
      · subst e; simpa using ih
      · have e2 : 0 < y := by omega
        simp only [List.map_cons, Option.getD_some, List.filter_cons]
        rw [if_pos (by simpa using e2), if_pos (by simpa using e), ih]

/-- The lists that hold roots, in their order. -/
def lrow (S : Sta) (i : Nat) : List Int := if i < S.T then S.rw (i * 2 + 1) else if i = S.T then tolds S.hs else S.qs

/-- What isn't null in the first i lists. -/
def preL (S : Sta) : Nat → List Int
  | 0 => []
  | i + 1 => preL S i ++ pz (lrow S i)

theorem preL_T {S : Sta} (hO : S.Ok) : ∀ i, i ≤ S.T → preL S i = preT S i
  | 0, _ => rfl
  | i + 1, h => by
    unfold preL preT
    rw [preL_T hO i (by omega)]
    unfold lrow
    rw [if_pos (by omega), pz_nz (hO.s0 i (by omega))]

theorem preL_all {S : Sta} (hO : S.Ok) : preL S (S.T + 2) = S.all := by
  show preL S S.T ++ pz (lrow S S.T) ++ pz (lrow S (S.T + 1)) = _
  rw [preL_T hO _ (Nat.le_refl _)]
  unfold lrow Sta.all
  rw [if_neg (by omega), if_pos rfl, if_neg (by omega), if_neg (by omega), pz_tolds _ hO.h0, pz_nz hO.q0]

theorem pz_snoc_yes {l : List Int} {k : Nat} {x : Int} (hx : l[k]? = some x) (h : 0 < x) : pz (l.take (k + 1)) = pz (l.take k) ++ [x] := by
  rw [← take_snoc' hx]
  unfold pz
  rw [List.filter_append]
  simp [h]

theorem pz_snoc_no {l : List Int} {k : Nat} {x : Int} (hx : l[k]? = some x) (h : ¬ 0 < x) : pz (l.take (k + 1)) = pz (l.take k) := by
  rw [← take_snoc' hx]
  unfold pz
  rw [List.filter_append]
  simp [h]

end Go.Proofs.Ytemdmpfifcihfaa

/-
  The document's All.
-/
set_option linter.unusedVariables false
namespace Go.Proofs.Ytemdmpfifcihfaa
open Go.RowKit

def lv (T : Nat) (vs : Nat → Value) (i : Nat) : Value := if i < T then vs (i * 2) else if i = T then vs (T * 2) else vs (T * 2 + 1)

theorem lsts_get (T : Nat) (vs : Nat → Value) {i : Nat} (hi : i < T + 2) : (lsts T vs)[i]? = some (lv T vs i) := by
  unfold lsts lv
  by_cases h : i < T
  · rw [if_pos h, List.getElem?_append_left (by simpa using h), List.getElem?_map, List.getElem?_range h]
    rfl
  · rw [if_neg h, List.getElem?_append_right (by simp; omega)]
    simp only [List.length_map, List.length_range]
    by_cases e : i = T
    · subst e; simp
    · rw [if_neg e, show i - T = 1 by omega]; rfl

theorem Rf.lrow {w : World} {base b : Nat} {vt : Value} {vs : Nat → Value} {S : Sta} (H : Rf w base b vt vs S) {i : Nat} (hi : i < S.T + 2) : w.ownsRow base 3 1 (lv S.T vs i) (lrow S i).length (ints (lrow S i)) := by
  unfold lv Proofs.Ytemdmpfifcihfaa.lrow
  by_cases h : i < S.T
  · rw [if_pos h, if_pos h]; exact H.slots h
  · rw [if_neg h, if_neg h]
    by_cases e : i = S.T
    · rw [if_pos e, if_pos e, tolds_length]; exact H.hnd
    · rw [if_neg e, if_neg e]; exact H.que

theorem preL_mono (S : Sta) : ∀ (i d : Nat), (preL S i).length ≤ (preL S (i + d)).length
  | i, 0 => Nat.le_refl _
  | i, d + 1 => by
    have := preL_mono S i d
    show _ ≤ (preL S (i + d) ++ pz (lrow S (i + d))).length
    rw [List.length_append]
    omega

theorem pz_take_len (l : List Int) (k : Nat) : (pz (l.take k)).length ≤ (pz l).length := by
  unfold pz
  exact ((List.take_sublist k l).filter _).length_le

theorem pre_len {S : Sta} (hO : S.Ok) {j : Nat} (hj : j < S.T + 2) (k : Nat) : (preL S j ++ pz ((lrow S j).take k)).length ≤ S.all.length := by
  have h1 := pz_take_len (lrow S j) k
  have h2 := preL_mono S (j + 1) (S.T + 2 - (j + 1))
  rw [show j + 1 + (S.T + 2 - (j + 1)) = S.T + 2 by omega, preL_all hO] at h2
  have h3 : (preL S (j + 1)).length = (preL S j).length + (pz (lrow S j)).length := by show (preL S j ++ pz (lrow S j)).length = _; simp
  rw [List.length_append]
  omega

/-- Between two roots of All. -/
structure Al (w : World) (T : Nat) (vs : Nat → Value) (vl v : Value) (xs : List Int) (W : World) : Prop where
  own : W.ownsRow w.heap.size 3 1 v xs.length (ints xs)
  ls : W.ownsRow w.heap.size 31 1 vl (T + 2) (lsts T vs)
  be : Below w.heap.size w W

theorem Al.app {w : World} {T : Nat} {vs : Nat → Value} {vl v v' : Value} {xs : List Int} {W W' : World} {x : Int} {o : Obj} (a : Al w T vs vl v xs W) (hown : W'.ownsRow w.heap.size 3 1 v' (xs.length + 1) (ints xs ++ [.int .i64 x])) (hgrow : (W.alloc o).grownBy W' v.ownBlock) : Al w T vs vl v' (xs ++ [x]) W' := by
  refine ⟨by simpa [ints] using hown, ?_, (a.be.alloc a.be.size _).grown hgrow (by have := a.be.size; simp; omega) (fun i e => (a.own.lt i e).1)⟩
  exact own_keep (k := 0) a.ls (fun i e => (hgrow.block i (by have := (a.ls.lt i e).2; simp; omega) (fun h => (rows_ne a.ls a.own) i e h.symm)).trans (Below.heap_alloc W _ i (a.ls.lt i e).2))

set_option maxRecDepth 20000 in
set_option maxHeartbeats 1000000 in
theorem rall_any (base b : Nat) (S : Sta) (F : List Nat) (w : World) (H : Rfs w base b S F) (hO : S.Ok) (hq : S.qs.length < 8796093022208) :
    Calls Try.prog 62 #[.pointer (some ⟨b, 0, none⟩)] w fun e w' => ∃ v', e = .returned v' ∧ w'.ownsRow w.heap.size 3 1 v' S.all.length (ints S.all) ∧ Below w.heap.size w w' := by
  obtain ⟨vt, vs, H, rfl⟩ := H
  have hli := rlists_any base b vt vs S w H hO
  obtain ⟨i0, hi0, hz0, hz1, hz2⟩ := info_parts Try.infoInt
  have HH : Hid ((Try.prog.info? 3 = some i0) ∧ i0.zero = some (.int .i64 0) ∧ i0.size = 1 ∧ i0.bytes = 8) := ⟨hi0, hz0, hz1, hz2⟩
  have HR : Hid (Rf w base b vt vs S ∧ S.Ok ∧ S.qs.length < 8796093022208) := ⟨H, hO, hq⟩
  have hT := hO.T8
  have HA : Hid (S.all.length ≤ 33792 + S.qs.length) := all_len hO
  clear H hO hq hi0 hz0 hz1 hz2
  go_enter Try.func62, Try.ntmps62
  go_wp2_with fail
  refine hli.mono ?_
  rintro e w1 ⟨vl, rfl, ol, bl⟩
  have A0 : Hid (Al w S.T vs vl (.slice none 0 0) (preL S 0) w1) := ⟨World.ownsRow_nil _ _ _ _, ol, bl⟩
  obtain ⟨gl, cl, el, -, -⟩ := own_addr ol (by omega)
  subst el
  clear hli ol bl
  go_wp2
  go_loopw [3, 5] (fun v i wr => ∃ (j : Nat), j ≤ S.T + 2 ∧ i = .int .i64 j ∧ Hid (Al w S.T vs (.slice (some ⟨gl, 0, none⟩) (S.T + 2) cl) v (preL S j) wr)) (fun _ i _ => S.T + 2 - (intOf i).toNat)
  case atStart => exact ⟨0, Nat.zero_le _, rfl, A0⟩
  case round =>
    obtain ⟨j, hj, rfl, hp⟩ := hrel
    clear A0
    obtain ⟨av, cv, e3⟩ := own_slice hp.out.own
    subst e3
    by_cases hlt : j < S.T + 2
    · have P0 : Hid (Al w S.T vs (.slice (some ⟨gl, 0, none⟩) (S.T + 2) cl) (.slice av (preL S j).length cv) (preL S j ++ pz ((lrow S j).take 0)) wr) := by
        show Al _ _ _ _ _ _ _
        rw [List.take_zero, show pz [] = [] from rfl, List.append_nil]; exact hp.out
      have hji : (j : Int) < (S.T : Int) + 2 := by omega
      have hLb : (lrow S j).length < 8796093022208 := by
        have h1 := HR.out.2.1
        have h2 := HR.out.2.2
        unfold lrow
        split
        · rename_i h; have h3 := h1.room j h; have h4 := h1.m2; omega
        · split
          · rw [tolds_length]; have := h1.hn; omega
          · exact h2
      clear hp
      go_wp2
      go_loopw [3, 6] (fun v i wr => ∃ (k : Nat), k ≤ (lrow S j).length ∧ i = .int .i64 k ∧ Hid (Al w S.T vs (.slice (some ⟨gl, 0, none⟩) (S.T + 2) cl) v (preL S j ++ pz ((lrow S j).take k)) wr)) (fun _ i _ => (lrow S j).length - (intOf i).toNat)
      case atStart => exact ⟨0, Nat.zero_le _, rfl, P0⟩
      case round =>
        obtain ⟨k, hk, rfl, hp⟩ := hrel
        clear P0
        obtain ⟨xs, exs⟩ : ∃ xs, preL S j ++ pz ((lrow S j).take k) = xs := ⟨_, rfl⟩
        rw [exs] at hp
        have EX : Hid (preL S j ++ pz ((lrow S j).take k) = xs) := exs
        have HX : Hid (xs.length ≤ S.all.length) := by rw [← exs]; exact pre_len HR.out.2.1 hlt k
        clear exs
        obtain ⟨aw, cw, e4⟩ := own_slice hp.out.own
        subst e4
        have d1 := hp.out.ls.cells (g := gl) rfl j _ (lsts_get S.T vs hlt)
        rw [Addr.add_lit, Nat.zero_add] at d1
        have H1 : Rf wr base b vt vs S := HR.out.1.keep (fun k hk => hp.out.be.block k (HR.out.1.mem k hk).2)
        have hrow := H1.lrow hlt
        clear H1
        by_cases hlt2 : k < (lrow S j).length
        · obtain ⟨x, hx⟩ : ∃ x, (lrow S j)[k]? = some x := ⟨_, List.getElem?_eq_getElem hlt2⟩
          obtain ⟨g2, c2, e5, -, -⟩ := own_addr hrow (by omega)
          rw [e5] at d1 hrow
          have d2 := hrow.cells (g := g2) rfl k (.int .i64 x) (by unfold ints; rw [List.getElem?_map, hx]; rfl)
          rw [Addr.add_lit, Nat.zero_add] at d2
          have Hx : Hid ((lrow S j)[k]? = some x) := hx
          have hki : (k : Int) < ((lrow S j).length : Int) := by omega
          clear hrow hx e5
          by_cases h0 : x > 0
          · go_wp2_with (at_builtin; refine wpList_append_own_at _ rfl _ _ 31 rfl w.heap.size 3 i0 (.int .i64 0) 1 8 Try.underlying31 HH.out.1 HH.out.2.1 HH.out.2.2.1 HH.out.2.2.2 rfl (by decide) _ _ _ rfl (hp.out.own.alloc _) ⟨wr.heap.size, 0, none⟩ 1 1 [.int .i64 x] rfl rfl (cell_one_new _ _ _) (by simp [Value.oneCell']) (by have h1 := HX.out; have h2 := HA.out; have h3 := HR.out.2.2; simp [maxLen]; omega) (by have h1 := HX.out; have h2 := HA.out; have h3 := HR.out.2.2; omega) (by have := hp.out.be.size; simp; omega) ?_)
            intro v7 w7 o7 g7 _ _
            have P7 : Hid (Al w S.T vs (.slice (some ⟨gl, 0, none⟩) (S.T + 2) cl) v7 (preL S j ++ pz ((lrow S j).take (k + 1))) w7) := by
              show Al _ _ _ _ _ _ _
              rw [pz_snoc_yes Hx.out h0, ← List.append_assoc, EX.out]
              exact hp.out.app (by simpa using o7) g7
            clear o7 g7 d1 d2 hp
            go_wp2
            go_roundw
            case rel => exact ⟨k + 1, hlt2, by go_num, P7⟩
            case measure => simp [intOf]; omega
          · have P7 : Hid (Al w S.T vs (.slice (some ⟨gl, 0, none⟩) (S.T + 2) cl) (.slice aw xs.length cw) (preL S j ++ pz ((lrow S j).take (k + 1))) wr) := by
              show Al _ _ _ _ _ _ _
              rw [pz_snoc_no Hx.out h0, EX.out]
              exact hp.out
            clear hp
            go_wp2
            go_roundw
            case rel => exact ⟨k + 1, hlt2, by go_num, P7⟩
            case measure => simp [intOf]; omega
        · obtain rfl : k = (lrow S j).length := by omega
          obtain ⟨ar, cr, er⟩ := own_slice hrow
          rw [er] at d1
          have hnk : ¬ ((lrow S j).length : Int) < ((lrow S j).length : Int) := by omega
          have P7 : Hid (Al w S.T vs (.slice (some ⟨gl, 0, none⟩) (S.T + 2) cl) (.slice aw xs.length cw) (preL S (j + 1)) wr) := by
            show Al _ _ _ _ _ (preL S j ++ pz (lrow S j)) _
            have := EX.out
            rw [List.take_length] at this
            rw [this]
            exact hp.out
          clear hrow er hp
          go_wp2
          go_roundw
          case rel => exact ⟨j + 1, hlt, by go_num, P7⟩
          case measure => simp [intOf]; omega
    · obtain rfl : j = S.T + 2 := by omega
      have hnk : ¬ ((S.T + 2 : Nat) : Int) < (S.T : Int) + 2 := by omega
      go_wp2
      go_ret
      refine ⟨_, rfl, ?_, hp.out.be⟩
      have := hp.out.own
      rw [preL_all HR.out.2.1] at this ⊢
      exact this

end Go.Proofs.Ytemdmpfifcihfaa

/-
  The document's roots: a thread is laid anew.
-/
set_option linter.unusedVariables false
namespace Go.Proofs.Ytemdmpfifcihfaa
open Go.RowKit

theorem own_setS {B g n C i s : Nat} {w : World} {e : TypeId} {xs : List Value} (h : w.ownsRow B e s (.slice (some ⟨g, 0, none⟩) n C) n xs) (u : Value) : (w.setCell ⟨g, i, none⟩ u).ownsRow B e s (.slice (some ⟨g, 0, none⟩) n C) n (xs.set i u) := by
  obtain ⟨hl, ⟨h0, _⟩ | ⟨g', cap, cur, hv, hge, hh, hn, hm, hs, ht⟩⟩ := h
  · cases h0
  · injection hv with e1 _ e3
    injection e1 with e1
    injection e1 with e1
    subst e1; subst e3
    refine ⟨by simpa using hl, .inr ⟨g, C, cur.setIfInBounds i u, rfl, hge, heap_set hh i u, hn, hm, by simpa using hs, ?_⟩⟩
    rw [Array.toList_setIfInBounds, List.take_set, ht]

theorem range_upd (vs : Nat → Value) (n i : Nat) (v : Value) : ((List.range n).map vs).set i v = (List.range n).map (upd vs i v) := by
  apply List.ext_getElem?
  intro j
  rw [List.getElem?_set]
  by_cases hj : j < n
  · simp only [List.length_map, List.length_range, List.getElem?_map, List.getElem?_range hj, Option.map_some]
    by_cases e : i = j
    · subst e; rw [if_pos rfl, if_pos hj, upd_same]
    · rw [if_neg e, upd_ne _ _ (Ne.symm e)]
  · have h1 : ((List.range n).map vs)[j]? = none := List.getElem?_eq_none (by simp; omega)
    have h2 : ((List.range n).map (upd vs i v))[j]? = none := List.getElem?_eq_none (by simp; omega)
    rw [h1, h2]
    by_cases e : i = j
    · subst e; rw [if_pos rfl, if_neg (by simpa using hj)]
    · rw [if_neg e]

theorem Rf.setThr {w w1 : World} {base b : Nat} {vt : Value} {vs : Nat → Value} {S S' : Sta} (H : Rf w base b vt vs S) {k g cap : Nat} (hk : k < S.T) (hv : vt = .slice (some ⟨g, 0, none⟩) S.T cap) {v1 v2 : Value}
    (ht : Touch ((vs (k * 2)).ownBlock.toList ++ (vs (k * 2 + 1)).ownBlock.toList) w w1)
    (h1 : w1.ownsRow base 3 1 v1 (S'.rw (k * 2 + 1)).length (ints (S'.rw (k * 2 + 1)))) (h2 : w1.ownsRow base 3 1 v2 (S'.rw (k * 2)).length (ints (sts (S'.rw (k * 2)))))
    (a1 : ∀ i, v1.ownBlock = some i → (vs (k * 2)).ownBlock = some i ∨ w.heap.size ≤ i) (a2 : ∀ i, v2.ownBlock = some i → (vs (k * 2 + 1)).ownBlock = some i ∨ w.heap.size ≤ i)
    (hne : ∀ i, v1.ownBlock = some i → v2.ownBlock ≠ some i) (eT : S'.T = S.T) (em : S'.most = S.most) (eh : S'.hs = S.hs) (eq : S'.qs = S.qs) (er : ∀ j, j ≠ k * 2 → j ≠ k * 2 + 1 → S'.rw j = S.rw j) :
    ∃ F', Rfs ((w1.setCell ⟨g, k * 2, none⟩ v1).setCell ⟨g, k * 2 + 1, none⟩ v2) base b S' F' ∧ Touch (rfp b vt S.T vs) w ((w1.setCell ⟨g, k * 2, none⟩ v1).setCell ⟨g, k * 2 + 1, none⟩ v2) ∧ Newer w.heap.size (rfp b vt S.T vs) F' := by
  have hrk : ∀ i, i ∈ (vs (k * 2)).ownBlock.toList ++ (vs (k * 2 + 1)).ownBlock.toList → (vs (k * 2)).ownBlock = some i ∨ (vs (k * 2 + 1)).ownBlock = some i := fun i hi => by
    rcases List.mem_append.1 hi with h | h
    · exact .inl (by simpa using h)
    · exact .inr (by simpa using h)
  have r1 := H.row (k * 2) (by omega)
  have r2 := H.row (k * 2 + 1) (by omega)
  have hb1 : w1.heap[b]? = some (.cells #[vt, .int .i64 S.most, vs (S.T * 2), vs (S.T * 2 + 1)] 74 (0, 0)) := (ht.block b (heap_lt H.own) (fun hm => by
    rcases hrk b hm with h | h
    · exact (row_ne2 H.own r1) h.symm
    · exact (row_ne2 H.own r2) h.symm)).trans H.own
  have ht1 : w1.ownsRow base 76 2 vt S.T ((List.range (S.T * 2)).map vs) := own_keep (k := 0) H.thr (fun j e => ht.block j (H.thr.lt j e).2 (fun hm => by
    rcases hrk j hm with h | h
    · exact (rows_ne H.thr r1) j e h
    · exact (rows_ne H.thr r2) j e h))
  have hbg : some g ≠ some b := fun h => (row_ne2 hb1 ht1) (by rw [hv]; exact h.symm)
  have hg1 : vt.ownBlock = some g := by rw [hv]; rfl
  have hother : ∀ {v : Value} {n : Nat} {xs : List Value}, w1.ownsRow base 3 1 v n xs → ((w1.setCell ⟨g, k * 2, none⟩ v1).setCell ⟨g, k * 2 + 1, none⟩ v2).ownsRow base 3 1 v n xs := fun {v n xs} h => by
    have hn : some g ≠ v.ownBlock := fun e => (rows_ne ht1 h) g hg1 e.symm
    exact ownsRow_setOther (ownsRow_setOther h hn _) hn _
  have hT2 : Touch [g] w1 ((w1.setCell ⟨g, k * 2, none⟩ v1).setCell ⟨g, k * 2 + 1, none⟩ v2) := (Touch.setCell _ _ _ (by simp)).trans (Touch.setCell _ _ _ (by simp))
  have ups : ∀ j, j ≠ k * 2 → j ≠ k * 2 + 1 → upd (upd vs (k * 2) v1) (k * 2 + 1) v2 j = vs j := fun j e1 e2 => by rw [upd_ne _ _ e2, upd_ne _ _ e1]
  have up1 : upd (upd vs (k * 2) v1) (k * 2 + 1) v2 (k * 2) = v1 := by rw [upd_ne _ _ (by omega), upd_same]
  have up2 : upd (upd vs (k * 2) v1) (k * 2 + 1) v2 (k * 2 + 1) = v2 := upd_same _ _ _
  refine ⟨rfp b vt S'.T (upd (upd vs (k * 2) v1) (k * 2 + 1) v2), ⟨vt, upd (upd vs (k * 2) v1) (k * 2 + 1) v2, ⟨H.bb, ?_, ?_, fun j hj => ?_, fun i j n hi hj hvi hvj => ?_⟩, rfl⟩, ?_, ?_⟩
  · rw [eT, em, ups _ (by omega) (by omega), ups _ (by omega) (by omega)]
    exact (hT2.block b (heap_lt hb1) (fun h => hbg (by rw [(by simpa using h : b = g)]))).trans hb1
  · rw [eT, ← range_upd, ← range_upd, hv]
    rw [hv] at ht1
    exact own_setS (own_setS ht1 v1) v2
  · rw [eT] at hj
    by_cases e1 : j = k * 2
    · subst e1
      rw [up1, rrow_s S' (by omega)]
      exact hother h1
    by_cases e2 : j = k * 2 + 1
    · subst e2
      rw [up2, rrow_b S' (by omega), sts_length]
      exact hother h2
    have e3 : rrow S' j = rrow S j := by
      unfold rrow
      rw [eT, eh, eq]
      by_cases e4 : j = S.T * 2
      · rw [if_pos e4, if_pos e4]
      by_cases e5 : j = S.T * 2 + 1
      · rw [if_neg e4, if_pos e5, if_neg e4, if_pos e5]
      rw [if_neg e4, if_neg e5, if_neg e4, if_neg e5]
      by_cases e6 : j % 2 = 0
      · rw [if_pos e6, if_pos e6, er _ (by omega) (by omega)]
      · rw [if_neg e6, if_neg e6, er _ (by omega) (by omega)]
    rw [e3, ups j e1 e2]
    exact hother (own_keep (k := 0) (H.row j hj) (fun i ei => ht.block i ((H.row j hj).lt i ei).2 (fun hm => by
      rcases hrk i hm with h | h
      · exact e1 (H.ap j (k * 2) i hj (by omega) ei h)
      · exact e2 (H.ap j (k * 2 + 1) i hj (by omega) ei h))))
  · rw [eT] at hi hj
    have old : ∀ {j : Nat}, j < S.T * 2 + 2 → j ≠ k * 2 → j ≠ k * 2 + 1 → (vs j).ownBlock = some n → v1.ownBlock ≠ some n ∧ v2.ownBlock ≠ some n := fun {j} hj n1 n2 hvj => by
      have hlt := ((H.row j hj).lt n hvj).2
      refine ⟨fun h => ?_, fun h => ?_⟩
      · rcases a1 n h with h' | h'
        · exact n1 (H.ap j _ n hj (by omega) hvj h')
        · omega
      · rcases a2 n h with h' | h'
        · exact n2 (H.ap j _ n hj (by omega) hvj h')
        · omega
    by_cases i1 : i = k * 2
    · subst i1
      rw [up1] at hvi
      by_cases j1 : j = k * 2
      · exact j1.symm
      by_cases j2 : j = k * 2 + 1
      · subst j2; rw [up2] at hvj; exact absurd hvj (hne n hvi)
      · rw [ups j j1 j2] at hvj; exact absurd hvi (old hj j1 j2 hvj).1
    by_cases i2 : i = k * 2 + 1
    · subst i2
      rw [up2] at hvi
      by_cases j1 : j = k * 2
      · subst j1; rw [up1] at hvj; exact absurd hvi (hne n hvj)
      by_cases j2 : j = k * 2 + 1
      · exact j2.symm
      · rw [ups j j1 j2] at hvj; exact absurd hvi (old hj j1 j2 hvj).2
    rw [ups i i1 i2] at hvi
    by_cases j1 : j = k * 2
    · subst j1; rw [up1] at hvj; exact absurd hvj (old hi i1 i2 hvi).1
    by_cases j2 : j = k * 2 + 1
    · subst j2; rw [up2] at hvj; exact absurd hvj (old hi i1 i2 hvi).2
    rw [ups j j1 j2] at hvj
    exact H.ap i j n hi hj hvi hvj
  · refine (ht.mono (fun i hi => .inl (mem_rfp.2 (.inr (.inr ?_))))).trans (hT2.mono (fun i hi => .inl (mem_rfp.2 (.inr (.inl (by rw [hg1, (by simpa using hi : i = g)]))))))
    rcases hrk i hi with h | h
    · exact ⟨k * 2, by omega, h⟩
    · exact ⟨k * 2 + 1, by omega, h⟩
  · intro i hi
    rw [eT] at hi
    rcases mem_rfp.1 hi with rfl | hi | ⟨j, hj, hvj⟩
    · exact .inl (by simp [mem_rfp])
    · exact .inl (by simp [mem_rfp, hi])
    · by_cases j1 : j = k * 2
      · subst j1; rw [up1] at hvj
        rcases a1 i hvj with h | h
        · exact .inl (mem_rfp.2 (.inr (.inr ⟨_, hj, h⟩)))
        · exact .inr h
      by_cases j2 : j = k * 2 + 1
      · subst j2; rw [up2] at hvj
        rcases a2 i hvj with h | h
        · exact .inl (mem_rfp.2 (.inr (.inr ⟨_, hj, h⟩)))
        · exact .inr h
      · rw [ups j j1 j2] at hvj
        exact .inl (mem_rfp.2 (.inr (.inr ⟨j, hj, hvj⟩)))

end Go.Proofs.Ytemdmpfifcihfaa

