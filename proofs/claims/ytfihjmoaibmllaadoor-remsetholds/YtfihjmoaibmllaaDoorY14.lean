/-
  The Set: renew.
-/
import Derived.Test.YtfihjmoaibmllaaDoorY13
set_option linter.unusedVariables false
set_option maxRecDepth 20000
namespace Go.Proofs.YtfihjmoaibmllaaDoor
open Go.RowKit Go.Shelf

/-- Is it a tenured thing's address, which holds a young one? -/
def hta (c : Cfg) (sw : Bool) (th : List Tng) (a : Int) : Bool := decide (spc c a = 4) && th.any (fun T => decide (T.at_ = a) && hyT c sw T)

theorem Hld.inj {c : Cfg} {x : Tps} {ws : Nat → Int} {th : List Tng} (H : Hld c x ws th) {i j : Nat} {T U : Tng} (hi : th[i]? = some T) (hj : th[j]? = some U) (h : T.at_ = U.at_) : i = j := by
  by_cases e : i = j
  · exact e
  · exfalso
    have hT := List.mem_of_getElem? hi
    have hU := List.mem_of_getElem? hj
    have h1 := H.psn T hT
    have h2 := H.rsn T hT
    have h3 := H.psn U hU
    have h4 := H.rsn U hU
    rcases H.dis i j T U hi hj e with h | h <;> omega

theorem hta_at {c : Cfg} {x : Tps} {ws : Nat → Int} {th : List Tng} (H : Hld c x ws th) (sw : Bool) {T : Tng} (hT : T ∈ th) : hta c sw th T.at_ = (decide (spc c T.at_ = 4) && hyT c sw T) := by
  unfold hta
  congr 1
  cases e : hyT c sw T
  · rw [List.any_eq_false]
    intro U hU
    obtain ⟨i, hi⟩ := List.getElem?_of_mem hT
    obtain ⟨j, hj⟩ := List.getElem?_of_mem hU
    by_cases h : U.at_ = T.at_
    · have := H.inj hj hi h
      subst this
      rw [hi] at hj
      simp at hj
      subst hj
      simp [e]
    · simp [h]
  · rw [List.any_eq_true]
    exact ⟨T, hT, by simp [e]⟩

/-- Who is in behind the addresses ns: those that are so among them; of all others what was. -/
def inS' (q S : Int → Bool) (ns : List Int) (a : Int) : Bool := if a ∈ ns then q a else S a

/-- Held of the addresses ns is written. -/
def mk_ (q : Int → Bool) (ns : List Int) (th : List Tng) : List Tng := th.map (fun T => if T.at_ ∈ ns then { T with h := q T.at_ } else T)

theorem mk_nil (q : Int → Bool) (th : List Tng) : mk_ q [] th = th := by
  unfold mk_
  conv => rhs; rw [← List.map_id th]
  apply List.map_congr_left
  intro T _
  simp

theorem mk_at (q : Int → Bool) (ns : List Int) (th : List Tng) (i : Nat) : (mk_ q ns th)[i]? = (th[i]?).map (fun T => if T.at_ ∈ ns then { T with h := q T.at_ } else T) := by
  unfold mk_
  rw [List.getElem?_map]

theorem mk_snoc {c : Cfg} {x : Tps} {ws : Nat → Int} {th : List Tng} (H : Hld c x ws th) (q : Int → Bool) (ns : List Int) (i : Nat) (T U : Tng) (hi : th[i]? = some T) (hU : (mk_ q ns th)[i]? = some U) : (mk_ q ns th).set i { U with h := q T.at_ } = mk_ q (ns ++ [T.at_]) th := by
  apply List.ext_getElem?
  intro j
  rw [List.getElem?_set, mk_at, mk_at]
  have hil := (List.getElem?_eq_some_iff.1 hU).1
  rw [mk_at, hi] at hU
  simp at hU
  by_cases e : i = j
  · subst e
    rw [if_pos rfl, if_pos hil, hi]
    simp only [Option.map_some]
    congr 1
    rw [if_pos (by simp), ← hU]
    split <;> rfl
  · rw [if_neg e]
    cases hj : th[j]? with
    | none => rfl
    | some V =>
      simp only [Option.map_some]
      congr 1
      have hne : V.at_ ≠ T.at_ := fun h => e (H.inj hi hj h.symm)
      by_cases h : V.at_ ∈ ns
      · rw [if_pos h, if_pos (by simp [h])]
      · rw [if_neg h, if_neg (by simp [h, hne])]

theorem mk_hy (c : Cfg) (sw : Bool) (q : Int → Bool) (ns : List Int) (th : List Tng) (a : Int) : hta c sw (mk_ q ns th) a = hta c sw th a := by
  unfold hta mk_
  congr 1
  rw [List.any_map]
  congr 1
  funext T
  simp only [Function.comp]
  split <;> rfl

section
variable {w1 w w' : World} {n1 sb b g mb n : Nat} {lv : Value} {c : Cfg} {x : Tps} {sw : Bool} {ws : Nat → Int} {th : List Tng} {l : List Int} {S : Int → Bool}

theorem Rm.congr {S' : Int → Bool} (H : Rm w1 n1 w sb b g mb lv c x sw ws th l n S) (h : ∀ a, InI a → S a = S' a) : Rm w1 n1 w sb b g mb lv c x sw ws th l n S' :=
  ⟨H.bq, ⟨H.rs.own, H.rs.row, H.rs.map.congr h⟩, H.ls, H.lm, H.lv_, H.hn⟩

theorem inS'_put (q S : Int → Bool) (ns : List Int) (a : Int) (h : q a = true) : ∀ y, (decide (y = a) || inS' q S ns y) = inS' q S (ns ++ [a]) y := fun y => by
  unfold inS'
  by_cases e : y = a
  · subst e
    simp [h]
  · simp [e]

theorem inS'_del (q S : Int → Bool) (ns : List Int) (a : Int) (h : q a = false) : ∀ y, (!decide (y = a) && inS' q S ns y) = inS' q S (ns ++ [a]) y := fun y => by
  unfold inS'
  by_cases e : y = a
  · subst e
    simp [h]
  · simp [e]

theorem del_rm (H : Rm w1 n1 w sb b g mb lv c x sw ws th l n S) {D : DataW Nat} (hS : ∀ a, InI a → Maps.has D (.int .i64 a) = S a) {a : Int} (hown : w'.ownsMap Tryd.prog 3 unitElem mb n (D.del (.int .i64 a))) (ht : w.mapTurned w' mb) : Rm w1 n1 w' sb b g mb lv c x sw ws th l n (fun y => !decide (y = a) && S y) := by
  have t := turned_touch ht
  have hmne : sb ≠ mb := fun e => H.rs.map.ne H.rs.own e
  refine H.set t (fun q hq => .inr (.inl (by simpa using hq))) ⟨?_, ?_, Ms.del hS hown⟩ H.lv_
  · rw [t.block sb H.rs.lt (by simpa using hmne)]
    exact H.rs.own
  · refine row_keep H.rs.row (fun q hq => t.block q (row_lt H.rs.row q hq) ?_)
    simp
    intro e
    subst e
    rcases H.rs.row.2 with ⟨e, _⟩ | ⟨y, cp, cur, e, _, hy, _⟩
    · rw [e] at hq; simp [Value.ownBlock] at hq
    · rw [e] at hq
      simp [Value.ownBlock] at hq
      subst hq
      exact H.rs.map.ne hy rfl

theorem Touch.wide {F G : List Nat} {w w' : World} (t : Touch F w w') (h : ∀ x, x ∈ F → x ∈ G) : Touch G w w' := ⟨t.os, t.tape, t.output, t.size, fun k hk hn => t.block k hk (fun hm => hn (h k hm))⟩

theorem Rm.mono {m : Nat} (H : Rm w1 n1 w sb b g mb lv c x sw ws th l n S) (h : n ≤ m) : Rm w1 n1 w sb b g mb lv c x sw ws th l m S :=
  ⟨H.bq, ⟨H.rs.own, H.rs.row, H.rs.map.mono h⟩, H.ls, H.lm, H.lv_, H.hn⟩

set_option maxHeartbeats 1000000 in
theorem setList_rs (H : Rm w1 n1 w sb b g mb lv c x sw ws th l n S) : Rm w1 n1 (w.setCell ⟨sb, 1, none⟩ (.slice none 0 0)) sb b g mb (.slice none 0 0) c x sw ws th [] n S ∧ Touch [sb] w (w.setCell ⟨sb, 1, none⟩ (.slice none 0 0)) := by
  have t : Touch [sb] w (w.setCell ⟨sb, 1, none⟩ (.slice none 0 0)) := Touch.setCell _ _ _ (by simp)
  have hmne : mb ≠ sb := fun e => H.rs.map.ne H.rs.own e.symm
  refine ⟨H.set t (fun q hq => .inl (by simpa using hq)) ⟨?_, World.ownsRow_nil _ _ _ _, H.rs.map.keep (Below.heap_setCell _ _ _ _ hmne)⟩ (fun q hq => by simp [Value.ownBlock] at hq), t⟩
  simp [World.setCell, Array.getElem?_modify, H.rs.own]

set_option maxHeartbeats 8000000 in
theorem renew_any (H : Rm w1 n1 w sb b g mb lv c x sw ws th l n S) (nv : Value) (ns : List Int) (hrow : w.ownsRow 0 3 1 nv ns.length (ints ns)) (hns : ∀ a, a ∈ ns → ∃ T, T ∈ th ∧ T.at_ = a) (hl : ns.length ≤ 100000) (hn : n ≤ 100000) :
    Calls Tryd.prog 42 #[.pointer (some ⟨sb, 0, none⟩), nv] w fun e w' => e = .returned (.tuple #[]) ∧ Touch [sb, mb, b, g] w w' ∧ ∃ lv' ws', Rm w1 n1 w' sb b g mb lv' c x sw ws' (mk_ (inS' (hta c sw th) S ns) ns th) (ns.filter (hta c sw th)) (n + ns.length) (inS' (hta c sw th) S ns) := by
  obtain ⟨r0, t0⟩ := setList_rs H
  have HW : Hid (∀ a, a ∈ ns → ∃ T, T ∈ th ∧ T.at_ = a) := hns
  have Hin : Hid (∀ a, a ∈ ns → InI a) := fun a ha => by
    obtain ⟨T, h1, h2⟩ := hns a ha
    have := H.bq.ax.pos h1
    rw [← h2]
    unfold InI
    omega
  obtain ⟨av, cap, hnv, hcap, hcells⟩ := row_at hrow (by decide)
  have hnb : ∀ q, nv.ownBlock = some q → q ≠ sb ∧ q ≠ mb ∧ q ≠ b ∧ q ≠ g := fun q hq => by
    obtain ⟨⟨gs, hgs⟩, bs, hbs⟩ := H.bq.ax.ar.rowTy
    refine ⟨fun e => row_ne H.rs.own hrow (by decide) (by rw [← e]; exact hq.symm), fun e => ?_, fun e => row_ne hbs hrow (by decide) (by rw [← e]; exact hq.symm), fun e => row_ne hgs hrow (by decide) (by rw [← e]; exact hq.symm)⟩
    rcases hrow.2 with ⟨e1, _⟩ | ⟨y, cp, cur, e1, _, hy, _⟩
    · rw [e1] at hq; simp [Value.ownBlock] at hq
    · rw [e1] at hq
      simp [Value.ownBlock] at hq
      subst hq
      exact H.rs.map.ne hy e
  have Hnb : Hid (∀ q, nv.ownBlock = some q → q ≠ sb ∧ q ≠ mb ∧ q ≠ b ∧ q ≠ g) := hnb
  have hrow1 := row_keep hrow (fun q hq => t0.block q (row_lt hrow q hq) (by simp; exact (hnb q hq).1))
  have Hrow1 : Hid ((w.setCell ⟨sb, 1, none⟩ (.slice none 0 0)).ownsRow 0 3 1 nv ns.length (ints ns)) := hrow1
  have HR0 : Hid (Rm w1 n1 (w.setCell ⟨sb, 1, none⟩ (.slice none 0 0)) sb b g mb (.slice none 0 0) c x sw ws th [] n S) := r0
  have Hlt : Hid (∀ q, nv.ownBlock = some q → q < w.heap.size) := fun q hq => row_lt hrow q hq
  have k1 : w.cell? ⟨sb, 1, none⟩ = some lv := H.rs.cell 1
  have f1 : w.frozen? ⟨sb, 1, none⟩ = false := by
    unfold World.frozen?
    simp only [H.rs.own]
    simp
  have hs0 : w.heap.size = (w.setCell ⟨sb, 1, none⟩ (.slice none 0 0)).heap.size := by simp [World.setCell]
  have HT0 : Hid (Touch [sb, mb, b, g] w (w.setCell ⟨sb, 1, none⟩ (.slice none 0 0))) := t0.wide (fun x hx => by simp at hx; simp [hx])
  clear hcells hrow hrow1 r0 t0 hnb hns
  subst hnv
  obtain ⟨q, hq⟩ : ∃ q, q = hta c sw th := ⟨_, rfl⟩
  rw [← hq]
  have Hq : Hid (q = hta c sw th) := hq
  clear hq H
  go_enter Tryd.func42, Tryd.ntmps42
  go_upto_region 1 with fail
  clear k1 f1
  generalize w.setCell ⟨sb, 1, none⟩ (.slice none 0 0) = w0 at *
  go_wp2
  go_loopw [13] (fun v13 wr => ∃ j : Nat, j ≤ ns.length ∧ v13 = .int .i64 j ∧ ∃ lv', Hid (Rm w1 n1 wr sb b g mb lv' c x sw ws th ((ns.take j).filter q) (n + j) (inS' q S (ns.take j))) ∧ Hid (wr.ownsRow 0 3 1 (.slice av ns.length cap) ns.length (ints ns)) ∧ Hid (∀ y, lv'.ownBlock = some y → w0.heap.size ≤ y) ∧ w0.heap.size ≤ wr.heap.size ∧ Hid (Touch [sb, mb, b, g] w0 wr)) (fun v13 _ => ns.length - (intOf v13).toNat)
  case atStart => exact ⟨0, Nat.zero_le _, rfl, .slice none 0 0, (by
      have e : inS' q S (ns.take 0) = S := by funext a; simp [inS']
      show Hid (Rm _ _ _ _ _ _ _ _ _ _ _ _ _ _ _ _)
      rw [e]
      exact HR0), Hrow1, (fun y hy => by simp [Value.ownBlock] at hy : ∀ y, (Value.slice none 0 0).ownBlock = some y → w0.heap.size ≤ y), Nat.le_refl _, Touch.refl _ _⟩
  case round =>
    obtain ⟨j, hj, rfl, lv2, HR, Hrow, Hlv, hsz, HTc⟩ := hrel
    clear HR0 Hrow1
    by_cases hjl : j < ns.length
    · have haj : ns[j]? = some (ns[j]'hjl) := List.getElem?_eq_getElem hjl
      generalize ns[j]'hjl = a at haj
      have Haj : Hid (ns[j]? = some a) := haj
      have ham := List.mem_of_getElem? haj
      obtain ⟨T, hT, hTa⟩ := HW.out a ham
      have Ha : Hid (InI a) := Hin.out a ham
      obtain ⟨qa, ea, ca⟩ : ∃ qa, av = some ⟨qa, 0, none⟩ ∧ wr.cell? ⟨qa, j, none⟩ = some (.int .i64 a) := by
        obtain ⟨a0, cp, h1, -, h3⟩ := row_at Hrow.out (by decide)
        simp at h1
        obtain ⟨y, h4, -, h5⟩ := h3 j (.int .i64 a) (by rw [List.getElem?_map, haj]; rfl)
        exact ⟨y, by rw [h1.1, h4], h5⟩
      subst ea
      have htk : ns.take (j + 1) = ns.take j ++ [a] := by rw [List.take_add_one, haj]; rfl
      have Htk : Hid (ns.take (j + 1) = ns.take j ++ [a]) := htk
      have hlen : (ns.take j).length = j := by simp; omega
      have hqa : q a = (decide (spc c a = 4) && hyT c sw T) := by rw [Hq.out, ← hTa]; exact hta_at HR.out.bq.ax.hl sw hT
      have ht := sTenured_any HR.out.rs HR.out.bq.ax.ar a
      have HT : Hid (T ∈ th ∧ T.at_ = a) := ⟨hT, hTa⟩
      have hjI : (j : Int) < (ns.length : Int) := by omega
      have Hfl : Hid (((ns.take j).filter q).length ≤ j) := by
        have := List.length_filter_le q (ns.take j)
        show _ ≤ _
        omega
      clear haj ham hT hTa htk hlen
      by_cases h4 : spc c a = 4
      · rw [decide_eq_true h4] at ht hqa
        go_wp2_with fail
        refine ht.mono ?_
        rintro e w5 ⟨rfl, l5⟩
        have HR5 : Hid (Rm w1 n1 w5 sb b g mb lv2 c x sw ws th ((ns.take j).filter q) (n + j) (inS' q S (ns.take j))) := HR.out.below l5
        have Hrow5 : Hid (w5.ownsRow 0 3 1 (.slice (some ⟨qa, 0, none⟩) ns.length cap) ns.length (ints ns)) := row_keep Hrow.out (fun y hy => l5.block y (row_lt Hrow.out y hy))
        have hsz5 : w0.heap.size ≤ w5.heap.size := Nat.le_trans hsz l5.size
        have HTc5 : Hid (Touch [sb, mb, b, g] w0 w5) := HTc.out.trans (Touch.of_below l5 _)
        clear ht l5 HR Hrow hsz ca
        have hy := holdsYoung_any HR5.out HT.out.1
        rw [HT.out.2] at hy
        rw [Bool.true_and] at hqa
        rw [← hqa] at hy
        cases hb : q a
        · rw [hb] at hy
          have Hb : Hid (q a = false) := hb
          clear hb hqa h4
          go_wp2_with fail
          refine hy.mono ?_
          rintro e w6 ⟨rfl, l6⟩
          have HR6 : Hid (Rm w1 n1 w6 sb b g mb lv2 c x sw ws th ((ns.take j).filter q) (n + j) (inS' q S (ns.take j))) := HR5.out.below l6
          have Hrow6 : Hid (w6.ownsRow 0 3 1 (.slice (some ⟨qa, 0, none⟩) ns.length cap) ns.length (ints ns)) := row_keep Hrow5.out (fun y hy => l6.block y (row_lt Hrow5.out y hy))
          have hsz6 : w0.heap.size ≤ w6.heap.size := Nat.le_trans hsz5 l6.size
          have HTc6 : Hid (Touch [sb, mb, b, g] w0 w6) := HTc5.out.trans (Touch.of_below l6 _)
          clear hy l6 HR5 Hrow5 hsz5
          have k2 : w6.cell? ⟨sb, 2, none⟩ = some (.map (some mb)) := HR6.out.rs.cell 2
          obtain ⟨D, hown, hS⟩ := HR6.out.rs.map
          have HS : Hid (∀ a, InI a → Maps.has D (.int .i64 a) = inS' q S (ns.take j) a) := hS
          have hkey := key_of Ha.out
          clear hS
          go_wp2_with (at_delete; refine wpList_delete_own _ rfl _ _ 80 3 rfl 115 Tryd.keyed Tryd.underlying80 unitElem mb (n + j) D rfl hown _ _ rfl hkey ?_; intro w7 hown7 hturn7)
          have HR7 : Hid (Rm w1 n1 w7 sb b g mb lv2 c x sw ws th ((ns.take (j + 1)).filter q) (n + (j + 1)) (inS' q S (ns.take (j + 1)))) := by
            show Rm _ _ _ _ _ _ _ _ _ _ _ _ _ _ _ _
            rw [Htk.out, List.filter_append, List.filter_cons_of_neg (by rw [Hb.out]; simp), List.filter_nil, List.append_nil]
            exact ((del_rm HR6.out HS.out hown7 hturn7).congr (fun y _ => inS'_del q S (ns.take j) a Hb.out y)).mono (by omega)
          have t7 := turned_touch hturn7
          have Hrow7 : Hid (w7.ownsRow 0 3 1 (.slice (some ⟨qa, 0, none⟩) ns.length cap) ns.length (ints ns)) := row_keep Hrow6.out (fun y hy => t7.block y (row_lt Hrow6.out y hy) (by simp; exact (Hnb.out y hy).2.1))
          have hsz7 : w0.heap.size ≤ w7.heap.size := Nat.le_trans hsz6 t7.size
          have HTc7 : Hid (Touch [sb, mb, b, g] w0 w7) := HTc6.out.trans (t7.wide (fun x hx => by simp at hx; simp [hx]))
          clear t7 hown7 hturn7 HR6 Hrow6 hsz6 k2 hown hkey HS Ha HT Haj Hfl
          go_wp2
          go_roundw
          case rel => exact ⟨j + 1, by omega, by go_num, lv2, HR7, Hrow7, Hlv, hsz7, HTc7⟩
          case measure => simp [intOf]; omega
        · rw [hb] at hy
          have Hb : Hid (q a = true) := hb
          clear hb hqa h4
          go_wp2_with fail
          refine hy.mono ?_
          rintro e w6 ⟨rfl, l6⟩
          have HR6 : Hid (Rm w1 n1 w6 sb b g mb lv2 c x sw ws th ((ns.take j).filter q) (n + j) (inS' q S (ns.take j))) := HR5.out.below l6
          have Hrow6 : Hid (w6.ownsRow 0 3 1 (.slice (some ⟨qa, 0, none⟩) ns.length cap) ns.length (ints ns)) := row_keep Hrow5.out (fun y hy => l6.block y (row_lt Hrow5.out y hy))
          have hsz6 : w0.heap.size ≤ w6.heap.size := Nat.le_trans hsz5 l6.size
          have HTc6 : Hid (Touch [sb, mb, b, g] w0 w6) := HTc5.out.trans (Touch.of_below l6 _)
          clear hy l6 HR5 Hrow5 hsz5
          have hadd := sAdd_any HR6.out a Ha.out (by have := Hfl.out; omega) (by omega)
          go_wp2_with fail
          refine hadd.mono ?_
          rintro e w7 ⟨rfl, lv7, R7, t7, hlv7⟩
          have HR7 : Hid (Rm w1 n1 w7 sb b g mb lv7 c x sw ws th ((ns.take (j + 1)).filter q) (n + (j + 1)) (inS' q S (ns.take (j + 1)))) := by
            show Rm _ _ _ _ _ _ _ _ _ _ _ _ _ _ _ _
            rw [Htk.out, List.filter_append, List.filter_cons_of_pos Hb.out, List.filter_nil]
            exact R7.congr (fun y _ => inS'_put q S (ns.take j) a Hb.out y)
          have Hrow7 : Hid (w7.ownsRow 0 3 1 (.slice (some ⟨qa, 0, none⟩) ns.length cap) ns.length (ints ns)) := row_keep Hrow6.out (fun y hy => t7.block y (row_lt Hrow6.out y hy) (by
            have h1 := Hnb.out y hy
            have h2 := Hlt.out y hy
            simp only [List.mem_cons, Option.mem_toList, not_or]
            exact ⟨h1.1, h1.2.1, fun e => by have := Hlv.out y e; omega⟩))
          have Hlv7 : Hid (∀ y, lv7.ownBlock = some y → w0.heap.size ≤ y) := fun y hy => by
            rcases hlv7 with h | ⟨z, h, h2⟩
            · exact Hlv.out y (by rw [← h]; exact hy)
            · rw [h] at hy
              simp at hy
              omega
          have hsz7 : w0.heap.size ≤ w7.heap.size := Nat.le_trans hsz6 t7.size
          have HTc7 : Hid (Touch [sb, mb, b, g] w0 w7) := HTc6.out.then t7 (fun y hy => by
            simp only [List.mem_cons, Option.mem_toList] at hy
            rcases hy with rfl | rfl | hy
            · exact .inl (by simp)
            · exact .inl (by simp)
            · exact .inr (Hlv.out y hy))
          clear hadd R7 t7 hlv7 HR6 Hrow6 hsz6 Ha HT Haj Hfl Hlv
          go_wp2
          go_roundw
          case rel => exact ⟨j + 1, by omega, by go_num, lv7, HR7, Hrow7, Hlv7, hsz7, HTc7⟩
          case measure => simp [intOf]; omega
      · rw [decide_eq_false h4] at ht hqa
        rw [Bool.false_and] at hqa
        have Hb : Hid (q a = false) := hqa
        go_wp2_with fail
        refine ht.mono ?_
        rintro e w6 ⟨rfl, l6⟩
        have HR6 : Hid (Rm w1 n1 w6 sb b g mb lv2 c x sw ws th ((ns.take j).filter q) (n + j) (inS' q S (ns.take j))) := HR.out.below l6
        have Hrow6 : Hid (w6.ownsRow 0 3 1 (.slice (some ⟨qa, 0, none⟩) ns.length cap) ns.length (ints ns)) := row_keep Hrow.out (fun y hy => l6.block y (row_lt Hrow.out y hy))
        have hsz6 : w0.heap.size ≤ w6.heap.size := Nat.le_trans hsz l6.size
        have HTc6 : Hid (Touch [sb, mb, b, g] w0 w6) := HTc.out.trans (Touch.of_below l6 _)
        clear ht l6 HR Hrow hsz ca hqa h4
        have k2 : w6.cell? ⟨sb, 2, none⟩ = some (.map (some mb)) := HR6.out.rs.cell 2
        obtain ⟨D, hown, hS⟩ := HR6.out.rs.map
        have HS : Hid (∀ a, InI a → Maps.has D (.int .i64 a) = inS' q S (ns.take j) a) := hS
        have hkey := key_of Ha.out
        clear hS
        go_wp2_with (at_delete; refine wpList_delete_own _ rfl _ _ 80 3 rfl 115 Tryd.keyed Tryd.underlying80 unitElem mb (n + j) D rfl hown _ _ rfl hkey ?_; intro w7 hown7 hturn7)
        have HR7 : Hid (Rm w1 n1 w7 sb b g mb lv2 c x sw ws th ((ns.take (j + 1)).filter q) (n + (j + 1)) (inS' q S (ns.take (j + 1)))) := by
          show Rm _ _ _ _ _ _ _ _ _ _ _ _ _ _ _ _
          rw [Htk.out, List.filter_append, List.filter_cons_of_neg (by rw [Hb.out]; simp), List.filter_nil, List.append_nil]
          exact ((del_rm HR6.out HS.out hown7 hturn7).congr (fun y _ => inS'_del q S (ns.take j) a Hb.out y)).mono (by omega)
        have t7 := turned_touch hturn7
        have Hrow7 : Hid (w7.ownsRow 0 3 1 (.slice (some ⟨qa, 0, none⟩) ns.length cap) ns.length (ints ns)) := row_keep Hrow6.out (fun y hy => t7.block y (row_lt Hrow6.out y hy) (by simp; exact (Hnb.out y hy).2.1))
        have hsz7 : w0.heap.size ≤ w7.heap.size := Nat.le_trans hsz6 t7.size
        have HTc7 : Hid (Touch [sb, mb, b, g] w0 w7) := HTc6.out.trans (t7.wide (fun x hx => by simp at hx; simp [hx]))
        clear t7 hown7 hturn7 HR6 Hrow6 hsz6 k2 hown hkey HS Ha HT Haj Hfl
        go_wp2
        go_roundw
        case rel => exact ⟨j + 1, by omega, by go_num, lv2, HR7, Hrow7, Hlv, hsz7, HTc7⟩
        case measure => simp [intOf]; omega
    · have hje : j = ns.length := by omega
      have Hsf : Hid (Rm w1 n1 wr sb b g mb lv2 c x sw ws th (ns.filter q) (n + ns.length) (inS' q S ns)) := by
        have := HR.out
        rw [hje, List.take_length] at this
        exact this
      have Hhl : Hid (Hld c x ws th) := HR.out.bq.ax.hl
      have hjn : ¬ (j : Int) < (ns.length : Int) := by omega
      clear HR
      go_wp2
      clear hjn hje hjl hj
      go_loopw [36] (fun v36 wr => ∃ j : Nat, j ≤ ns.length ∧ v36 = .int .i64 j ∧ ∃ ws', Hid (Rm w1 n1 wr sb b g mb lv2 c x sw ws' (mk_ (inS' q S ns) (ns.take j) th) (ns.filter q) (n + ns.length) (inS' q S ns)) ∧ Hid (wr.ownsRow 0 3 1 (.slice av ns.length cap) ns.length (ints ns)) ∧ Hid (Touch [sb, mb, b, g] w0 wr)) (fun v36 _ => ns.length - (intOf v36).toNat)
      case atStart => exact ⟨0, Nat.zero_le _, rfl, ws, (by
        show Hid (Rm _ _ _ _ _ _ _ _ _ _ _ _ _ _ _ _)
        rw [List.take_zero, mk_nil]
        exact Hsf), Hrow, HTc⟩
      case round =>
        obtain ⟨j, hj, rfl, ws2, HR, Hrow2, HTc2⟩ := hrel
        clear Hsf Hrow HTc
        by_cases hjl : j < ns.length
        · have haj : ns[j]? = some (ns[j]'hjl) := List.getElem?_eq_getElem hjl
          generalize ns[j]'hjl = a at haj
          have ham := List.mem_of_getElem? haj
          obtain ⟨T, hT, hTa⟩ := HW.out a ham
          obtain ⟨qa, ea, ca⟩ : ∃ qa, av = some ⟨qa, 0, none⟩ ∧ wr.cell? ⟨qa, j, none⟩ = some (.int .i64 a) := by
            obtain ⟨a0, cp, h1, -, h3⟩ := row_at Hrow2.out (by decide)
            simp at h1
            obtain ⟨y, h4, -, h5⟩ := h3 j (.int .i64 a) (by rw [List.getElem?_map, haj]; rfl)
            exact ⟨y, by rw [h1.1, h4], h5⟩
          subst ea
          have htk : ns.take (j + 1) = ns.take j ++ [a] := by rw [List.take_add_one, haj]; rfl
          obtain ⟨i, hi⟩ := List.getElem?_of_mem hT
          have hU : (mk_ (inS' q S ns) (ns.take j) th)[i]? = some (if T.at_ ∈ ns.take j then { T with h := inS' q S ns T.at_ } else T) := by rw [mk_at, hi]; rfl
          generalize hUe : (if T.at_ ∈ ns.take j then { T with h := inS' q S ns T.at_ } else T) = U at hU
          have hUa : U.at_ = a := by rw [← hUe, ← hTa]; split <;> rfl
          have hmk := sMark_any HR.out i U hU
          have hset : (mk_ (inS' q S ns) (ns.take j) th).set i { U with h := inS' q S ns U.at_ } = mk_ (inS' q S ns) (ns.take (j + 1)) th := by
            have := mk_snoc Hhl.out (inS' q S ns) (ns.take j) i T U hi hU
            rw [hTa] at this
            rw [htk, ← this, hUa]
          rw [hset, hUa] at hmk
          have hjI : (j : Int) < (ns.length : Int) := by omega
          clear hset htk hi hU hUe hUa hT hTa ham haj HR
          go_wp2_with fail
          refine hmk.mono ?_
          rintro e w7 ⟨rfl, t7, ws7, R7⟩
          have HR7 : Hid (Rm w1 n1 w7 sb b g mb lv2 c x sw ws7 (mk_ (inS' q S ns) (ns.take (j + 1)) th) (ns.filter q) (n + ns.length) (inS' q S ns)) := R7
          have Hrow7 : Hid (w7.ownsRow 0 3 1 (.slice (some ⟨qa, 0, none⟩) ns.length cap) ns.length (ints ns)) := row_keep Hrow2.out (fun y hy => t7.block y (row_lt Hrow2.out y hy) (by
            have h1 := Hnb.out y hy
            simp only [List.mem_cons, List.not_mem_nil, or_false, not_or]
            exact ⟨h1.2.2.1, h1.2.2.2⟩))
          have HTc7 : Hid (Touch [sb, mb, b, g] w0 w7) := HTc2.out.trans (t7.wide (fun x hx => by simp at hx; rcases hx with h | h <;> simp [h]))
          clear hmk R7 t7 Hrow2 ca
          go_wp2
          go_roundw
          case rel => exact ⟨j + 1, by omega, by go_num, ws7, HR7, Hrow7, HTc7⟩
          case measure => simp [intOf]; omega
        · have hje : j = ns.length := by omega
          have Hsf : Hid (Rm w1 n1 wr sb b g mb lv2 c x sw ws2 (mk_ (inS' q S ns) ns th) (ns.filter q) (n + ns.length) (inS' q S ns)) := by
            have := HR.out
            rw [hje, List.take_length] at this
            exact this
          have hjn : ¬ (j : Int) < (ns.length : Int) := by omega
          clear HR
          go_wp2
          go_end0
          exact ⟨rfl, HT0.out.trans HTc2.out, lv2, ws2, Hsf.out⟩
end

end Go.Proofs.YtfihjmoaibmllaaDoor
