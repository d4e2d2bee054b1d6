import Derived.Test.YtlkengnefhhppaaGreatDoorPDa
import Derived.Test.YtlkengnefhhppaaGreatDoorPYf
import Derived.Test.YtlkengnefhhppaaGreatDoorPYe
set_option linter.unusedVariables false
set_option maxHeartbeats 8000000
set_option maxRecDepth 20000
namespace Go.Proofs.YtlkengnefhhppaaGreatDoor
open Go.RowKit Go.Shelf
theorem ded_filter (q : Int → Bool) (xs : List Int) : (ded xs).filter q = ded (xs.filter q) := by
 revert xs
 refine snoc_ind (by simp [ded]) (fun xs x ih => ?_)
 rw [ded_snoc, List.filter_append]
 cases hq : q x
 ·rw [List.filter_cons_of_neg (by simp [hq]), List.filter_nil, List.append_nil, ← ih]
  unfold ded1
  split
  ·rfl
  ·rw [List.filter_append, List.filter_cons_of_neg (by simp [hq]), List.filter_nil, List.append_nil]
 ·rw [List.filter_cons_of_pos hq, List.filter_nil, ded_snoc, ← ih]
  unfold ded1
  by_cases hm : x ∈ ded xs
  ·rw [if_pos hm, if_pos (List.mem_filter.2 ⟨hm, hq⟩)]
  ·rw [if_neg hm, if_neg (fun h => hm (List.mem_filter.1 h).1), List.filter_append, List.filter_cons_of_pos hq, List.filter_nil]
theorem ded_nd (xs : List Int) : (ded xs).Nodup := by
 revert xs
 refine snoc_ind (by simp [ded]) (fun xs x ih => ?_)
 rw [ded_snoc]
 unfold ded1
 split
 ·exact ih
 ·rename_i h
  rw [List.nodup_append]
  refine ⟨ih, by simp, fun a ha b hb => ?_⟩
  simp at hb
  subst hb
  exact fun e => h (e ▸ ha)
theorem mk_two (th : List Tng) (Q q : Int → Bool) (os' os nl : List Int) (ho : ∀ a, a ∈ os' ↔ a ∈ os) (hQ : ∀ a, a ∈ os → Q a = q a) (hn : ∀ a, a ∈ nl ↔ a ∈ os ∧ q a = true) :
  mk_ Q os' th = mk_ (fun _ => true) nl (mk_ (fun _ => false) (os.filter (fun a => !decide (a ∈ nl))) th) := by
 unfold mk_
 rw [List.map_map]
 apply List.map_congr_left
 intro T _
 show (if T.at_ ∈ os' then { T with h := Q T.at_ } else T) = (fun U : Tng => if U.at_ ∈ nl then { U with h := true } else U) (if T.at_ ∈ os.filter (fun a => !decide (a ∈ nl)) then { T with h := false } else T)
 by_cases h1 : T.at_ ∈ os
 ·rw [if_pos ((ho _).2 h1), hQ _ h1]
  cases h2 : q T.at_
  ·have h3 : T.at_ ∉ nl := fun h => by have := ((hn _).1 h).2; rw [h2] at this; cases this
   rw [if_pos (List.mem_filter.2 ⟨h1, by simp [h3]⟩)]
   show _ = if T.at_ ∈ nl then _ else _
   rw [if_neg h3]
  ·have h3 : T.at_ ∈ nl := (hn _).2 ⟨h1, h2⟩
   rw [if_neg (fun h => by have := (List.mem_filter.1 h).2; simp [h3] at this)]
   show _ = if T.at_ ∈ nl then _ else _
   rw [if_pos h3]
 ·have h3 : T.at_ ∉ nl := fun h => h1 ((hn _).1 h).1
  rw [if_neg (fun h => h1 ((ho _).1 h)), if_neg (fun h => h1 (List.mem_filter.1 h).1)]
  show _ = if T.at_ ∈ nl then _ else _
  rw [if_neg h3]
theorem inS_two (q S : Int → Bool) (ns nl : List Int) (hn : ∀ a, a ∈ nl ↔ a ∈ ns ∧ q a = true) (hS : ∀ a, a ∉ ns → S a = false) : inS' q S ns = fun a => decide (a ∈ nl) := by
 funext a
 unfold inS'
 by_cases h : a ∈ ns
 ·rw [if_pos h]
  cases hq : q a
  ·rw [decide_eq_false (fun h2 => by have := ((hn a).1 h2).2; rw [hq] at this; cases this)]
  ·rw [decide_eq_true ((hn a).2 ⟨h, hq⟩)]
 ·rw [if_neg h, hS a h, decide_eq_false (fun h2 => h ((hn a).1 h2).1)]
theorem Kh.to_mk {q : Int → Bool} {ns : List Int} {th : List Tng} {a d : Nat → Int} (h : Kh th a d) : Kh (mk_ q ns th) a d := fun y hy => h y fun T hT => by
 obtain ⟨U, hU, e⟩ := mk_ats (q := q) (ns := ns) hT
 rw [← e]
 exact hy U hU
theorem Kh.symm {th : List Tng} {a d : Nat → Int} (h : Kh th a d) : Kh th d a := fun y hy => (h y hy).symm
theorem Kh.same {c : Cfg} {x : Tps} {ws ws1 ws2 : Nat → Int} {th : List Tng} {q : Int → Bool} {ns : List Int} (h1 : Kh th ws ws1) (h2 : Kh th ws ws2) (H1 : Hp c x ws1 (mk_ q ns th)) (H2 : Hp c x ws2 (mk_ q ns th)) (w : World) : ws2 = ws1 :=
 H1.ext H2 w ((h1.symm.trans h2).to_mk.keep H1 w)
theorem tens_mem {th : List Tng} {a : Int} (h : a ∈ tens th) : ∃ T, T ∈ th ∧ T.at_ = a := by
 unfold tens at h
 obtain ⟨T, h1, h2⟩ := List.mem_map.1 h
 exact ⟨T, (List.mem_filter.1 h1).1, h2⟩
theorem Hld.ats_nodup {c : Cfg} {x : Tps} {ws : Nat → Int} {th : List Tng} (H : Hld c x ws th) : (th.map (·.at_)).Nodup := by
 show List.Pairwise _ _
 rw [List.pairwise_iff_getElem]
 intro i j hi hj hij he
 have hi' : i < th.length := by simpa using hi
 have hj' : j < th.length := by simpa using hj
 simp only [List.getElem_map] at he
 have := H.inj (List.getElem?_eq_getElem hi') (List.getElem?_eq_getElem hj') he
 omega
theorem nodup_below : ∀ (N : Nat) (l : List Int), l.Nodup → (∀ z, z ∈ l → 1 ≤ z ∧ z ≤ N) → l.length ≤ N
 | 0, l, _, h => by
  cases l with
  | nil => exact Nat.le_refl _
  | cons z l =>
   have := h z (List.mem_cons_self ..)
   omega
 | N + 1, l, hn, h => by
  by_cases hm : ((N + 1 : Nat) : Int) ∈ l
  ·have h1 := nodup_below N (l.erase ((N + 1 : Nat) : Int)) (hn.erase _) (fun z hz => by
    obtain ⟨h2, h3⟩ := hn.mem_erase_iff.1 hz
    have := h z h3
    omega)
   rw [List.length_erase_of_mem hm] at h1
   omega
  ·have h1 := nodup_below N l hn (fun z hz => by
    have := h z hz
    have : z ≠ ((N + 1 : Nat) : Int) := fun e => hm (by rw [← e]; exact hz)
    omega)
   omega
theorem Hp.few {c : Cfg} {x : Tps} {ws : Nat → Int} {th : List Tng} (H : Hp c x ws th) (w : World) (l : List Int) (hn : l.Nodup) (hl : ∀ a, a ∈ l → ∃ T, T ∈ th ∧ T.at_ = a) : l.length ≤ 262145 :=
 nodup_below 262145 l hn fun a ha => by
  obtain ⟨T, h1, h2⟩ := hl a ha
  have := H.pos w h1
  omega
theorem Hp.few_th {c : Cfg} {x : Tps} {ws : Nat → Int} {th : List Tng} (H : Hp c x ws th) (w : World) : th.length ≤ 262145 := by
 have := H.few w (th.map (·.at_)) H.hl.ats_nodup (fun a ha => by obtain ⟨T, h1, h2⟩ := List.mem_map.1 ha; exact ⟨T, h1, h2⟩)
 simpa using this
section
variable {w1 w w' : World} {n1 sb b g mb n : Nat} {lv : Value} {c : Cfg} {x : Tps} {sw : Bool} {ws : Nat → Int} {th : List Tng} {l : List Int} {S : Int → Bool}
theorem holdsYoung_adr (hl : Hld c x ws th) (a : Int) (ha : Adr c x ws th a) : ∃ yb, hta c sw th a = (decide (spc c a = 4) && yb) ∧ ∀ {w1 w : World} {n1 sb b g mb n : Nat} {lv : Value} {l : List Int} {S : Int → Bool}, Rm w1 n1 w sb b g mb lv c x sw ws th l n S → Calls Tryz.prog 69 #[.pointer (some ⟨sb, 0, none⟩), .int .i64 a] w fun e w' => e = .returned (.bool yb) ∧ Below w.heap.size w w' := by
 rcases ha with ⟨T, hT, rfl⟩ | ⟨h1, h2⟩
 ·exact ⟨hyT c sw T, hta_at hl sw hT, fun H => holdsYoung_any H hT⟩
 ·refine ⟨false, ?_, fun H => holdsYoung_not H a h2⟩
  rw [Bool.and_false]
  unfold hta
  rw [Bool.and_eq_false_iff]
  refine .inr ?_
  rw [List.any_eq_false]
  intro T hT
  rw [decide_eq_false (h1 T hT)]
  simp
theorem sMark_mk {ws0 : Nat → Int} (H0 : Hp c x ws0 th) (q : Int → Bool) (ns : List Int) (H : Rm w1 n1 w sb b g mb lv c x sw ws (mk_ q ns th) l n q) (a : Int) (ha : Adr c x ws th a) : Calls Tryz.prog 52 #[.pointer (some ⟨sb, 0, none⟩), .int .i64 a] w fun e w' => e = .returned (.tuple #[]) ∧ Touch [b, g] w w' ∧ ∃ ws', Kh th ws ws' ∧ Rm w1 n1 w' sb b g mb lv c x sw ws' (mk_ q (ns ++ [a]) th) l n q := by
 rcases ha with ⟨T, hT, rfl⟩ | ⟨h1, h2⟩
 ·obtain ⟨i, hi⟩ := List.getElem?_of_mem hT
  have hU : (mk_ q ns th)[i]? = some (if T.at_ ∈ ns then { T with h := q T.at_ } else T) := by rw [mk_at, hi]; rfl
  generalize hUe : (if T.at_ ∈ ns then { T with h := q T.at_ } else T) = U at hU
  have hUa : U.at_ = T.at_ := by rw [← hUe]; split <;> rfl
  have hset := mk_snoc H0.hl q ns i T U hi hU
  have hmk := sMark_ex H i U hU
  have hkh := kh_head (th' := th) H.bq.ax.hp w (List.mem_of_getElem? hU) ⟨T, hT, hUa.symm⟩ (wrd U.k U.p U.r U.a U.t (q T.at_))
  have hqe : q U.at_ = q T.at_ := by rw [hUa]
  rw [hqe, hset, hUa] at hmk
  rw [hUa] at hkh
  refine hmk.mono ?_
  rintro e w' ⟨h3, h4, ws', rfl, h5⟩
  exact ⟨h3, h4, _, hkh, h5⟩
 ·refine (sMark_not H a h2).mono ?_
  rintro e w' ⟨h3, h4⟩
  refine ⟨h3, Touch.of_below h4 _, ws, Kh.refl _ _, ?_⟩
  rw [mk_out q ns th a h1]
  exact H.below h4
theorem renew_adr (H : Rm w1 n1 w sb b g mb lv c x sw ws th l n S) (nv : Value) (ns : List Int) (hrow : w.ownsRow 0 3 1 nv ns.length (ints ns)) (hns : ∀ a, a ∈ ns → Adr c x ws th a) (hin : ∀ a, a ∈ ns → InI a) (hl : ns.length ≤ 4294967296) (hn : n ≤ 576460752303423488) :
  Calls Tryz.prog 65 #[.pointer (some ⟨sb, 0, none⟩), nv] w fun e w' => e = .returned (.tuple #[]) ∧ Touch [sb, mb, b, g] w w' ∧ ∃ lv' ws', (∀ q, lv'.ownBlock = some q → w.heap.size ≤ q) ∧ Kh th ws ws' ∧ Rm w1 n1 w' sb b g mb lv' c x sw ws' (mk_ (inS' (hta c sw th) S ns) ns th) (ns.filter (hta c sw th)) (n + ns.length) (inS' (hta c sw th) S ns) := by
 obtain ⟨r0, t0⟩ := setList_rs H
 have HW : Hid (∀ a, a ∈ ns → Adr c x ws th a) := hns
 have Hin : Hid (∀ a, a ∈ ns → InI a) := hin
 obtain ⟨av, cap, hnv, hcap, hcells⟩ := row_at hrow (by decide)
 have hnb : ∀ q, nv.ownBlock = some q → q ≠ sb ∧ q ≠ mb ∧ q ≠ b ∧ q ≠ g := fun q hq => by
  obtain ⟨⟨gs, hgs⟩, bs, hbs⟩ := H.bq.ax.ar.rowTy
  refine ⟨fun e => row_ne H.rs.own hrow (by decide) (by rw [← e]; exact hq.symm), fun e => ?_, fun e => row_ne hbs hrow (by decide) (by rw [← e]; exact hq.symm), fun e => row_ne hgs hrow (by decide) (by rw [← e]; exact hq.symm)⟩
  rcases hrow.2 with ⟨e1, _⟩ | ⟨y, cp, cur, e1, _, hy, _⟩
  ·rw [e1] at hq; simp [Value.ownBlock] at hq
  ·rw [e1] at hq
   simp [Value.ownBlock] at hq
   subst hq
   exact H.rs.map.ne hy e
 have Hnb : Hid (∀ q, nv.ownBlock = some q → q ≠ sb ∧ q ≠ mb ∧ q ≠ b ∧ q ≠ g) := hnb
 have hrow1 := row_keep hrow (fun q hq => t0.block q (row_lt hrow q hq) (by simp; exact (hnb q hq).1))
 have Hrow1 : Hid ((w.setCell ⟨sb, 1, none⟩ (.slice none 0 0)).ownsRow 0 3 1 nv ns.length (ints ns)) := hrow1
 have HR0 : Hid (Rm w1 n1 (w.setCell ⟨sb, 1, none⟩ (.slice none 0 0)) sb b g mb (.slice none 0 0) c x sw ws th [] n S) := r0
 have Hlt : Hid (∀ q, nv.ownBlock = some q → q < w.heap.size) := fun q hq => row_lt hrow q hq
 have k1 : w.cell? ⟨sb, 1, none⟩ = some lv := H.rs.cell 1
 have f1 : w.frozen? ⟨sb, 1, none⟩ = false := by
  unfold World.frozen?
  simp only [H.rs.own]
  simp
 have hs0 : w.heap.size = (w.setCell ⟨sb, 1, none⟩ (.slice none 0 0)).heap.size := by simp [World.setCell]
 have HT0 : Hid (Touch [sb, mb, b, g] w (w.setCell ⟨sb, 1, none⟩ (.slice none 0 0))) := t0.wide (fun x hx => by simp at hx; simp [hx])
 clear hcells hrow hrow1 r0 t0 hnb hns hin
 subst hnv
 obtain ⟨q, hq⟩ : ∃ q, q = hta c sw th := ⟨_, rfl⟩
 rw [← hq]
 have Hq : Hid (q = hta c sw th) := hq
 clear hq H
 go_enter Tryz.func65, Tryz.ntmps65
 go_upto_region 1 with fail
 clear k1 f1
 generalize w.setCell ⟨sb, 1, none⟩ (.slice none 0 0) = w0 at *
 go_wp2
 go_loopw [13] (fun v13 wr => ∃ j : Nat, j ≤ ns.length ∧ v13 = .int .i64 j ∧ ∃ lv', Hid (Rm w1 n1 wr sb b g mb lv' c x sw ws th ((ns.take j).filter q) (n + j) (inS' q S (ns.take j))) ∧ Hid (wr.ownsRow 0 3 1 (.slice av ns.length cap) ns.length (ints ns)) ∧ Hid (∀ y, lv'.ownBlock = some y → w0.heap.size ≤ y) ∧ w0.heap.size ≤ wr.heap.size ∧ Hid (Touch [sb, mb, b, g] w0 wr)) (fun v13 _ => ns.length - (intOf v13).toNat)
 case atStart => exact ⟨0, Nat.zero_le _, rfl, .slice none 0 0, (by
   have e : inS' q S (ns.take 0) = S := by funext a; simp [inS']
   show Hid (Rm _ _ _ _ _ _ _ _ _ _ _ _ _ _ _ _)
   rw [e]
   exact HR0), Hrow1, (fun y hy => by simp [Value.ownBlock] at hy : ∀ y, (Value.slice none 0 0).ownBlock = some y → w0.heap.size ≤ y), Nat.le_refl _, Touch.refl _ _⟩
 case round =>
  obtain ⟨j, hj, rfl, lv2, HR, Hrow, Hlv, hsz, HTc⟩ := hrel
  clear HR0 Hrow1
  by_cases hjl : j < ns.length
  ·have haj : ns[j]? = some (ns[j]'hjl) := List.getElem?_eq_getElem hjl
   generalize ns[j]'hjl = a at haj
   have Haj : Hid (ns[j]? = some a) := haj
   have ham := List.mem_of_getElem? haj
   obtain ⟨yb, hyb, hyc⟩ := holdsYoung_adr (sw := sw) HR.out.bq.ax.hl a (HW.out a ham)
   have Ha : Hid (InI a) := Hin.out a ham
   obtain ⟨qa, ea, ca⟩ : ∃ qa, av = some ⟨qa, 0, none⟩ ∧ wr.cell? ⟨qa, j, none⟩ = some (.int .i64 a) := by
    obtain ⟨a0, cp, h1, -, h3⟩ := row_at Hrow.out (by decide)
    simp at h1
    obtain ⟨y, h4, -, h5⟩ := h3 j (.int .i64 a) (by rw [List.getElem?_map, haj]; rfl)
    exact ⟨y, by rw [h1.1, h4], h5⟩
   subst ea
   have htk : ns.take (j + 1) = ns.take j ++ [a] := by rw [List.take_add_one, haj]; rfl
   have Htk : Hid (ns.take (j + 1) = ns.take j ++ [a]) := htk
   have hlen : (ns.take j).length = j := by simp; omega
   have hqa : q a = (decide (spc c a = 4) && yb) := by rw [Hq.out]; exact hyb
   have ht := sTenured_any HR.out.rs HR.out.bq.ax.ar a
   have hjI : (j : Int) < (ns.length : Int) := by omega
   have Hfl : Hid (((ns.take j).filter q).length ≤ j) := by
    have := List.length_filter_le q (ns.take j)
    show _ ≤ _
    omega
   clear haj ham htk hlen hyb
   by_cases h4 : spc c a = 4
   ·rw [decide_eq_true h4] at ht hqa
    go_wp2_with fail
    refine ht.mono ?_
    rintro e w5 ⟨rfl, l5⟩
    have HR5 : Hid (Rm w1 n1 w5 sb b g mb lv2 c x sw ws th ((ns.take j).filter q) (n + j) (inS' q S (ns.take j))) := HR.out.below l5
    have Hrow5 : Hid (w5.ownsRow 0 3 1 (.slice (some ⟨qa, 0, none⟩) ns.length cap) ns.length (ints ns)) := row_keep Hrow.out (fun y hy => l5.block y (row_lt Hrow.out y hy))
    have hsz5 : w0.heap.size ≤ w5.heap.size := Nat.le_trans hsz l5.size
    have HTc5 : Hid (Touch [sb, mb, b, g] w0 w5) := HTc.out.trans (Touch.of_below l5 _)
    clear ht l5 HR Hrow hsz ca
    have hy := hyc HR5.out
    clear hyc
    rw [Bool.true_and] at hqa
    rw [← hqa] at hy
    cases hb : q a
    ·rw [hb] at hy
     have Hb : Hid (q a = false) := hb
     clear hb hqa h4
     go_wp2_with fail
     refine hy.mono ?_
     rintro e w6 ⟨rfl, l6⟩
     have HR6 : Hid (Rm w1 n1 w6 sb b g mb lv2 c x sw ws th ((ns.take j).filter q) (n + j) (inS' q S (ns.take j))) := HR5.out.below l6
     have Hrow6 : Hid (w6.ownsRow 0 3 1 (.slice (some ⟨qa, 0, none⟩) ns.length cap) ns.length (ints ns)) := row_keep Hrow5.out (fun y hy => l6.block y (row_lt Hrow5.out y hy))
     have hsz6 : w0.heap.size ≤ w6.heap.size := Nat.le_trans hsz5 l6.size
     have HTc6 : Hid (Touch [sb, mb, b, g] w0 w6) := HTc5.out.trans (Touch.of_below l6 _)
     clear hy l6 HR5 Hrow5 hsz5
     have k2 : w6.cell? ⟨sb, 2, none⟩ = some (.map (some mb)) := HR6.out.rs.cell 2
     obtain ⟨D, hown, hS⟩ := HR6.out.rs.map
     have HS : Hid (∀ a, InI a → Maps.has D (.int .i64 a) = inS' q S (ns.take j) a) := hS
     have hkey := key_of Ha.out
     clear hS
     go_wp2_with (at_delete; refine wpList_delete_own _ rfl _ _ 99 3 rfl 148 Tryz.keyed Tryz.underlying99 unitElem mb (n + j) D rfl hown _ _ rfl hkey ?_; intro w7 hown7 hturn7)
     have HR7 : Hid (Rm w1 n1 w7 sb b g mb lv2 c x sw ws th ((ns.take (j + 1)).filter q) (n + (j + 1)) (inS' q S (ns.take (j + 1)))) := by
      show Rm _ _ _ _ _ _ _ _ _ _ _ _ _ _ _ _
      rw [Htk.out, List.filter_append, List.filter_cons_of_neg (by rw [Hb.out]; simp), List.filter_nil, List.append_nil]
      exact ((del_rm HR6.out HS.out hown7 hturn7).congr (fun y _ => inS'_del q S (ns.take j) a Hb.out y)).mono (by omega)
     have t7 := turned_touch hturn7
     have Hrow7 : Hid (w7.ownsRow 0 3 1 (.slice (some ⟨qa, 0, none⟩) ns.length cap) ns.length (ints ns)) := row_keep Hrow6.out (fun y hy => t7.block y (row_lt Hrow6.out y hy) (by simp; exact (Hnb.out y hy).2.1))
     have hsz7 : w0.heap.size ≤ w7.heap.size := Nat.le_trans hsz6 t7.size
     have HTc7 : Hid (Touch [sb, mb, b, g] w0 w7) := HTc6.out.trans (t7.wide (fun x hx => by simp at hx; simp [hx]))
     clear t7 hown7 hturn7 HR6 Hrow6 hsz6 k2 hown hkey HS Ha Haj Hfl
     go_wp2
     go_roundw
     case rel => exact ⟨j + 1, by omega, by go_num, lv2, HR7, Hrow7, Hlv, hsz7, HTc7⟩
     case measure => simp [intOf]; omega
    ·rw [hb] at hy
     have Hb : Hid (q a = true) := hb
     clear hb hqa h4
     go_wp2_with fail
     refine hy.mono ?_
     rintro e w6 ⟨rfl, l6⟩
     have HR6 : Hid (Rm w1 n1 w6 sb b g mb lv2 c x sw ws th ((ns.take j).filter q) (n + j) (inS' q S (ns.take j))) := HR5.out.below l6
     have Hrow6 : Hid (w6.ownsRow 0 3 1 (.slice (some ⟨qa, 0, none⟩) ns.length cap) ns.length (ints ns)) := row_keep Hrow5.out (fun y hy => l6.block y (row_lt Hrow5.out y hy))
     have hsz6 : w0.heap.size ≤ w6.heap.size := Nat.le_trans hsz5 l6.size
     have HTc6 : Hid (Touch [sb, mb, b, g] w0 w6) := HTc5.out.trans (Touch.of_below l6 _)
     clear hy l6 HR5 Hrow5 hsz5
     have hadd := sAdd_any HR6.out a Ha.out (by have := Hfl.out; omega) (by omega)
     go_wp2_with fail
     refine hadd.mono ?_
     rintro e w7 ⟨rfl, lv7, R7, t7, hlv7⟩
     have HR7 : Hid (Rm w1 n1 w7 sb b g mb lv7 c x sw ws th ((ns.take (j + 1)).filter q) (n + (j + 1)) (inS' q S (ns.take (j + 1)))) := by
      show Rm _ _ _ _ _ _ _ _ _ _ _ _ _ _ _ _
      rw [Htk.out, List.filter_append, List.filter_cons_of_pos Hb.out, List.filter_nil]
      exact R7.congr (fun y _ => inS'_put q S (ns.take j) a Hb.out y)
     have Hrow7 : Hid (w7.ownsRow 0 3 1 (.slice (some ⟨qa, 0, none⟩) ns.length cap) ns.length (ints ns)) := row_keep Hrow6.out (fun y hy => t7.block y (row_lt Hrow6.out y hy) (by
      have h1 := Hnb.out y hy
      have h2 := Hlt.out y hy
      simp only [List.mem_cons, Option.mem_toList, not_or]
      exact ⟨h1.1, h1.2.1, fun e => by have := Hlv.out y e; omega⟩))
     have Hlv7 : Hid (∀ y, lv7.ownBlock = some y → w0.heap.size ≤ y) := fun y hy => by
      rcases hlv7 with h | ⟨z, h, h2⟩
      ·exact Hlv.out y (by rw [← h]; exact hy)
      ·rw [h] at hy
       simp at hy
       omega
     have hsz7 : w0.heap.size ≤ w7.heap.size := Nat.le_trans hsz6 t7.size
     have HTc7 : Hid (Touch [sb, mb, b, g] w0 w7) := HTc6.out.then t7 (fun y hy => by
      simp only [List.mem_cons, Option.mem_toList] at hy
      rcases hy with rfl | rfl | hy
      ·exact .inl (by simp)
      ·exact .inl (by simp)
      ·exact .inr (Hlv.out y hy))
     clear hadd R7 t7 hlv7 HR6 Hrow6 hsz6 Ha Haj Hfl Hlv
     go_wp2
     go_roundw
     case rel => exact ⟨j + 1, by omega, by go_num, lv7, HR7, Hrow7, Hlv7, hsz7, HTc7⟩
     case measure => simp [intOf]; omega
   ·clear hyc
    rw [decide_eq_false h4] at ht hqa
    rw [Bool.false_and] at hqa
    have Hb : Hid (q a = false) := hqa
    go_wp2_with fail
    refine ht.mono ?_
    rintro e w6 ⟨rfl, l6⟩
    have HR6 : Hid (Rm w1 n1 w6 sb b g mb lv2 c x sw ws th ((ns.take j).filter q) (n + j) (inS' q S (ns.take j))) := HR.out.below l6
    have Hrow6 : Hid (w6.ownsRow 0 3 1 (.slice (some ⟨qa, 0, none⟩) ns.length cap) ns.length (ints ns)) := row_keep Hrow.out (fun y hy => l6.block y (row_lt Hrow.out y hy))
    have hsz6 : w0.heap.size ≤ w6.heap.size := Nat.le_trans hsz l6.size
    have HTc6 : Hid (Touch [sb, mb, b, g] w0 w6) := HTc.out.trans (Touch.of_below l6 _)
    clear ht l6 HR Hrow hsz ca hqa h4
    have k2 : w6.cell? ⟨sb, 2, none⟩ = some (.map (some mb)) := HR6.out.rs.cell 2
    obtain ⟨D, hown, hS⟩ := HR6.out.rs.map
    have HS : Hid (∀ a, InI a → Maps.has D (.int .i64 a) = inS' q S (ns.take j) a) := hS
    have hkey := key_of Ha.out
    clear hS
    go_wp2_with (at_delete; refine wpList_delete_own _ rfl _ _ 99 3 rfl 148 Tryz.keyed Tryz.underlying99 unitElem mb (n + j) D rfl hown _ _ rfl hkey ?_; intro w7 hown7 hturn7)
    have HR7 : Hid (Rm w1 n1 w7 sb b g mb lv2 c x sw ws th ((ns.take (j + 1)).filter q) (n + (j + 1)) (inS' q S (ns.take (j + 1)))) := by
     show Rm _ _ _ _ _ _ _ _ _ _ _ _ _ _ _ _
     rw [Htk.out, List.filter_append, List.filter_cons_of_neg (by rw [Hb.out]; simp), List.filter_nil, List.append_nil]
     exact ((del_rm HR6.out HS.out hown7 hturn7).congr (fun y _ => inS'_del q S (ns.take j) a Hb.out y)).mono (by omega)
    have t7 := turned_touch hturn7
    have Hrow7 : Hid (w7.ownsRow 0 3 1 (.slice (some ⟨qa, 0, none⟩) ns.length cap) ns.length (ints ns)) := row_keep Hrow6.out (fun y hy => t7.block y (row_lt Hrow6.out y hy) (by simp; exact (Hnb.out y hy).2.1))
    have hsz7 : w0.heap.size ≤ w7.heap.size := Nat.le_trans hsz6 t7.size
    have HTc7 : Hid (Touch [sb, mb, b, g] w0 w7) := HTc6.out.trans (t7.wide (fun x hx => by simp at hx; simp [hx]))
    clear t7 hown7 hturn7 HR6 Hrow6 hsz6 k2 hown hkey HS Ha Haj Hfl
    go_wp2
    go_roundw
    case rel => exact ⟨j + 1, by omega, by go_num, lv2, HR7, Hrow7, Hlv, hsz7, HTc7⟩
    case measure => simp [intOf]; omega
  ·have hje : j = ns.length := by omega
   have Hsf : Hid (Rm w1 n1 wr sb b g mb lv2 c x sw ws th (ns.filter q) (n + ns.length) (inS' q S ns)) := by
    have := HR.out
    rw [hje, List.take_length] at this
    exact this
   have Hhp : Hid (Hp c x ws th) := HR.out.bq.ax.hp
   have hjn : ¬ (j : Int) < (ns.length : Int) := by omega
   clear HR
   go_wp2
   clear hjn hje hjl hj
   go_loopw [36] (fun v36 wr => ∃ j : Nat, j ≤ ns.length ∧ v36 = .int .i64 j ∧ ∃ ws', Hid (Kh th ws ws') ∧ Hid (Rm w1 n1 wr sb b g mb lv2 c x sw ws' (mk_ (inS' q S ns) (ns.take j) th) (ns.filter q) (n + ns.length) (inS' q S ns)) ∧ Hid (wr.ownsRow 0 3 1 (.slice av ns.length cap) ns.length (ints ns)) ∧ Hid (Touch [sb, mb, b, g] w0 wr)) (fun v36 _ => ns.length - (intOf v36).toNat)
   case atStart => exact ⟨0, Nat.zero_le _, rfl, ws, Kh.refl _ _, (by
    show Hid (Rm _ _ _ _ _ _ _ _ _ _ _ _ _ _ _ _)
    rw [List.take_zero, mk_nil]
    exact Hsf), Hrow, HTc⟩
   case round =>
    obtain ⟨j, hj, rfl, ws2, HK2, HR, Hrow2, HTc2⟩ := hrel
    clear Hsf Hrow HTc
    by_cases hjl : j < ns.length
    ·have haj : ns[j]? = some (ns[j]'hjl) := List.getElem?_eq_getElem hjl
     generalize ns[j]'hjl = a at haj
     have ham := List.mem_of_getElem? haj
     obtain ⟨qa, ea, ca⟩ : ∃ qa, av = some ⟨qa, 0, none⟩ ∧ wr.cell? ⟨qa, j, none⟩ = some (.int .i64 a) := by
      obtain ⟨a0, cp, h1, -, h3⟩ := row_at Hrow2.out (by decide)
      simp at h1
      obtain ⟨y, h4, -, h5⟩ := h3 j (.int .i64 a) (by rw [List.getElem?_map, haj]; rfl)
      exact ⟨y, by rw [h1.1, h4], h5⟩
     subst ea
     have htk : ns.take (j + 1) = ns.take j ++ [a] := by rw [List.take_add_one, haj]; rfl
     have hmk := sMark_mk Hhp.out (inS' q S ns) (ns.take j) HR.out a ((HW.out a ham).kh HK2.out)
     rw [← htk] at hmk
     have hjI : (j : Int) < (ns.length : Int) := by omega
     clear htk ham haj HR
     go_wp2_with fail
     refine hmk.mono ?_
     rintro e w7 ⟨rfl, t7, ws7, K7, R7⟩
     have HK7 : Hid (Kh th ws ws7) := HK2.out.trans K7
     have HR7 : Hid (Rm w1 n1 w7 sb b g mb lv2 c x sw ws7 (mk_ (inS' q S ns) (ns.take (j + 1)) th) (ns.filter q) (n + ns.length) (inS' q S ns)) := R7
     have Hrow7 : Hid (w7.ownsRow 0 3 1 (.slice (some ⟨qa, 0, none⟩) ns.length cap) ns.length (ints ns)) := row_keep Hrow2.out (fun y hy => t7.block y (row_lt Hrow2.out y hy) (by
      have h1 := Hnb.out y hy
      simp only [List.mem_cons, List.not_mem_nil, or_false, not_or]
      exact ⟨h1.2.2.1, h1.2.2.2⟩))
     have HTc7 : Hid (Touch [sb, mb, b, g] w0 w7) := HTc2.out.trans (t7.wide (fun x hx => by simp at hx; rcases hx with h | h <;> simp [h]))
     clear hmk R7 t7 Hrow2 ca K7 HK2
     go_wp2
     go_roundw
     case rel => exact ⟨j + 1, by omega, by go_num, ws7, HK7, HR7, Hrow7, HTc7⟩
     case measure => simp [intOf]; omega
    ·have hje : j = ns.length := by omega
     have Hsf : Hid (Rm w1 n1 wr sb b g mb lv2 c x sw ws2 (mk_ (inS' q S ns) ns th) (ns.filter q) (n + ns.length) (inS' q S ns)) := by
      have := HR.out
      rw [hje, List.take_length] at this
      exact this
     have hjn : ¬ (j : Int) < (ns.length : Int) := by omega
     clear HR
     go_wp2
     go_end0
     exact ⟨rfl, HT0.out.trans HTc2.out, lv2, (fun y hy => by have := Hlv.out y hy; omega), ws2, HK2.out, Hsf.out⟩
theorem prune_adr (H : Rm w1 n1 w sb b g mb lv c x sw ws th l n S) (mv : Value) (more : List Int) (hm : Lrd w.heap.size w mv .i64 more) (hls : ∀ a, a ∈ l → Adr c x ws th a) (hms : ∀ a, a ∈ more → Adr c x ws th a) (hin : ∀ a, a ∈ l ++ more → InI a) (hl : l.length ≤ 1073741824) (hml : more.length ≤ 1073741824) (hn : n ≤ 576460752303423488) :
  Calls Tryz.prog 61 #[.pointer (some ⟨sb, 0, none⟩), mv] w fun e w' => e = .returned (.tuple #[]) ∧ Touch [sb, mb, b, g] w w' ∧ ∃ lv' ws' n', (∀ q, lv'.ownBlock = some q → w.heap.size ≤ q) ∧ Kh th ws ws' ∧ Rm w1 n1 w' sb b g mb lv' c x sw ws' (mk_ (inS' (hta c sw th) S (ded (l ++ more))) (ded (l ++ more)) th) ((ded (l ++ more)).filter (hta c sw th)) n' (inS' (hta c sw th) S (ded (l ++ more))) ∧ n' ≤ n + (l.length + more.length) := by
 have k1 : w.cell? ⟨sb, 1, none⟩ = some lv := H.rs.cell 1
 have l1 : Below w.heap.size w (w.alloc (.cells #[lv, mv] 32)) := Below.alloc (Below.refl _ _) (Nat.le_refl _) _
 have hc := concat_any w.heap.size 2 (two lv mv) (two l more) (w.alloc (.cells #[lv, mv] 32)) (fun k hk => by
  have e := cell_of_row _ _ k _ _ _ (heap_alloc_new w (.cells #[lv, mv] 32 (0, 0)))
  rw [e]
  match k, hk with
  | 0, _ => rfl
  | 1, _ => rfl) (fun k hk => by
  match k, hk with
  | 0, _ => exact ((Lrd.of_row H.rs.row).below l1).mono l1.size
  | 1, _ => exact (hm.below l1).mono l1.size) (fun k hk => by
  match k, hk with
  | 0, _ => show l.length ≤ _; omega
  | 1, _ => show more.length ≤ _; omega)
 rw [upto_two] at hc
 have hlen2 : (l ++ more).length ≤ 2147483648 ∧ (l ++ more).length = l.length + more.length := by simp; omega
 have hth2 : ∀ a, a ∈ ded (l ++ more) → Adr c x ws th a := fun a ha => by
  rcases List.mem_append.1 ((mem_ded _ a).1 ha) with h | h
  ·exact hls a h
  ·exact hms a h
 obtain ⟨xs, hxs⟩ : ∃ xs, xs = l ++ more := ⟨_, rfl⟩
 rw [← hxs] at hc hin hlen2 hth2 ⊢
 clear hxs
 have HR : Hid (Rm w1 n1 w sb b g mb lv c x sw ws th l n S) := H
 have Hin : Hid (∀ a, a ∈ xs → InI a) := hin
 have Hth : Hid (∀ a, a ∈ ded xs → Adr c x ws th a) := hth2
 have Hlen : Hid (xs.length ≤ 2147483648 ∧ xs.length = l.length + more.length) := hlen2
 obtain ⟨a1, n2, c1, rfl⟩ := row_slice H.rs.row
 obtain ⟨a2, c2, rfl, -, -⟩ := hm
 clear H hin hls hms hlen2 hth2
 go_enter Tryz.func61, Tryz.ntmps61
 go_wp2_with fail
 refine hc.mono ?_
 rintro e w3 ⟨v3, rfl, h3, l3⟩
 have l3' := l1.trans (l3.mono l1.size)
 have ho := once_any v3 xs w3 (Lrd.of_row h3) Hin.out (by have := Hlen.out; omega)
 obtain ⟨a3, c3, rfl⟩ := own_sl h3
 clear hc k1 l1 l3 h3
 go_wp2_with fail
 refine ho.mono ?_
 rintro e w4 ⟨v4, rfl, h4, l4⟩
 have l4' := l3'.trans (l4.mono l3'.size)
 have hr := renew_adr (HR.out.below l4') v4 (ded xs) h4 Hth.out (fun a ha => Hin.out a ((mem_ded _ a).1 ha)) (by have := Hlen.out; have := ded_len xs; omega) (by omega)
 obtain ⟨a4, c4, rfl⟩ := own_sl h4
 have HL4 : Hid (Touch [sb, mb, b, g] w w4) := Touch.of_below l4' _
 clear ho l3' l4 h4 l4'
 go_wp2_with fail
 refine hr.mono ?_
 rintro e w5 ⟨rfl, t5, lv5, ws5, o5, K5, R5⟩
 have HK5 : Hid (Kh th ws ws5) := K5
 have Ho5 : Hid (∀ q, lv5.ownBlock = some q → w.heap.size ≤ q) := fun y hy => Nat.le_trans HL4.out.size (o5 y hy)
 have HT5 : Hid (Touch [sb, mb, b, g] w w5) := HL4.out.trans t5
 have HR5 : Hid (Rm w1 n1 w5 sb b g mb lv5 c x sw ws5 (mk_ (inS' (hta c sw th) S (ded xs)) (ded xs) th) ((ded xs).filter (hta c sw th)) (n + (ded xs).length) (inS' (hta c sw th) S (ded xs))) := R5
 have Hd : Hid ((ded xs).length ≤ l.length + more.length) := by
  have := Hlen.out.2
  have := ded_len xs
  show _ ≤ _
  omega
 clear hr R5 t5 o5 K5
 go_wp2
 go_end0
 exact ⟨rfl, HT5.out, lv5, ws5, _, Ho5.out, HK5.out, HR5.out, by have := Hd.out; omega⟩
end
end Go.Proofs.YtlkengnefhhppaaGreatDoor
