import Derived.Test.YtlkengnefhhppaaGreatDoorPQc
import Derived.Test.YtlkengnefhhppaaGreatDoorPKf
set_option linter.unusedVariables false
set_option maxHeartbeats 8000000
set_option maxRecDepth 20000
namespace Go.Proofs.YtlkengnefhhppaaGreatDoor
open Go.RowKit Go.Shelf
section
variable {w w' : World} {vb b : Nat} {g : Nat → Nat} {lv : Value} {c : Cfg} {x : Tps} {sw : Bool} {ws ws0 : Nat → Int} {th : List Tng} {l : List Int}
abbrev atsS (th : List Tng) (s : Nat) : List Int := (th.filter (inS s)).map (·.at_)
theorem Hp.atsS_nd (H : Hp c x ws th) (s : Nat) : (atsS th s).Nodup := (H.hl.ats_nodup).sublist (List.Sublist.map _ List.filter_sublist)
theorem atsS_mem {s : Nat} {a : Int} (h : a ∈ atsS th s) : ∃ T, T ∈ th ∧ T.at_ = a ∧ T.sp = s := by
 obtain ⟨T, h1, h2⟩ := List.mem_map.1 h
 have h3 := List.mem_filter.1 h1
 exact ⟨T, h3.1, h2, by simpa using h3.2⟩
theorem Rx.walk (H : Rx w b g c x sw ws th) (s : Nat) (s1 : 1 ≤ s) (s4 : s ≤ 4) : Calls Tryz.prog 66 #[.pointer (some ⟨b, 0, none⟩), .int .i64 s] w fun e w' => ∃ v, e = .returned (.tuple #[v, .int .i64 0]) ∧ w'.ownsRow w.heap.size 3 1 v (atsS th s).length (ints (atsS th s)) ∧ Below w.heap.size w w' := by
 obtain ⟨p, h1, h2⟩ := (H.hp.hl.seg s s1 s4).walk
 have hfew := H.hp.few w (atsS th s) (H.hp.atsS_nd s) (fun a ha => by obtain ⟨T, h3, h4, -⟩ := atsS_mem ha; exact ⟨T, h3, h4⟩)
 have := rwalk_any b g c x sw ws s s1 s4 (atsS th s) p (x.top s) h1 h2 (by omega) (fun j => H.hp.wat_wd j) w H.ra
 rw [if_neg (by omega)] at this
 exact this
theorem r6Holds_adr (hl : Hld c x ws th) (a : Int) (ha : Adr c x ws th a) : ∃ yb, hta c sw th a = (decide (spc c a = 4) && yb) ∧ ∀ {w : World}, Rx w b g c x sw ws th → Calls Tryz.prog 67 #[.pointer (some ⟨b, 0, none⟩), .int .i64 a] w fun e w' => e = .returned (.bool yb) ∧ Below w.heap.size w w' := by
 rcases ha with ⟨T, hT, rfl⟩ | ⟨h1, h2⟩
 ·exact ⟨hyT c sw T, hta_at hl sw hT, fun H => r6Holds_at H hT⟩
 ·refine ⟨false, ?_, fun H => r6Holds_not H a h2⟩
  rw [Bool.and_false]
  unfold hta
  rw [Bool.and_eq_false_iff]
  refine .inr ?_
  rw [List.any_eq_false]
  intro T hT
  rw [decide_eq_false (h1 T hT)]
  simp
theorem Rx.head_adr (a : Int) (ha : Adr c x ws th a) : ∃ s k p r y t h fl, (fl = false → hta c sw th a = false) ∧ ∀ {w : World}, Rx w b g c x sw ws th → Calls Tryz.prog 75 #[.pointer (some ⟨b, 0, none⟩), .int .i64 a] w fun e w' => e = .returned (.tuple #[hv s k p r y t h, .bool fl]) ∧ Below w.heap.size w w' := by
 rcases ha with ⟨T, hT, rfl⟩ | ⟨h1, h2⟩
 ·exact ⟨T.s, T.k, T.p, T.r, T.a, T.t, T.h, true, by simp, fun H => H.head hT⟩
 ·refine ⟨0, 0, 0, 0, 0, 0, false, false, fun _ => ?_, fun H => H.head_not a h2⟩
  unfold hta
  rw [Bool.and_eq_false_iff]
  refine .inr ?_
  rw [List.any_eq_false]
  intro T hT
  rw [decide_eq_false (h1 T hT)]
  simp
theorem head_alloc (w : World) : (Instr.alloc 38 true (.tuple #[])).run Tryz.prog w = .ok (.pointer (some ⟨w.heap.size, 0, none⟩)) (w.alloc (.cells (hcells 0 0 0 0 0 0 false) 38 (0, 0))) := by kernel_rfl
theorem enters_rhead : Enters Tryz.prog 75 := enters_of (fn := Tryz.f75) Tryz.func75 (by kernel_rfl) rfl
theorem hinfo7 : (Tryz.prog.info? 38).map (·.size) = some 7 := by kernel_rfl
theorem Lrd.news {n0 m cp : Nat} {w : World} {ax : Option Addr} {xs : List Int} (h : Lrd n0 w (.slice ax m cp) .i64 xs) : m = (ints xs).length ∧ ∀ (j : Nat) u, (ints xs)[j]? = some u → ∃ ad, ax = some ad ∧ w.cell? (ad.add j) = some u := by
 obtain ⟨a', cap', h1, h2, h3⟩ := h
 simp only [Value.slice.injEq] at h1
 obtain ⟨rfl, rfl, rfl⟩ := h1
 refine ⟨by simp, fun j u hu => ?_⟩
 rw [List.getElem?_map] at hu
 cases hz : xs[j]? with
 | none => rw [hz] at hu; simp at hu
 | some z =>
  rw [hz] at hu
  simp at hu
  obtain ⟨q, off, e1, e2, e3⟩ := h3 j z hz
  refine ⟨_, e1, ?_⟩
  have hadd : (⟨q, off, none⟩ : Addr).add j = ⟨q, off + j, none⟩ := by unfold Addr.add; split <;> simp_all
  rw [hadd, ← hu]
  exact e3
theorem ints_one1 (l : List Int) : ∀ u ∈ ints l, u.oneCell' = true := by
 intro u hu
 obtain ⟨z, -, rfl⟩ := List.mem_map.1 hu
 rfl
theorem row_zero0 {w : World} {base n e s : Nat} {v : Value} {xs : List Value} (h : w.ownsRow base e s v n xs) : w.ownsRow 0 e s v n xs := by
 refine ⟨h.1, ?_⟩
 rcases h.2 with h | ⟨g5, cap5, cur5, e1, -, e2⟩
 ·exact .inl h
 ·exact .inr ⟨g5, cap5, cur5, e1, Nat.zero_le _, e2⟩
theorem row_ge {w : World} {base n e s : Nat} {v : Value} {xs : List Value} (h : w.ownsRow base e s v n xs) : ∀ q, v.ownBlock = some q → base ≤ q := fun q hq => by
 rcases h.2 with ⟨e1, -⟩ | ⟨g5, cap5, cur5, e1, e2, -⟩
 ·rw [e1] at hq; simp [Value.ownBlock] at hq
 ·rw [e1] at hq
  simp [Value.ownBlock] at hq
  omega
theorem r6Prune_any (H : Dx w vb b g lv c x sw ws th l) (mv : Value) (more : List Int) (hm : Lrd w.heap.size w mv .i64 more) (hla : ∀ a, a ∈ l → Adr c x ws th a) (hms : ∀ a, a ∈ more → Adr c x ws th a) (hl : l.length ≤ 1073741824) (hml : more.length ≤ 1073741824) :
  Calls Tryz.prog 62 #[.pointer (some ⟨vb, 0, none⟩), mv] w fun e w' => e = .returned (.tuple #[]) ∧ Touch (dF vb b g lv) w w' ∧ ∃ lv' ws', Own2 w.heap.size lv lv' ∧ Kh th ws ws' ∧ Dx w' vb b g lv' c x sw ws' (mk_ (fun _ => true) (ded ((l ++ more).filter (hta c sw th))) (mk_ (fun _ => false) ((l ++ more).filter (fun a => !decide (a ∈ ded ((l ++ more).filter (hta c sw th))))) th)) (ded ((l ++ more).filter (hta c sw th))) := by
 have k1 : w.cell? ⟨vb, 1, none⟩ = some lv := H.cell 1
 have Hrd : Hid (Lrd w.heap.size w lv .i64 l) := Lrd.of_row H.row
 obtain ⟨i0, hi0, hj0, hj1, hj2⟩ := info_parts Tryz.infoInt
 have HI : Hid (Tryz.prog.info? 3 = some i0 ∧ i0.zero = some (.int .i64 0) ∧ i0.size = 1 ∧ i0.bytes = 8) := ⟨hi0, hj0, hj1, hj2⟩
 obtain ⟨ad, nn, cp, rfl⟩ := row_slice H.row
 have HD : Hid (Dx w vb b g (.slice ad nn cp) c x sw ws th l) := H
 have Hm : Hid (Lrd w.heap.size w mv .i64 more) := hm
 have HA : Hid (∀ a, a ∈ l ++ more → Adr c x ws th a) := fun a ha => by
  rcases List.mem_append.1 ha with h | h
  ·exact hla a h
  ·exact hms a h
 obtain ⟨am, cm, rfl, -, -⟩ := hm
 clear H hi0 hj0 hj1 hj2 hla hms
 obtain ⟨xs, hxs⟩ : ∃ xs, xs = l ++ more := ⟨_, rfl⟩
 rw [← hxs] at HA ⊢
 obtain ⟨q, hq⟩ : ∃ q, q = hta c sw th := ⟨_, rfl⟩
 rw [← hq]
 have Hq : Hid (q = hta c sw th) := hq
 have Hxs : Hid (xs = l ++ more) := hxs
 clear hxs hq
 go_enter Tryz.func62, Tryz.ntmps62
 go_upto_region 2 with (at_builtin; refine wpList_append_copy rfl _ _ 32 rfl .i64 3 i0 8 Tryz.underlying32 HI.out.1 HI.out.2.1 HI.out.2.2.1 HI.out.2.2.2 (by decide) rfl (.slice ad nn cp) l _ rfl Hrd.out (by omega) ?_; intro v1 w1 hown1 hbel1)
 have hnews := (Lrd.news ((Hm.out.below hbel1).mono hbel1.size)).2
 have hb1 := hbel1.size
 obtain ⟨a1, c1, hv1⟩ := own_sl hown1
 go_upto_region 3 with (at_builtin; refine Kg.wpList_append_row rfl _ _ 32 rfl w.heap.size 3 i0 (.int .i64 0) 8 Tryz.underlying32 HI.out.1 HI.out.2.1 HI.out.2.2.1 HI.out.2.2.2 rfl v1 l.length (ints l) rfl hown1 am more.length cm (ints more) (by simp) rfl hnews (ints_one1 more) (by unfold maxLen; omega) (by omega) hb1 ?_; intro v2 w2 hown2 hgr2 _ hat2 _)
 have hxs := Hxs.out
 have hxl : xs.length = l.length + more.length := by rw [hxs, List.length_append]
 have Hall : Hid (w2.ownsRow w.heap.size 3 1 v2 xs.length (ints xs)) := by
  show w2.ownsRow _ _ _ _ _ _
  rw [hxl, hxs]
  show w2.ownsRow _ _ _ _ _ (List.map _ _)
  rw [List.map_append]
  exact hown2
 have Hb2 : Hid (Below w.heap.size w w2) := hbel1.grown hgr2 hb1 (fun y hy => row_ge hown1 y hy)
 have hxb : xs.length ≤ 2147483648 := by omega
 clear hown1 hown2 hgr2 hat2 hnews hbel1 hxl hxs hv1 hb1 k1 Hrd Hm hl hml
 obtain ⟨aa, ca, rfl⟩ := own_sl Hall.out
 go_wp2
 go_loopw [5, 6] (fun v5 v6 wr => ∃ k : Nat, k ≤ xs.length ∧ v6 = .int .i64 k ∧ Hid (wr.ownsRow w.heap.size 3 1 v5 (ded ((xs.take k).filter q)).length (ints (ded ((xs.take k).filter q)))) ∧ Hid (Below w.heap.size w wr) ∧ Hid (wr.ownsRow w.heap.size 3 1 (.slice aa xs.length ca) xs.length (ints xs)) ∧ Hid (∀ y, v5.ownBlock = some y → (Value.slice aa xs.length ca).ownBlock ≠ some y)) (fun _ v6 _ => xs.length - (intOf v6).toNat)
 case atStart => exact ⟨0, Nat.zero_le _, rfl, World.ownsRow_nil _ _ _ _, Hb2, Hall, (fun y hy => by simp [Value.ownBlock] at hy : ∀ y, (Value.slice none 0 0).ownBlock = some y → (Value.slice aa xs.length ca).ownBlock ≠ some y)⟩
 case round =>
  obtain ⟨k, hk, rfl, Hl, Hb, Hx, Hfar⟩ := hrel
  clear Hall Hb2
  obtain ⟨al, cl, hvl⟩ := own_sl Hl.out
  subst hvl
  by_cases hkl : k < xs.length
  ·have hkI : (k : Int) < (xs.length : Int) := by omega
   have hak : xs[k]? = some (xs[k]'hkl) := List.getElem?_eq_getElem hkl
   generalize xs[k]'hkl = a at hak
   have Hak : Hid (xs[k]? = some a) := hak
   have Htk : Hid (xs.take (k + 1) = xs.take k ++ [a]) := by
    show _ = _
    rw [List.take_add_one, hak]
    rfl
   obtain ⟨qa, ea, hqa, ca'⟩ : ∃ qa, aa = some ⟨qa, 0, none⟩ ∧ qa < wr.heap.size ∧ wr.cell? ⟨qa, k, none⟩ = some (.int .i64 a) := by
    obtain ⟨a0, cp0, h1, -, h3⟩ := row_at (row_zero0 Hx.out) (by decide)
    simp at h1
    obtain ⟨y, h4, h6, h5⟩ := h3 k (.int .i64 a) (by rw [List.getElem?_map, hak]; rfl)
    exact ⟨y, by rw [h1.1, h4], h6, h5⟩
   subst ea
   have HAa : Hid (Adr c x ws th a) := HA.out a (List.mem_of_getElem? hak)
   have HDr : Hid (Dx wr vb b g (.slice ad nn cp) c x sw ws th l) := HD.out.below Hb.out
   have k0 : wr.cell? ⟨vb, 0, none⟩ = some (.pointer (some ⟨b, 0, none⟩)) := HDr.out.cell 0
   have hvl : vb < wr.heap.size := HDr.out.lt
   obtain ⟨s1, k1, p1, r1, y1, t1, h1, fl, hfl, hh⟩ := Rx.head_adr (sw := sw) (b := b) (g := g) a HAa.out
   have Hfl : Hid (fl = false → q a = false) := by rw [Hq.out]; exact hfl
   obtain ⟨yb, hyb, hyc⟩ := r6Holds_adr (sw := sw) (b := b) (g := g) HDr.out.rx.hp.hl a HAa.out
   have Hyb : Hid (q a = (decide (spc c a = 4) && yb)) := by rw [Hq.out]; exact hyb
   have HH : Hid (∀ w', Below wr.heap.size wr w' → Calls Tryz.prog 75 #[.pointer (some ⟨b, 0, none⟩), .int .i64 a] w' fun e w'' => e = .returned (.tuple #[hv s1 k1 p1 r1 y1 t1 h1, .bool fl]) ∧ Below w'.heap.size w' w'') := fun w' l => hh (HDr.out.below l).rx
   have HHo : Hid (∀ w', Below wr.heap.size wr w' → Calls Tryz.prog 67 #[.pointer (some ⟨b, 0, none⟩), .int .i64 a] w' fun e w'' => e = .returned (.bool yb) ∧ Below w'.heap.size w' w'') := fun w' l => hyc (HDr.out.below l).rx
   have HSp : Hid (∀ w', Below wr.heap.size wr w' → Calls Tryz.prog 99 #[.pointer (some ⟨b, 0, none⟩), .int .i64 a] w' fun e w'' => e = .returned (.int .i64 (spc c a)) ∧ Below w'.heap.size w' w'') := fun w' l => rspaceof_any b g c x sw ws a w' (HDr.out.below l).rx.ra
   have HHa : Hid (∀ w', Below wr.heap.size wr w' → Calls Tryz.prog 70 #[.slice al (ded ((xs.take k).filter q)).length cl, .int .i64 a] w' fun e w'' => e = .returned (.bool (decide (a ∈ ded ((xs.take k).filter q)))) ∧ Below w'.heap.size w' w'') := fun w' l => by
    have hr2 := row_keep (row_zero0 Hl.out) (fun y hy => l.block y (row_lt Hl.out y hy))
    refine (r6has_any _ _ (ded ((xs.take k).filter q)) a w' (Lrd.of_row hr2) ?_).mono (fun e w'' h => ⟨h.1, h.2 ▸ Below.refl _ _⟩)
    have h1 := ded_len ((xs.take k).filter q)
    have h2 := List.length_filter_le q (xs.take k)
    have h3 := List.length_take_le k xs
    omega
   haveI hinh : Inhabited (Kg.Bel wr) := ⟨⟨wr, Below.refl _ _⟩⟩
   have u0 : ∀ p : Kg.Bel wr, p.v.cell? ⟨vb, 0, none⟩ = some (.pointer (some ⟨b, 0, none⟩)) := fun p => (p.h.cell (p := ⟨vb, 0, none⟩) hvl).trans k0
   have u1 : ∀ p : Kg.Bel wr, p.v.cell? ⟨qa, k, none⟩ = some (.int .i64 a) := fun p => (p.h.cell (p := ⟨qa, k, none⟩) hqa).trans ca'
   clear hak hfl hh hyb hyc
   go_upto_region 7 with fail
   refine Kg.alloc_pure 8 9 12 _ _ 38 _ rfl rfl rfl rfl head_alloc Kg.mixed (by kernel_rfl) ?_
   simp only [List.take_succ_cons, List.take_zero, List.drop_succ_cons, List.drop_zero, Nat.reduceAdd]
   repeat (go_big_quiet_step (fail))
   refine wpQuiet_nil ⟨.tuple #[hv s1 k1 p1 r1 y1 t1 h1, .bool fl], .inl ⟨rfl, ?_⟩, ?_⟩
   ·rintro _ ⟨p, rfl⟩
    refine .inr ⟨75, #[.pointer (some ⟨b, 0, none⟩), .int .i64 a], ?_, (HH.out _ p.h).mono fun _ _ h => ⟨h.1, h.2⟩⟩
    have hE := enters_rhead (#[.pointer (some ⟨b, 0, none⟩), .int .i64 a] : Array Value) p.v
    simp [Act.eval, hE, go_sem]
   simp only [Act.put, List.setIfInBounds_toArray, List.set_cons_succ, List.set_cons_zero]
   repeat (go_big_quiet_step (fail))
   refine wpQuiet_nil ⟨hv s1 k1 p1 r1 y1 t1 h1, .inl ⟨rfl, fun w => ?_⟩, ?_⟩
   ·simp [execOp, go_sem]
   simp only [Act.put, List.setIfInBounds_toArray, List.set_cons_succ, List.set_cons_zero]
   refine ⟨.bool fl, .inl ⟨rfl, fun w => ?_⟩, ?_⟩
   ·simp [execOp, go_sem]
   simp only [Act.put, List.setIfInBounds_toArray, List.set_cons_succ, List.set_cons_zero]
   rintro ⟨v4, b4⟩ X hX hob
   simp only [List.setIfInBounds_toArray, List.set_cons_succ, List.set_cons_zero]
   go_wp2_with (refine wpList_store_row rfl 38 _ _ rfl X (hcells s1 k1 p1 r1 y1 t1 h1) rfl rfl 38 _ hob hinfo7 rfl (by kernel_rfl) ?_)
   refine NoPanic.normal ?_
   have B5 : Below wr.heap.size wr (v4.setRow X (hcells s1 k1 p1 r1 y1 t1 h1)) := below_setRow b4 hX _
   clear u0 u1 hinh hob HH
   generalize v4.setRow X (hcells s1 k1 p1 r1 y1 t1 h1) = v5 at *
   go_upto_region 8 with fail
   haveI hinh : Inhabited (Kg.Bel v5) := ⟨⟨v5, Below.refl _ _⟩⟩
   have hbp : ∀ p : Kg.Bel v5, Below wr.heap.size wr p.v := fun p => B5.trans (p.h.mono B5.size)
   have u0 : ∀ p : Kg.Bel v5, p.v.cell? ⟨vb, 0, none⟩ = some (.pointer (some ⟨b, 0, none⟩)) := fun p => ((hbp p).cell (p := ⟨vb, 0, none⟩) hvl).trans k0
   have u1 : ∀ p : Kg.Bel v5, p.v.cell? ⟨qa, k, none⟩ = some (.int .i64 a) := fun p => ((hbp p).cell (p := ⟨qa, k, none⟩) hqa).trans ca'
   have HS5 : Hid (∀ p : Kg.Bel v5, Calls Tryz.prog 99 #[.pointer (some ⟨b, 0, none⟩), .int .i64 a] p.v fun e w'' => e = .returned (.int .i64 (spc c a)) ∧ Below p.v.heap.size p.v w'') := fun p => HSp.out _ (hbp p)
   have HO5 : Hid (∀ p : Kg.Bel v5, Calls Tryz.prog 67 #[.pointer (some ⟨b, 0, none⟩), .int .i64 a] p.v fun e w'' => e = .returned (.bool yb) ∧ Below p.v.heap.size p.v w'') := fun p => HHo.out _ (hbp p)
   have HA5 : Hid (∀ p : Kg.Bel v5, Calls Tryz.prog 70 #[.slice al (ded ((xs.take k).filter q)).length cl, .int .i64 a] p.v fun e w'' => e = .returned (.bool (decide (a ∈ ded ((xs.take k).filter q)))) ∧ Below p.v.heap.size p.v w'') := fun p => HHa.out _ (hbp p)
   have HB5 : Hid (Below wr.heap.size wr v5) := B5
   clear hbp b4 hX HSp HHo HHa B5 k0 ca'
   have Hsame : Hid (q a = false ∨ a ∈ ded ((xs.take k).filter q) → ded ((xs.take (k + 1)).filter q) = ded ((xs.take k).filter q)) := fun h => by
    rw [Htk.out, List.filter_append]
    cases hqa : q a
    ·rw [List.filter_cons_of_neg (by simp [hqa]), List.filter_nil, List.append_nil]
    ·rw [List.filter_cons_of_pos hqa, List.filter_nil, ded_snoc]
     unfold ded1
     rcases h with h | h
     ·rw [hqa] at h; cases h
     ·rw [if_pos h]
   have Hmore : Hid (q a = true → a ∉ ded ((xs.take k).filter q) → ded ((xs.take (k + 1)).filter q) = ded ((xs.take k).filter q) ++ [a]) := fun h h2 => by
    rw [Htk.out, List.filter_append, List.filter_cons_of_pos h, List.filter_nil, ded_snoc]
    unfold ded1
    rw [if_neg h2]
   cases fl
   case false =>
    have Hnx : Hid (ded ((xs.take (k + 1)).filter q) = ded ((xs.take k).filter q)) := Hsame.out (.inl (Hfl.out rfl))
    clear Hsame Hmore Hfl Hyb HAa HDr
    refine Kg.region_below Kg.mixed (by kernel_rfl) ?_
    repeat (go_big_quiet_step (first | with_reducible exact Kg.calls_bel (HS5.out _) | with_reducible exact Kg.calls_bel (HO5.out _) | with_reducible exact Kg.calls_bel (HA5.out _)))
    refine wpQuiet_nil ?_
    rintro v6 ⟨⟨_, b6⟩, rfl⟩
    have B6 : Below wr.heap.size wr v6 := HB5.out.trans (b6.mono HB5.out.size)
    have Hl6 : Hid (v6.ownsRow w.heap.size 3 1 (.slice al (ded ((xs.take k).filter q)).length cl) (ded ((xs.take (k + 1)).filter q)).length (ints (ded ((xs.take (k + 1)).filter q)))) := by
     show v6.ownsRow _ _ _ _ _ _
     rw [Hnx.out]
     exact row_keep Hl.out (fun y hy => B6.block y (row_lt Hl.out y hy))
    have Hx6 : Hid (v6.ownsRow w.heap.size 3 1 (.slice (some ⟨qa, 0, none⟩) xs.length ca) xs.length (ints xs)) := row_keep Hx.out (fun y hy => B6.block y (row_lt Hx.out y hy))
    have Hb6 : Hid (Below w.heap.size w v6) := Hb.out.trans (B6.mono Hb.out.size)
    clear u0 u1 HS5 HO5 HA5 hinh HB5 b6 B6 Hl Hx Hb
    go_wp2
    go_roundw
    case rel => exact ⟨k + 1, by omega, by go_num, Hl6, Hb6, Hx6, Hfar⟩
    case measure => simp [intOf]; omega
   by_cases h4 : spc c a = 4
   case neg =>
    have hb4 : (spc c a == 4) = false := by simpa using h4
    have Hnx : Hid (ded ((xs.take (k + 1)).filter q) = ded ((xs.take k).filter q)) := Hsame.out (.inl (by rw [Hyb.out, decide_eq_false h4]; rfl))
    clear Hsame Hmore Hfl Hyb HAa HDr
    refine Kg.region_below Kg.mixed (by kernel_rfl) ?_
    repeat (go_big_quiet_step (first | with_reducible exact Kg.calls_bel (HS5.out _) | with_reducible exact Kg.calls_bel (HO5.out _) | with_reducible exact Kg.calls_bel (HA5.out _)))
    refine wpQuiet_nil ?_
    rintro v6 ⟨⟨_, b6⟩, rfl⟩
    have B6 : Below wr.heap.size wr v6 := HB5.out.trans (b6.mono HB5.out.size)
    have Hl6 : Hid (v6.ownsRow w.heap.size 3 1 (.slice al (ded ((xs.take k).filter q)).length cl) (ded ((xs.take (k + 1)).filter q)).length (ints (ded ((xs.take (k + 1)).filter q)))) := by
     show v6.ownsRow _ _ _ _ _ _
     rw [Hnx.out]
     exact row_keep Hl.out (fun y hy => B6.block y (row_lt Hl.out y hy))
    have Hx6 : Hid (v6.ownsRow w.heap.size 3 1 (.slice (some ⟨qa, 0, none⟩) xs.length ca) xs.length (ints xs)) := row_keep Hx.out (fun y hy => B6.block y (row_lt Hx.out y hy))
    have Hb6 : Hid (Below w.heap.size w v6) := Hb.out.trans (B6.mono Hb.out.size)
    clear u0 u1 HS5 HO5 HA5 hinh HB5 b6 B6 Hl Hx Hb
    go_wp2
    go_roundw
    case rel => exact ⟨k + 1, by omega, by go_num, Hl6, Hb6, Hx6, Hfar⟩
    case measure => simp [intOf]; omega
   rw [h4] at HS5
   cases yb
   case false =>
    have Hnx : Hid (ded ((xs.take (k + 1)).filter q) = ded ((xs.take k).filter q)) := Hsame.out (.inl (by rw [Hyb.out, Bool.and_false]))
    clear Hsame Hmore Hfl Hyb HAa HDr
    refine Kg.region_below Kg.mixed (by kernel_rfl) ?_
    repeat (go_big_quiet_step (first | with_reducible exact Kg.calls_bel (HS5.out _) | with_reducible exact Kg.calls_bel (HO5.out _) | with_reducible exact Kg.calls_bel (HA5.out _)))
    refine wpQuiet_nil ?_
    rintro v6 ⟨⟨_, b6⟩, rfl⟩
    have B6 : Below wr.heap.size wr v6 := HB5.out.trans (b6.mono HB5.out.size)
    have Hl6 : Hid (v6.ownsRow w.heap.size 3 1 (.slice al (ded ((xs.take k).filter q)).length cl) (ded ((xs.take (k + 1)).filter q)).length (ints (ded ((xs.take (k + 1)).filter q)))) := by
     show v6.ownsRow _ _ _ _ _ _
     rw [Hnx.out]
     exact row_keep Hl.out (fun y hy => B6.block y (row_lt Hl.out y hy))
    have Hx6 : Hid (v6.ownsRow w.heap.size 3 1 (.slice (some ⟨qa, 0, none⟩) xs.length ca) xs.length (ints xs)) := row_keep Hx.out (fun y hy => B6.block y (row_lt Hx.out y hy))
    have Hb6 : Hid (Below w.heap.size w v6) := Hb.out.trans (B6.mono Hb.out.size)
    clear u0 u1 HS5 HO5 HA5 hinh HB5 b6 B6 Hl Hx Hb
    go_wp2
    go_roundw
    case rel => exact ⟨k + 1, by omega, by go_num, Hl6, Hb6, Hx6, Hfar⟩
    case measure => simp [intOf]; omega
   by_cases hm : a ∈ ded ((xs.take k).filter q)
   ·have HA5' : Hid (∀ p : Kg.Bel v5, Calls Tryz.prog 70 #[.slice al (ded ((xs.take k).filter q)).length cl, .int .i64 a] p.v fun e w'' => e = .returned (.bool true) ∧ Below p.v.heap.size p.v w'') := fun p => by
     have := HA5.out p
     rw [decide_eq_true hm] at this
     exact this
    clear HA5
    have Hnx : Hid (ded ((xs.take (k + 1)).filter q) = ded ((xs.take k).filter q)) := Hsame.out (.inr hm)
    clear Hsame Hmore Hfl Hyb HAa HDr
    refine Kg.region_below Kg.mixed (by kernel_rfl) ?_
    repeat (go_big_quiet_step (first | with_reducible exact Kg.calls_bel (HS5.out _) | with_reducible exact Kg.calls_bel (HO5.out _) | with_reducible exact Kg.calls_bel (HA5'.out _)))
    refine wpQuiet_nil ?_
    rintro v6 ⟨⟨_, b6⟩, rfl⟩
    have B6 : Below wr.heap.size wr v6 := HB5.out.trans (b6.mono HB5.out.size)
    have Hl6 : Hid (v6.ownsRow w.heap.size 3 1 (.slice al (ded ((xs.take k).filter q)).length cl) (ded ((xs.take (k + 1)).filter q)).length (ints (ded ((xs.take (k + 1)).filter q)))) := by
     show v6.ownsRow _ _ _ _ _ _
     rw [Hnx.out]
     exact row_keep Hl.out (fun y hy => B6.block y (row_lt Hl.out y hy))
    have Hx6 : Hid (v6.ownsRow w.heap.size 3 1 (.slice (some ⟨qa, 0, none⟩) xs.length ca) xs.length (ints xs)) := row_keep Hx.out (fun y hy => B6.block y (row_lt Hx.out y hy))
    have Hb6 : Hid (Below w.heap.size w v6) := Hb.out.trans (B6.mono Hb.out.size)
    clear u0 u1 HS5 HO5 HA5' hinh HB5 b6 B6 Hl Hx Hb
    go_wp2
    go_roundw
    case rel => exact ⟨k + 1, by omega, by go_num, Hl6, Hb6, Hx6, Hfar⟩
    case measure => simp [intOf]; omega
   ·have Hnx : Hid (ded ((xs.take (k + 1)).filter q) = ded ((xs.take k).filter q) ++ [a]) := Hmore.out (by rw [Hyb.out, h4]; rfl) hm
    have Hdl : Hid ((ded ((xs.take k).filter q)).length ≤ 2147483648) := by
     have h1 := ded_len ((xs.take k).filter q)
     have h2 := List.length_filter_le q (xs.take k)
     have h3 := List.length_take_le k xs
     show _ ≤ _
     omega
    have HA5' : Hid (∀ p : Kg.Bel v5, Calls Tryz.prog 70 #[.slice al (ded ((xs.take k).filter q)).length cl, .int .i64 a] p.v fun e w'' => e = .returned (.bool false) ∧ Below p.v.heap.size p.v w'') := fun p => by
     have := HA5.out p
     rw [decide_eq_false hm] at this
     exact this
    clear Hsame Hmore Hfl Hyb HAa HDr HA5 hm
    refine Kg.region_below Kg.mixed (by kernel_rfl) ?_
    repeat (go_big_quiet_step (first | with_reducible exact Kg.calls_bel (HS5.out _) | with_reducible exact Kg.calls_bel (HO5.out _) | with_reducible exact Kg.calls_bel (HA5'.out _)))
    refine wpQuiet_nil ?_
    rintro v6 ⟨⟨_, b6⟩, rfl⟩
    have B6 : Below wr.heap.size wr v6 := HB5.out.trans (b6.mono HB5.out.size)
    have c6 : v6.cell? ⟨qa, k, none⟩ = some (.int .i64 a) := u1 ⟨v6, b6⟩
    have Hl6 : Hid (v6.ownsRow w.heap.size 3 1 (.slice al (ded ((xs.take k).filter q)).length cl) (ded ((xs.take k).filter q)).length (ints (ded ((xs.take k).filter q)))) := row_keep Hl.out (fun y hy => B6.block y (row_lt Hl.out y hy))
    have Hx6 : Hid (v6.ownsRow w.heap.size 3 1 (.slice (some ⟨qa, 0, none⟩) xs.length ca) xs.length (ints xs)) := row_keep Hx.out (fun y hy => B6.block y (row_lt Hx.out y hy))
    have Hb6 : Hid (Below w.heap.size w v6) := Hb.out.trans (B6.mono Hb.out.size)
    have Hsz : Hid (w.heap.size ≤ v6.heap.size) := Hb6.out.size
    clear u0 u1 HS5 HO5 HA5' hinh HB5 b6 B6 Hl Hx Hb
    go_wp2_with (at_builtin; refine wpList_append_own_at _ rfl _ _ 32 rfl w.heap.size 3 i0 (.int .i64 0) 1 8 Tryz.underlying32 HI.out.1 HI.out.2.1 HI.out.2.2.1 HI.out.2.2.2 rfl (by decide) _ _ _ rfl (Hl6.out.alloc _) ⟨v6.heap.size, 0, none⟩ 1 1 [.int .i64 a] rfl rfl (cell_one_new _ _ _) (by simp [Value.oneCell']) (by have := Hdl.out; simp [maxLen]; omega) (by have := Hdl.out; omega) (by have := Hsz.out; simp; omega) ?_; intro v' w8 hown' hgrow _ hat)
    have t8 : Touch (Value.slice al (ded ((xs.take k).filter q)).length cl).ownBlock.toList v6 w8 := ⟨hgrow.os, hgrow.tape, hgrow.output, by have := hgrow.size; simp at this; omega, fun k hk hn => (hgrow.block k (by simp; omega) (fun e => hn (by rw [Option.mem_toList]; exact e.symm))).trans (Below.heap_alloc _ _ _ hk)⟩
    have Hl8 : Hid (w8.ownsRow w.heap.size 3 1 v' (ded ((xs.take (k + 1)).filter q)).length (ints (ded ((xs.take (k + 1)).filter q)))) := by
     show w8.ownsRow _ _ _ _ _ _
     rw [Hnx.out]
     simpa [ints] using hown'
    have Hx8 : Hid (w8.ownsRow w.heap.size 3 1 (.slice (some ⟨qa, 0, none⟩) xs.length ca) xs.length (ints xs)) := row_keep Hx6.out (fun y hy => t8.block y (row_lt Hx6.out y hy) (fun hm => by
     rw [Option.mem_toList] at hm
     exact Hfar.out y hm hy))
    have Hb8 : Hid (Below w.heap.size w w8) := Hb6.out.trans (t8.below Hb6.out.size (fun y hy => by rw [Option.mem_toList] at hy; exact row_ge Hl6.out y hy))
    have Hfar8 : Hid (∀ y, v'.ownBlock = some y → (Value.slice (some ⟨qa, 0, none⟩) xs.length ca).ownBlock ≠ some y) := fun y hy e => by
     rcases hat with h | h
     ·exact Hfar.out y (h.symm.trans hy) e
     ·rw [h] at hy
      have := row_lt Hx6.out y e
      simp at hy
      omega
    obtain ⟨a9, c9, hv9⟩ := own_sl Hl8.out
    subst hv9
    clear hown' hgrow hat t8 Hl6 Hx6 Hb6 Hfar c6
    go_roundw
    case rel => exact ⟨k + 1, by omega, by go_num, Hl8, Hb8, Hx8, Hfar8⟩
    case measure => simp [intOf]; omega
  ·have hke : k = xs.length := by omega
   have Hl2 : Hid (wr.ownsRow w.heap.size 3 1 (.slice al (ded ((xs.take k).filter q)).length cl) (ded (xs.filter q)).length (ints (ded (xs.filter q)))) := by
    have := Hl.out
    rw [hke, List.take_length] at this ⊢
    exact this
   have HDr : Hid (Dx wr vb b g (.slice ad nn cp) c x sw ws th l) := HD.out.below Hb.out
   have hkn : ¬ (k : Int) < (xs.length : Int) := by omega
   have hlen : (ded (xs.filter q)).length ≤ xs.length := by
    have h1 := ded_len (xs.filter q)
    have h2 := List.length_filter_le q xs
    omega
   have hla := r6laid_any HDr.out _ (.slice aa xs.length ca) (ded (xs.filter q)) xs (row_zero0 Hl2.out) (row_zero0 Hx.out) (fun a ha => HA.out a (List.mem_filter.1 ((mem_ded _ a).1 ha)).1) HA.out (by omega) (by omega)
   have Hge : Hid (∀ y, (Value.slice al (ded ((xs.take k).filter q)).length cl).ownBlock = some y → w.heap.size ≤ y) := fun y hy => row_ge Hl2.out y hy
   clear Hl Hx hlen hke
   go_wp2_with fail
   refine hla.mono ?_
   rintro e w7 ⟨rfl, t7, ws7, K7, D7⟩
   have HT7 : Hid (Touch (dF vb b g (.slice ad nn cp)) w w7) := (Touch.of_below Hb.out _).trans (t7.wide (fun y hy => by
    rcases List.mem_cons.1 hy with h | h
    ·exact mem_dF.2 (.inl h)
    ·exact mem_dF.2 (.inr (.inl h))))
   have HK7 : Hid (Kh th ws ws7) := K7
   have HD7 := D7
   clear hla t7 K7
   go_wp2
   go_end0
   exact ⟨rfl, HT7.out, _, ws7, fun y hy => .inr (Hge.out y hy), HK7.out, HD7⟩
end
end Go.Proofs.YtlkengnefhhppaaGreatDoor
