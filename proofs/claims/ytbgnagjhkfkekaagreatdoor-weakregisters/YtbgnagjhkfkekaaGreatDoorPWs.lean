import Derived.Test.YtbgnagjhkfkekaaGreatDoorY11
import Derived.Test.YtbgnagjhkfkekaaGreatDoorPWa
import Derived.Test.YtbgnagjhkfkekaaGreatDoorYQ
/-
  WeakRegisters: Stands: a thing of a lay stands in the arena that was built of it.
-/
set_option linter.unusedVariables false
set_option maxRecDepth 20000
namespace Go.Proofs.YtbgnagjhkfkekaaGreatDoor
open Go.RowKit Go.Shelf

theorem Ax.raw {w : World} {b g : Nat} {c : Cfg} {x : Tps} {sw : Bool} {ws : Nat → Int} {th : List Tng} (H : Ax w b g c x sw ws th) {T : Tng} (hT : T ∈ th) (f : Nat) (z : Int) (hz : T.rs[f]? = some z) : Calls Tryz.prog 88 #[.pointer (some ⟨b, 0, none⟩), .int .i64 T.at_, .int .i64 f] w fun e w' => e = .returned (.tuple #[.int .u64 z, .bool true]) ∧ Below w.heap.size w w' := by
  obtain ⟨s, s1, s4, -, hsp, hlt, hst, hge, -⟩ := H.hl.stands H.ar hT
  obtain ⟨e1, e2, e3, e4, e5, e6, e7⟩ := H.hl.hds T hT
  have h1 := H.hl.rsv T hT f z hz
  have hf := (List.getElem?_eq_some_iff.1 hz).1
  have hn := H.hl.rsn T hT
  have := raw_yes b g c x sw ws T.at_ s f hsp (by omega) hlt hst (by rw [e4]; omega) w H.ar H.la
  rw [e3, h1] at this
  exact this

theorem place_enters : ∀ args w, (callFunc 26 args).run Tryz.prog w = .ok (.enter 26 args) w := enters_of Tryz.func26 (by kernel_rfl) rfl

section
variable {w1 w w' : World} {n1 lb b g : Nat} {c : Cfg} {x : Tps} {sw : Bool} {ws : Nat → Int} {th : List Tng} {L : List LT}

set_option maxHeartbeats 4000000 in
theorem yStands_yes (hl : Ly n1 w lb c L) (hn1 : n1 ≤ w.heap.size) (ok : LOk c L) (HA : Ax w b g c x sw ws th) {i : Nat} {o : LT} (hT : L[i]? = some o) {T : Tng} (hm : T ∈ th) (hMt : Mt T o) (hps : T.ps = o.ps.map (plc L)) (hrs : T.rs = o.rs) (hh : T.h = o.h) (hz : ∀ z, z ∈ o.ps → InI z) :
    Calls Tryz.prog 54 #[.pointer (some ⟨lb, 0, none⟩), .pointer (some ⟨b, 0, none⟩), .int .i64 ((i : Int) + 1), .int .i64 o.at_, .func (.func 26) #[.pointer (some ⟨lb, 0, none⟩)] #[]] w fun e w' => e = .returned (.bool true) ∧ Below w.heap.size w w' := by
  have hi := (List.getElem?_eq_some_iff.1 hT).1
  have hlen := ok.len
  obtain ⟨q, off, cap, q', off', cap', l14, l15, cs, ka, hq, hq', hcp⟩ := hl.thing hT
  obtain ⟨-, hvps, hvrs, -⟩ : o.In ∧ Lrd n1 w o.vp .i64 o.ps ∧ Lrd n1 w o.vr .u64 o.rs ∧ True := by
    obtain ⟨v, -, a, cp, -, h2⟩ := hl.things
    obtain ⟨h3, h4, h5, -⟩ := h2 i o hT
    exact ⟨h3, h4, h5, trivial⟩
  obtain ⟨p1, p3, hvp, -, hpc⟩ := hvps
  obtain ⟨r1, r3, hvr, -, hrc⟩ := hvrs
  have d0 : w.cell? ⟨q, off + i * 11, none⟩ = some (.int .i64 o.sp) := cs 0 (by decide)
  have d1 : w.cell? ⟨q, off + i * 11 + 1, none⟩ = some (.int .u64 o.s) := cs 1 (by decide)
  have d2 : w.cell? ⟨q, off + i * 11 + 2, none⟩ = some (.int .i64 o.k) := cs 2 (by decide)
  have d3 : w.cell? ⟨q, off + i * 11 + 3, none⟩ = some (.int .i64 o.p) := cs 3 (by decide)
  have d4 : w.cell? ⟨q, off + i * 11 + 4, none⟩ = some (.int .i64 o.r) := cs 4 (by decide)
  have d5 : w.cell? ⟨q, off + i * 11 + 5, none⟩ = some (.int .i64 o.a) := cs 5 (by decide)
  have d6 : w.cell? ⟨q, off + i * 11 + 6, none⟩ = some (.int .i64 o.t) := cs 6 (by decide)
  have d7 : w.cell? ⟨q, off + i * 11 + 7, none⟩ = some (.bool o.h) := cs 7 (by decide)
  have d8 : w.cell? ⟨q, off + i * 11 + 8, none⟩ = some o.vp := cs 8 (by decide)
  have d9 : w.cell? ⟨q, off + i * 11 + 9, none⟩ = some o.vr := cs 9 (by decide)
  have d10 : w.cell? ⟨q, off + i * 11 + 10, none⟩ = some (.int .i64 o.fill) := cs 10 (by decide)
  rw [hvp] at d8
  rw [hvr] at d9
  have HL : Hid (Ly n1 w lb c L ∧ L.length ≤ 400 ∧ n1 ≤ w.heap.size) := ⟨hl, hlen, hn1⟩
  have HX : Hid (Ax w b g c x sw ws th) := HA
  have Hm : Hid (T ∈ th ∧ T.at_ = o.at_ ∧ T.ps = o.ps.map (plc L) ∧ T.rs = o.rs) := ⟨hm, hMt.at_, hps, hrs⟩
  have Hz : Hid (∀ z, z ∈ o.ps → InI z) := hz
  have Hpc : Hid (∀ (f : Nat) z, o.ps[f]? = some z → ∃ q off, p1 = some ⟨q, off, none⟩ ∧ q < n1 ∧ w.cell? ⟨q, off + f, none⟩ = some (.int .i64 z)) := hpc
  have Hrc : Hid (∀ (f : Nat) z, o.rs[f]? = some z → ∃ q off, r1 = some ⟨q, off, none⟩ ∧ q < n1 ∧ w.cell? ⟨q, off + f, none⟩ = some (.int .u64 z)) := hrc
  have hfew := (ok.plc i o hT).few
  have hiL : i < L.length := hi
  generalize hN : L.length = N at *
  have Hhd : Hid (∀ w1, Below w.heap.size w w1 → Calls Tryz.prog 32 #[.pointer (some ⟨b, 0, none⟩), .int .i64 o.at_] w1 fun e w' => e = .returned (.tuple #[hv o.s o.k o.p o.r o.a o.t o.h, .bool true]) ∧ Below w1.heap.size w1 w') := fun w1 l => by
    have h9 := (HA.below l).head hm
    rw [hMt.at_, hMt.s, hMt.k, hMt.p, hMt.r, hMt.a, hMt.t, hh] at h9
    exact h9
  have hent := place_enters
  clear hl HA hm hps hrs hz hpc hrc cs ok hT hh hMt
  have dd := Lc.new w o
  have lb0 : Below w.heap.size w (w.alloc (.cells o.cells 63)) := Below.alloc (Below.refl _ _) (Nat.le_refl _) _
  have hoc : o.cells = lcells o.sp o.s o.k o.p o.r o.a o.t o.h (.slice p1 o.ps.length p3) (.slice r1 o.rs.length r3) o.fill := by rw [← hvp, ← hvr]
  rw [hoc] at dd lb0
  have hii : ((i : Int) + 1 - 1).toNat = i := by omega
  have hi3 : (i : Int) < (N : Int) := by omega
  go_enter Tryz.func54, Tryz.ntmps54
  go_upto_region 2 with fail
  clear d0 d1 d2 d3 d4 d5 d6 d7 d8 d9 d10 ka l14 l15
  obtain ⟨v, hv⟩ : ∃ v, v = w.alloc (.cells (lcells o.sp o.s o.k o.p o.r o.a o.t o.h (.slice p1 o.ps.length p3) (.slice r1 o.rs.length r3) o.fill) 63) := ⟨_, rfl⟩
  obtain ⟨R, hR⟩ : ∃ R, R = w.heap.size := ⟨_, rfl⟩
  rw [← hv] at dd lb0 ⊢
  rw [← hR] at dd ⊢
  clear hv
  have HD : Hid (Lc v R o) := dd
  have HB : Hid (Below w.heap.size w v) := lb0
  have h1 := Hhd.out v lb0
  clear dd lb0 hR
  go_wp2_with fail
  refine h1.mono ?_
  rintro e v2 ⟨rfl, l2⟩
  have l3 := Below.alloc l2 l2.size (.cells (hcells o.s o.k o.p o.r o.a o.t o.h) 60)
  have hy := fun j => cell_of_row _ _ j _ _ _ (heap_alloc_new v2 (.cells (hcells o.s o.k o.p o.r o.a o.t o.h) 60 (0, 0)))
  have HD3 : Hid (Lc (v2.alloc (.cells (hcells o.s o.k o.p o.r o.a o.t o.h) 60)) R o) := HD.out.below l3
  have HB3 : Hid (Below w.heap.size w (v2.alloc (.cells (hcells o.s o.k o.p o.r o.a o.t o.h) 60))) := HB.out.trans (l3.mono HB.out.size)
  go_upto_region 3 with fail
  generalize v2.alloc (.cells (hcells o.s o.k o.p o.r o.a o.t o.h) 60) = v3 at *
  generalize v2.heap.size = R2 at *
  clear h1 l2 l3 HD HB
  have y0 : v3.cell? ⟨R2, 0, none⟩ = some (.int .u64 o.s) := hy 0
  have y1 : v3.cell? ⟨R2, 1, none⟩ = some (.int .i64 o.k) := hy 1
  have y2 : v3.cell? ⟨R2, 2, none⟩ = some (.int .i64 o.p) := hy 2
  have y3 : v3.cell? ⟨R2, 3, none⟩ = some (.int .i64 o.r) := hy 3
  have y4 : v3.cell? ⟨R2, 4, none⟩ = some (.int .i64 o.a) := hy 4
  have y5 : v3.cell? ⟨R2, 5, none⟩ = some (.int .i64 o.t) := hy 5
  have y6 : v3.cell? ⟨R2, 6, none⟩ = some (.bool o.h) := hy 6
  have z0 : v3.cell? ⟨R, 1, none⟩ = some (.int .u64 o.s) := HD3.out.cell 1
  have z1 : v3.cell? ⟨R, 2, none⟩ = some (.int .i64 o.k) := HD3.out.cell 2
  have z2 : v3.cell? ⟨R, 3, none⟩ = some (.int .i64 o.p) := HD3.out.cell 3
  have z3 : v3.cell? ⟨R, 4, none⟩ = some (.int .i64 o.r) := HD3.out.cell 4
  have z4 : v3.cell? ⟨R, 5, none⟩ = some (.int .i64 o.a) := HD3.out.cell 5
  have z5 : v3.cell? ⟨R, 6, none⟩ = some (.int .i64 o.t) := HD3.out.cell 6
  have z6 : v3.cell? ⟨R, 7, none⟩ = some (.bool o.h) := HD3.out.cell 7
  clear hy
  go_wp2
  clear y0 y1 y2 y3 y4 y5 y6 z0 z1 z2 z3 z4 z5 z6
  go_loopw [14] (fun v14 wr => ∃ f : Nat, f ≤ o.ps.length ∧ v14 = .int .i64 f ∧ Hid (Lc wr R o) ∧ Hid (Below w.heap.size w wr)) (fun v14 _ => o.ps.length - (intOf v14).toNat)
  case atStart => exact ⟨0, by omega, rfl, HD3, HB3⟩
  case round =>
    obtain ⟨f, hf, rfl, HDr, HBr⟩ := hrel
    clear HD3 HB3
    have e8 : wr.cell? ⟨R, 8, none⟩ = some (.slice p1 o.ps.length p3) := by rw [HDr.out.cell 8, hoc]; rfl
    by_cases hfl : f < o.ps.length
    · have hzf : o.ps[f]? = some (o.ps[f]'hfl) := List.getElem?_eq_getElem hfl
      generalize o.ps[f]'hfl = z at hzf
      obtain ⟨qz, oz, rfl, hqz, cz0⟩ := Hpc.out f z hzf
      have hptr := (HX.out.below HBr.out).ptr Hm.out.1 f (plc L z) (by rw [Hm.out.2.2.1, List.getElem?_map, hzf]; rfl)
      rw [Hm.out.2.1] at hptr
      have Hpl : Hid (∀ w5, Below w.heap.size w w5 → Calls Tryz.prog 26 #[.pointer (some ⟨lb, 0, none⟩), .int .i64 z] w5 fun e w' => e = .returned (.int .i64 (plc L z)) ∧ Below w5.heap.size w5 w') := fun w5 l5 => place_any (HL.out.1.below (l5.mono HL.out.2.2)) (Nat.le_trans HL.out.2.2 l5.size) (by rw [hN]; exact HL.out.2.1) z (Hz.out z (List.mem_of_getElem? hzf))
      have Hcz : Hid (w.cell? ⟨qz, oz + f, none⟩ = some (.int .i64 z)) := cz0
      have hfI : (f : Int) < (o.ps.length : Int) := by omega
      clear hzf cz0
      go_wp2_with fail
      refine hptr.mono ?_
      rintro e w5 ⟨rfl, l5⟩
      have HD5 : Hid (Lc w5 R o) := HDr.out.below l5
      have HB5 : Hid (Below w.heap.size w w5) := HBr.out.trans (l5.mono HBr.out.size)
      have hpl := Hpl.out w5 HB5.out
      have cz : w5.cell? ⟨qz, oz + f, none⟩ = some (.int .i64 z) := (HB5.out.cell (p := ⟨qz, oz + f, none⟩) (Nat.lt_of_lt_of_le hqz HL.out.2.2)).trans Hcz.out
      have e9 : w5.cell? ⟨R, 8, none⟩ = some (.slice (some ⟨qz, oz, none⟩) o.ps.length p3) := by rw [HD5.out.cell 8, hoc]; rfl
      clear hptr l5 HDr HBr e8 Hpl
      go_wp2_with fail
      refine hpl.mono ?_
      rintro e w6 ⟨rfl, l6⟩
      have HD6 : Hid (Lc w6 R o) := HD5.out.below l6
      have HB6 : Hid (Below w.heap.size w w6) := HB5.out.trans (l6.mono HB5.out.size)
      clear hpl l6 HD5 HB5 cz e9
      generalize plc L z = pz at *
      go_wp2
      go_roundw
      case rel => exact ⟨f + 1, by omega, by go_num, HD6, HB6⟩
      case measure => simp [intOf]; omega
    · have hfe : ¬ (f : Int) < (o.ps.length : Int) := by omega
      go_wp2
      clear e8
      go_loopw [17] (fun v17 wr => ∃ f : Nat, f ≤ o.rs.length ∧ v17 = .int .i64 f ∧ Hid (Lc wr R o) ∧ Hid (Below w.heap.size w wr)) (fun v17 _ => o.rs.length - (intOf v17).toNat)
      case atStart => exact ⟨0, by omega, rfl, HDr, HBr⟩
      case round =>
        obtain ⟨f2, hf2, rfl, HDs, HBs⟩ := hrel
        clear HDr HBr hfe
        have e9 : wr.cell? ⟨R, 9, none⟩ = some (.slice r1 o.rs.length r3) := by rw [HDs.out.cell 9, hoc]; rfl
        by_cases hfl2 : f2 < o.rs.length
        · have hzf : o.rs[f2]? = some (o.rs[f2]'hfl2) := List.getElem?_eq_getElem hfl2
          generalize o.rs[f2]'hfl2 = z at hzf
          obtain ⟨qz, oz, rfl, hqz, cz0⟩ := Hrc.out f2 z hzf
          have hraw := (HX.out.below HBs.out).raw Hm.out.1 f2 z (by rw [Hm.out.2.2.2]; exact hzf)
          rw [Hm.out.2.1] at hraw
          have Hcz : Hid (w.cell? ⟨qz, oz + f2, none⟩ = some (.int .u64 z)) := cz0
          have hfI : (f2 : Int) < (o.rs.length : Int) := by omega
          clear hzf cz0
          go_wp2_with fail
          refine hraw.mono ?_
          rintro e w5 ⟨rfl, l5⟩
          have HD5 : Hid (Lc w5 R o) := HDs.out.below l5
          have HB5 : Hid (Below w.heap.size w w5) := HBs.out.trans (l5.mono HBs.out.size)
          have cz : w5.cell? ⟨qz, oz + f2, none⟩ = some (.int .u64 z) := (HB5.out.cell (p := ⟨qz, oz + f2, none⟩) (Nat.lt_of_lt_of_le hqz HL.out.2.2)).trans Hcz.out
          have e9' : w5.cell? ⟨R, 9, none⟩ = some (.slice (some ⟨qz, oz, none⟩) o.rs.length r3) := by rw [HD5.out.cell 9, hoc]; rfl
          clear hraw l5 HDs HBs e9
          go_wp2
          go_roundw
          case rel => exact ⟨f2 + 1, by omega, by go_num, HD5, HB5⟩
          case measure => simp [intOf]; omega
        · have hfe : ¬ (f2 : Int) < (o.rs.length : Int) := by omega
          go_wp2
          go_ret
          exact ⟨rfl, HBs.out⟩
end

end Go.Proofs.YtbgnagjhkfkekaaGreatDoor

/-
  WeakRegisters: walked, Check (out of HC, HK).
-/
set_option linter.unusedVariables false
namespace Go.Proofs.YtbgnagjhkfkekaaGreatDoor
open Go.RowKit Go.Shelf

attribute [local go_sem] Oper.semAt_some

/-- Where the word behind the last object stands. -/
def ew (c : Cfg) (ws : Nat → Int) (f : Int) (l : List Int) : Int := (l.getLast?.map (fun a => a + osz c ws a)).getD f

theorem ew_snoc (c : Cfg) (ws : Nat → Int) (f : Int) (l : List Int) (a : Int) : ew c ws f (l ++ [a]) = a + osz c ws a := by simp [ew]

theorem ew_cons (c : Cfg) (ws : Nat → Int) (f a : Int) (l : List Int) : ew c ws f (a :: l) = ew c ws (a + osz c ws a) l := by
  unfold ew
  cases l with
  | nil => rfl
  | cons y l => rw [List.getLast?_cons_cons]; cases h : (y :: l).getLast? with
    | none => simp at h
    | some z => rfl

theorem walk_end {c : Cfg} {ws : Nat → Int} {top p e : Int} {l : List Int} (h : Walk c ws top p l e) : ∀ f, Past c ws top f p → Past c ws top (ew c ws f l) e := by
  induction h with
  | done _ => intro f hf; exact hf
  | fail _ _ => intro f hf; exact hf
  | obj _ _ hp _ ih => intro f hf; rw [ew_cons]; exact ih _ hp

theorem walk_ge {c : Cfg} {ws : Nat → Int} {top p e : Int} {l : List Int} (h : Walk c ws top p l e) : ∀ f, 0 ≤ f → Past c ws top f p → 0 ≤ ew c ws f l := by
  induction h with
  | done _ => intro f h0 _; exact h0
  | fail _ _ => intro f h0 _; exact h0
  | @obj a a' _ _ _ _ hp _ ih => intro f h0 hf; rw [ew_cons]; exact ih _ (by have := hf.ge; have := osz_in c ws a; omega) hp

/-- What walked holds between two rounds. -/
def Wkd (c : Cfg) (ws : Nat → Int) (f : Int) (BB : Nat) (w : World) (S : Nat → Prop) (pre : List Int) (W : World) : Prop :=
  W.heap[BB]? = some (.cells #[.int .i64 (ew c ws f pre)] 3 (0, 0)) ∧ ¬ S BB ∧ (∀ k, S k → k < W.heap.size) ∧ Below w.heap.size w W

theorem wkd_own (c : Cfg) (ws : Nat → Int) (f : Int) (BB : Nat) (w : World) (B : Nat) (hB : w.heap.size ≤ B) : OwnS B (Wkd c ws f BB w) := by
  rintro S s X Y row ⟨hb, h1, h3, h4⟩ hg hrow
  have hbl := (Array.getElem?_eq_some_iff.1 hb).1
  have hbr : some BB ≠ row := fun e => by
    obtain ⟨_, o, ho, hc⟩ := hrow _ e.symm
    rw [hb] at ho; cases ho; cases hc
  refine ⟨(hg.block _ hbl hbr).trans hb, ?_, ?_, ?_⟩
  · rintro (h | h)
    · exact h1 h
    · omega
  · rintro k (h | h)
    · have := h3 k h; have := hg.size; omega
    · exact h.2
  · exact h4.grown hg h4.size (fun k e => by have := (hrow k e).1; omega)

theorem objects1_enters : ∀ args w, (callFunc 136 args).run Tryz.prog w = .ok (.enter 136 args) w := enters_of Tryz.func136 (by kernel_rfl) rfl

abbrev itv (ca cs : Nat) : Value := .func (.func 136) #[] #[.pointer (some ⟨ca, 0, none⟩), .pointer (some ⟨cs, 0, none⟩)]

theorem It.new {w : World} {b g : Nat} {c : Cfg} {x : Tps} {sw : Bool} {ws : Nat → Int} (hA : Ar w b g c x sw ws) (hL : Laid w) (S : Int) : It ((w.alloc (.cells #[.pointer (some ⟨b, 0, none⟩)] 30)).alloc (.cells #[.int .i64 S] 3)) b g w.heap.size (w.heap.size + 1) c x sw ws S := by
  have l : Below w.heap.size w ((w.alloc (.cells #[.pointer (some ⟨b, 0, none⟩)] 30)).alloc (.cells #[.int .i64 S] 3)) := Below.alloc (Below.alloc (Below.refl _ _) (Nat.le_refl _) _) (by simp) _
  refine ⟨hA.below l, hL.keep l, ?_, ?_⟩
  · exact cell_of_row _ _ 0 _ _ _ ((Below.heap_alloc _ _ _ (by simp)).trans (heap_alloc_new w (.cells #[.pointer (some ⟨b, 0, none⟩)] 30 (0, 0))))
  · have := heap_alloc_new (w.alloc (.cells #[.pointer (some ⟨b, 0, none⟩)] 30)) (.cells #[.int .i64 S] 3 (0, 0))
    rw [World.size_alloc] at this
    exact cell_of_row _ _ 0 _ _ _ this

set_option maxRecDepth 100000 in
set_option maxHeartbeats 4000000 in
theorem walked_any (b g : Nat) (c : Cfg) (x : Tps) (sw : Bool) (ws : Nat → Int) (S : Int) (l : List Int) (p e : Int) (hwb : ∀ y ∈ l, 0 ≤ y ∧ y ≤ 262145) (hp : Past c ws (x.top S) (fst c S) p) (hwk : Walk c ws (x.top S) p l e) (w : World) (hA : Ar w b g c x sw ws) (hL : Laid w) :
    Calls Tryz.prog 89 #[.pointer (some ⟨b, 0, none⟩), .int .i64 S] w fun r w' => r = .returned (.int .i64 e) ∧ Below w.heap.size w w' := by
  refine (callsIn_wide (n := 9)).1 ?_
  have hbo := bounds_any b g c x sw ws S w hA
  have HA : Hid (Ar w b g c x sw ws ∧ Laid w) := ⟨hA, hL⟩
  have hbl := hA.own.lt
  have hgl := hA.row.lt
  have h0l := hL.lt0
  have h1l := hL.lt1
  clear hA hL
  refine callsIn_of_wp_marks Tryz.func89 rfl trivial ?_ rfl
  simp only [Tryz.ntmps89, List.size_toArray, List.length_cons, List.length_nil, Nat.reduceAdd, Nat.reduceSub, Array.replicate_succ, Array.replicate_zero, List.push_toArray, List.append_toArray, List.nil_append, List.cons_append]
  gi_wp2
  refine ⟨trivial, (callsIn_wide.2 hbo).mono ?_⟩
  rintro r w1 ⟨rfl, b1⟩
  have b2 := Below.alloc b1 b1.size (.cells #[.int .i64 (fst c S)] 3)
  have hBB : (w1.alloc (.cells #[.int .i64 (fst c S)] 3)).heap[w1.heap.size]? = some (.cells #[.int .i64 (fst c S)] 3 (0, 0)) := heap_alloc_new w1 _
  have hge := b1.size
  clear hbo b1
  gi_wp2
  generalize (w1.alloc (.cells #[.int .i64 (fst c S)] 3)) = W1 at *
  generalize w1.heap.size = BB at *
  refine ⟨trivial, (callsIn_wide.2 (objects_any b S W1)).mono ?_⟩
  rintro r w2 ⟨rfl, hw2⟩
  have i2 := It.new (HA.out.1.below b2) (HA.out.2.keep b2) S
  rw [← hw2] at i2
  have hBl := (Array.getElem?_eq_some_iff.1 hBB).1
  have b3 : Below W1.heap.size W1 w2 := by rw [hw2]; exact Below.alloc (Below.alloc (Below.refl _ _) (Nat.le_refl _) _) (by simp) _
  have b4 := b2.trans (b3.mono b2.size)
  have hB2 := (b3.block _ hBl).trans hBB
  clear hw2
  gi_wp2
  have hcl := World.block_lt_of_cell? _ _ i2.ca
  have hsl := World.block_lt_of_cell? _ _ i2.cs
  simp only at hcl hsl
  have hwf := walk_full b g W1.heap.size (W1.heap.size + 1) c x sw ws S l p e hp hwk w.heap.size w2 i2 (by have := b4.size; omega) hbl hgl h0l h1l
  refine range_fullA (S0 := fun k => k = W1.heap.size ∨ k = W1.heap.size + 1) (Own := fun k => k = W1.heap.size ∨ k = W1.heap.size + 1) (gf := 136) (lb := #[.pointer (some ⟨W1.heap.size, 0, none⟩), .pointer (some ⟨W1.heap.size + 1, 0, none⟩)]) (w0 := w2) (n0 := w.heap.size) (encs := encO c ws) (xs := l) rfl objects1_enters hwf (fun k h => h) (Below.refl _ _) b4.size (fun _ => rfl)
    (Wkd c ws (fst c S) BB w) (wkd_own c ws _ BB w _ b4.size) ⟨hB2, by rintro (h | h) <;> omega, by rintro k (rfl | rfl) <;> assumption, b4⟩
    (fun y H => { tmps := #[.pointer (some ⟨b, 0, none⟩), .int .i64 S, undef, undef, .int .i64 0, .pointer (some ⟨BB, 0, none⟩), .int .i64 (bhd c S), .int .i64 y, .pointer (some ⟨H, 0, none⟩), .tuple #[.int .i64 (fst c S), .int .i64 (bhd c S)], .pointer (some ⟨b, 0, none⟩), .int .i64 S, .tuple #[.int .i64 (fst c S), .int .i64 (bhd c S)], .int .i64 (fst c S), .int .i64 (bhd c S), .pointer (some ⟨b, 0, none⟩), .int .i64 S, itv W1.heap.size (W1.heap.size + 1), .int .i64 y, hdv c ws y, undef, undef, undef, undef, undef, undef, undef, undef, undef, undef], defers := [] })
    (fun y => .cells (hcells (wat c ws (y + 1)) (kdOf (wat c ws y)) (ptOf (wat c ws y)) (rwOf (wat c ws y)) (agOf (wat c ws y)) (stOf (wat c ws y)) (hdOf (wat c ws y))) 60 (0, 0))
    (fun S1 S2 pre W h hs => ⟨h.1, fun h' => h.2.1 (hs _ h'), fun k hk => h.2.2.1 k (hs k hk), h.2.2.2⟩) (fun S1 pre W h => h.2.2.1) ?assign ?body ?done
  case assign =>
    intro lp y W K m hK
    gi_wp2
    exact hK
  case body =>
    rintro lp S1 pre y H W m ⟨hv, h1, h3, hB⟩ hpre hH
    have hpt := pt_in (wat c ws y)
    have hrw := rw_in (wat c ws y)
    have hos : 2 + ptOf (wat c ws y) + rwOf (wat c ws y) = osz c ws y := rfl
    have hyb := hwb y (hpre.subset (by simp))
    have hsz := size_any3 (wat c ws (y + 1)) (kdOf (wat c ws y)) (ptOf (wat c ws y)) (rwOf (wat c ws y)) (agOf (wat c ws y)) (stOf (wat c ws y)) (hdOf (wat c ws y)) hpt.1 hpt.2 hrw.1 hrw.2 W
    have zz := osz_in c ws y
    rw [hos] at hsz
    have HE : Hid (ew c ws (fst c S) (pre ++ [y]) = y + osz c ws y) := ew_snoc c ws _ pre y
    have Hv : Hid (W.heap[BB]? = some (.cells #[.int .i64 (ew c ws (fst c S) pre)] 3 (0, 0))) := hv
    have n0 := cell_of_row _ _ 0 _ _ _ hH
    have n1 := cell_of_row _ _ 1 _ _ _ hH
    have n2 := cell_of_row _ _ 2 _ _ _ hH
    have n3 := cell_of_row _ _ 3 _ _ _ hH
    have n4 := cell_of_row _ _ 4 _ _ _ hH
    have n5 := cell_of_row _ _ 5 _ _ _ hH
    have n6 := cell_of_row _ _ 6 _ _ _ hH
    simp only [List.getElem?_toArray, List.getElem?_cons_zero, List.getElem?_cons_succ] at n0 n1 n2 n3 n4 n5 n6
    have hBl2 := (Array.getElem?_eq_some_iff.1 hv).1
    clear hv hH hpt hrw hos
    gi_wp2
    refine ⟨trivial, fun h => (by cases h), ((callsIn_wide.2 hsz).inRound lp).mono ?_⟩
    rintro r w4 ⟨rfl, hw4⟩
    have l4 : Below W.heap.size W w4 := by rw [hw4]; exact Below.alloc (Below.refl _ _) (Nat.le_refl _) _
    have hv4 := (l4.block _ hBl2).trans Hv.out
    have kc : w4.cell? ⟨BB, 0, none⟩ = some (.int .i64 (ew c ws (fst c S) pre)) := cell_of_row _ _ 0 _ _ _ hv4
    have kf : w4.frozen? ⟨BB, 0, none⟩ = false := by unfold World.frozen?; simp only [hv4]; simp
    have Hv4 : Hid (w4.heap[BB]? = some (.cells #[.int .i64 (ew c ws (fst c S) pre)] 3 (0, 0))) := hv4
    clear hsz n0 n1 n2 n3 n4 n5 n6 hw4 hv4
    generalize osz c ws y = z at *
    gi_wp2
    refine ⟨fun k hk => ?_, ?_, ?_, h1, fun k hk => ?_, ?_⟩
    · rw [Below.heap_setCell _ _ _ _ (fun e => h1 (by simp at e; rw [← e]; exact hk))]
      exact l4.block k (h3 k hk)
    · exact Below.setCell (l4.mono hB.size) hge _
    · rw [HE.out]
      simp [World.setCell, Array.getElem?_modify, Hv4.out]
    · have := h3 k hk; have := l4.size; simp [World.setCell]; omega
    · exact Below.setCell (hB.trans (l4.mono hB.size)) hge _
  case done =>
    rintro D S1 W hD ⟨hv, h1, h3, hB⟩ hK
    have kc : W.cell? ⟨BB, 0, none⟩ = some (.int .i64 (ew c ws (fst c S) l)) := cell_of_row _ _ 0 _ _ _ hv
    have hAW := HA.out.1.below hB
    have hLW := HA.out.2.keep hB
    have hend := walk_end hwk _ hp
    have hgew := walk_ge hwk _ (hAW.sub_in S).1 hp
    have htw : x.top S ≤ c.words := by have := hAW.sub_in S; omega
    have Hto : Hid (∀ p : Bel W, Calls Tryz.prog 53 #[.pointer (some ⟨b, 0, none⟩), .int .i64 S] p.v fun e w' => e = .returned (.int .i64 (x.top S)) ∧ Below p.v.heap.size p.v w') := fun p => top_any b g c x sw ws S p.v (hAW.below p.h)
    have Hpa : Hid (∀ p : Bel W, Calls Tryz.prog 129 #[.pointer (some ⟨b, 0, none⟩), .int .i64 (x.top S), .int .i64 (ew c ws (fst c S) l)] p.v fun r w' => r = .returned (.int .i64 e) ∧ Below p.v.heap.size p.v w') := fun p => past_any b g c x sw ws _ _ e hgew htw hend p.v (hAW.below p.h) (hLW.keep p.h)
    have kp : ∀ p : Bel W, p.v.cell? ⟨BB, 0, none⟩ = some (.int .i64 (ew c ws (fst c S) l)) := fun p => (World.cell?_of_block (w := W) (p.h.block _ (World.block_lt_of_cell? _ _ kc))).trans kc
    have hDl := (Array.getElem?_eq_some_iff.1 hK).1
    have HK : Hid (W.heap[D]? = some (.deferred (some []))) := hK
    clear hAW hLW hend hgew htw kc hv hwf hK
    haveI hinh : Inhabited (Bel W) := ⟨⟨W, Below.refl _ _⟩⟩
    gi_wp2
    refine wpIn_wide.2 ?_
    refine region_below mixed (by kernel_rfl) ?_
    repeat (go_big_quiet_step (first | (go_at_call 53; exact calls_bel (Hto.out _)) | (go_at_call 129; exact calls_bel (Hpa.out _))))
    refine wpQuiet_nil ?_
    rintro w6 ⟨⟨w6, b8⟩, rfl⟩
    have hK6 := (b8.block _ hDl).trans HK.out
    have hB6 := hB.trans (b8.mono hB.size)
    clear kp b8
    gi_wp2
    refine ⟨by simp, .inl ⟨_, _, rfl, run_takeDeferred hK6, ?_⟩⟩
    exact ⟨_, results_tmp rfl _ _ _, rfl, hB6.trans (belowK_b (w := w) (Nat.le_refl _) w6 D _ _ (by have := b4.size; omega) hK6 rfl rfl)⟩

set_option maxHeartbeats 1000000 in
theorem check_ok (b g : Nat) (c : Cfg) (x : Tps) (sw : Bool) (ws : Nat → Int) (hs : ∀ s, 1 ≤ s ∧ s ≤ 4 → Comes c x ws s) (w : World) (hA : Ar w b g c x sw ws) (hL : Laid w) :
    Calls Tryz.prog 55 #[.pointer (some ⟨b, 0, none⟩)] w fun r w' => r = .returned (.tuple #[.int .i64 0, .int .i64 0]) ∧ Below w.heap.size w w' := by
  have HA : Hid (Ar w b g c x sw ws ∧ Laid w) := ⟨hA, hL⟩
  have HW : Hid (∀ s w1, 1 ≤ s ∧ s ≤ 4 → Below w.heap.size w w1 → Calls Tryz.prog 89 #[.pointer (some ⟨b, 0, none⟩), .int .i64 s] w1 fun r w' => r = .returned (.int .i64 (x.top s)) ∧ Below w1.heap.size w1 w') := fun s w1 h1 l => by
    obtain ⟨ll, p, hp, hwk⟩ := hs s h1
    have hsub := hA.sub_in s
    have hw := hA.words
    exact walked_any b g c x sw ws s ll p _ (fun y hy => by have := walk_in hwk (by have := hp.ge; omega) y hy; omega) hp hwk w1 (hA.below l) (hL.keep l)
  have HT : Hid (∀ s w1, Below w.heap.size w w1 → Calls Tryz.prog 53 #[.pointer (some ⟨b, 0, none⟩), .int .i64 s] w1 fun r w' => r = .returned (.int .i64 (x.top s)) ∧ Below w1.heap.size w1 w') := fun s w1 l => top_any b g c x sw ws s w1 (hA.below l)
  clear hA hL hs
  go_enter Tryz.func55, Tryz.ntmps55
  go_wp2
  go_loopw [4] (fun v wr => ∃ s : Int, 1 ≤ s ∧ s ≤ 5 ∧ v = .int .i64 s ∧ Below w.heap.size w wr) (fun v _ => 5 - (intOf v).toNat)
  case atStart => exact ⟨1, by decide, by decide, rfl, Below.refl _ _⟩
  case round =>
    obtain ⟨s, h1, h5, rfl, bl⟩ := hrel
    by_cases h4 : s ≤ 4
    · go_wp2_with fail
      refine (HW.out s _ ⟨h1, h4⟩ bl).mono ?_
      rintro e w1 ⟨rfl, l1⟩
      have b1 := bl.trans (l1.mono bl.size)
      clear bl l1
      go_wp2_with fail
      refine (HT.out s w1 b1).mono ?_
      rintro e w2 ⟨rfl, l2⟩
      have b2 := b1.trans (l2.mono b1.size)
      clear b1 l2
      go_wp2
      go_roundw
      case rel => exact ⟨s + 1, by omega, by omega, rfl, b2⟩
      case measure => simp [intOf]; omega
    · obtain rfl : s = 5 := by omega
      go_wp2
      go_ret2
      exact ⟨rfl, bl⟩

end Go.Proofs.YtbgnagjhkfkekaaGreatDoor

