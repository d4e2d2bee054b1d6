/-
  WeakRegisters: Same: the arena holds just the lay that it was built of.
-/
import Derived.Test.YtbgnagjhkfkekaaGreatDoorPWs
import Derived.Test.YtbgnagjhkfkekaaGreatDoorPWs
import Derived.Test.YtbgnagjhkfkekaaGreatDoorY34
set_option linter.unusedVariables false
set_option maxRecDepth 20000
namespace Go.Proofs.YtbgnagjhkfkekaaGreatDoor
open Go.RowKit Go.Shelf

section
variable {w1 w w' : World} {n1 lb b g : Nat} {c : Cfg} {ws : Nat → Int} {th : List Tng} {L : List LT}

theorem lay_ptrs (ok : LOk c L) {i : Nat} {o : LT} (hT : L[i]? = some o) : ∀ z, z ∈ o.ps → InI z := fun z hz => by
  have := ok.len
  rcases ok.ptr o (List.mem_of_getElem? hT) z hz with e | e
  · subst e; exact ⟨by decide, by decide⟩
  · obtain ⟨p, ho⟩ := thr_iff.1 e
    obtain ⟨h1, h2, -⟩ := ob_some.1 ho
    have := (List.getElem?_eq_some_iff.1 h2).1
    unfold InI
    omega

set_option maxHeartbeats 4000000 in
theorem ySame_yes (hl : Ly n1 w lb c L) (hlt : Lt w lb c (tps c L)) (hn1 : n1 ≤ w.heap.size) (ok : LOk c L) (HA : Ax w b g c (tps c L) false ws th) (hS : Sk L th) (hF : ∀ T, T ∈ th → Full L T) :
    Calls Tryz.prog 18 #[.pointer (some ⟨lb, 0, none⟩), .pointer (some ⟨b, 0, none⟩)] w fun e w' => e = .returned (.bool true) ∧ Below w.heap.size w w' := by
  have hlen := ok.len
  have HL : Hid (Ly n1 w lb c L ∧ Lt w lb c (tps c L) ∧ LOk c L) := ⟨hl, hlt, ok⟩
  have HX : Hid (Ax w b g c (tps c L) false ws th) := HA
  have HS : Hid (Sk L th ∧ ∀ T, T ∈ th → Full L T) := ⟨hS, hF⟩
  have hlb : lb < w.heap.size := Nat.lt_of_lt_of_le hl.lt hn1
  clear hl hlt ok HA hS hF
  go_enter Tryz.func18, Tryz.ntmps18
  go_wp2
  go_loopw [5] (fun v5 wr => ∃ s : Nat, 1 ≤ s ∧ s ≤ 5 ∧ v5 = .int .i64 s ∧ Hid (Below w.heap.size w wr)) (fun v5 _ => 5 - (intOf v5).toNat)
  case atStart => exact ⟨1, by omega, by omega, rfl, Below.refl _ _⟩
  case round =>
    obtain ⟨s, h1, h5, rfl, HB⟩ := hrel
    by_cases h4 : s < 5
    · have hsI : (s : Int) < 5 := by omega
      have Hto : Hid (∀ p : Bel wr, Calls Tryz.prog 53 #[.pointer (some ⟨b, 0, none⟩), .int .i64 s] p.v fun e w' => e = .returned (.int .i64 ((tps c L).top s)) ∧ Below p.v.heap.size p.v w') := fun p => top_any b g c (tps c L) false ws s p.v ((HX.out.ar.below HB.out).below p.h)
      have kp : ∀ p : Bel wr, p.v.cell? ⟨lb, 21 + s, none⟩ = some (.int .i64 ((tps c L).top s)) := fun p => (p.h.cell (p := ⟨lb, 21 + s, none⟩) (Nat.lt_of_lt_of_le hlb HB.out.size)).trans ((HB.out.cell (p := ⟨lb, 21 + s, none⟩) hlb).trans (HL.out.2.1.tops s h1 (by omega)))
      haveI hinh : Inhabited (Bel wr) := ⟨⟨wr, Below.refl _ _⟩⟩
      generalize (tps c L).top (s : Int) = tp at *
      go_wp2_with fail
      refine region_below mixed (by kernel_rfl) ?_
      repeat (go_big_quiet_step (first | (go_at_call 53; exact calls_bel (Hto.out _))))
      refine wpQuiet_nil ?_
      rintro w6 ⟨⟨w6, b8⟩, rfl⟩
      have HB6 : Hid (Below w.heap.size w w6) := HB.out.trans (b8.mono HB.out.size)
      clear kp b8 Hto hinh HB
      go_wp2
      go_roundw
      case rel => exact ⟨s + 1, by omega, by omega, by go_num, HB6⟩
      case measure => simp [intOf]; omega
    · have hsI : ¬ (s : Int) < 5 := by omega
      go_wp2
      clear h1 h5 h4 hsI
      go_loopw [6] (fun v6 wr => ∃ i : Nat, i ≤ L.length ∧ v6 = .int .i64 i ∧ Hid (Below w.heap.size w wr)) (fun v6 _ => L.length - (intOf v6).toNat)
      case atStart => exact ⟨0, by omega, rfl, HB⟩
      case round =>
        obtain ⟨i, hi, rfl, HBr⟩ := hrel
        clear HB
        have hly := HL.out.1.below (HBr.out.mono hn1)
        by_cases hil : i < L.length
        · have hoi : L[i]? = some (L[i]'hil) := List.getElem?_eq_getElem hil
          generalize L[i]'hil = o at hoi
          obtain ⟨q, off, cap, q', off', cap', l14, l15, cs, ka, hq, hq', hcp⟩ := hly.thing hoi
          have d10 : wr.cell? ⟨q, off + i * 11 + 10, none⟩ = some (.int .i64 o.fill) := cs 10 (by decide)
          have hii : (i : Int) < (L.length : Int) := by omega
          have hOk := HL.out.2.2.plc i o hoi
          obtain ⟨N, hN⟩ : ∃ N, N = L.length := ⟨_, rfl⟩
          rw [← hN] at l14 l15 hcp hii hil hi hlen
          by_cases ha : o.at_ = 0
          · clear cs d10 hOk hly
            go_wp2
            go_roundw
            case rel => exact ⟨i + 1, by omega, by go_num, HBr⟩
            case measure => simp [intOf]; omega
          · by_cases hfl : 0 < o.fill
            · clear cs hOk hly
              go_wp2
              go_roundw
              case rel => exact ⟨i + 1, by omega, by go_num, HBr⟩
              case measure => simp [intOf]; omega
            · have hpos := HL.out.2.2
              have hat : 0 < o.at_ := by
                have hw := (HL.out.2.2.plc.tops HL.out.2.2.cok i (by omega)) o.sp hOk.s1 hOk.s4
                rcases hOk.at_ with e | ⟨e, -⟩
                · exact absurd e ha
                · have hc := HL.out.2.2.cok
                  have h9 : 1 ≤ fst c o.sp := by
                    have := hc.e0; have := hc.s0; have := hc.t0
                    have s1 := hOk.s1
                    have s4 := hOk.s4
                    obtain e | e | e | e : o.sp = 1 ∨ o.sp = 2 ∨ o.sp = 3 ∨ o.sp = 4 := by omega
                    all_goals
                      rw [e]
                      simp [fst]
                      try omega
                  omega
              have hf0 : o.fill = 0 := by have := hOk.f0; omega
              have hob : ob L ((i + 1 : Nat) : Int) = some o := ob_at hoi hat hf0
              obtain ⟨j, T, hj, hno, hm⟩ := HS.out.1.find hob
              have hTm := List.mem_of_getElem? hj
              obtain ⟨f1, f2, f3⟩ := HS.out.2 T hTm o (by rw [hno]; exact hob)
              have hst := yStands_yes hly (Nat.le_trans hn1 HBr.out.size) HL.out.2.2 (HX.out.below HBr.out) hoi hTm hm f1 f2 f3 (lay_ptrs HL.out.2.2 hoi)
              have hmf : ∀ (fn : Fn) (first cap : Array Value) (w : World), (Instr.makeFunc fn first cap).run Tryz.prog w = .ok (.func fn first cap) w := fun _ _ _ _ => rfl
              clear cs hOk hly hpos hob hj hno hm f1 f2 f3
              go_wp2_with fail
              refine hst.mono ?_
              rintro e w5 ⟨rfl, l5⟩
              have HB5 : Hid (Below w.heap.size w w5) := HBr.out.trans (l5.mono HBr.out.size)
              clear hst l5 HBr l14 l15 d10 ka
              go_wp2
              go_roundw
              case rel => exact ⟨i + 1, by omega, by go_num, HB5⟩
              case measure => simp [intOf]; omega
        · have hii : ¬ (i : Int) < (L.length : Int) := by omega
          obtain ⟨a, cap, a', cap', l14, l15⟩ := hly.lens
          have hck := check_ok b g c (tps c L) false ws (fun s hs => by
            obtain ⟨n, rfl⟩ := Int.eq_ofNat_of_zero_le (show 0 ≤ s by omega)
            obtain ⟨pp, hp1, hp2⟩ := (HX.out.hl.seg n (by omega) (by omega)).walk
            exact ⟨_, pp, hp1, hp2⟩) wr (HX.out.ar.below HBr.out) (HX.out.la.keep HBr.out)
          clear hly
          go_wp2_with fail
          refine hck.mono ?_
          rintro e w5 ⟨rfl, l5⟩
          have HB5 : Hid (Below w.heap.size w w5) := HBr.out.trans (l5.mono HBr.out.size)
          clear hck l5 HBr l14 l15
          go_wp2
          go_ret
          exact ⟨rfl, HB5.out⟩
end

end Go.Proofs.YtbgnagjhkfkekaaGreatDoor
