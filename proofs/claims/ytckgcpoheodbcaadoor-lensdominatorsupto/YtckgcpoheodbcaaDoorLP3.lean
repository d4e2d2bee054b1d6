/-
  Shortest paths: an object's strong fields.
-/
import Derived.Test.YtckgcpoheodbcaaDoorPIa
import Derived.Test.YtckgcpoheodbcaaDoorPKm
import Derived.Test.YtckgcpoheodbcaaDoorPLp
import Derived.Maps.AppendAt
import Derived.Deep.CutRange
set_option linter.unusedVariables false
set_option maxRecDepth 20000
namespace Go.Proofs.YtckgcpoheodbcaaDoor
open Go.RowKit Go.Shelf

/-- The first strong field. -/
def fst17 (k : Int) : Nat := if k = 2 then 1 else if k = 3 then 2 else 0
theorem fst17_le (k : Int) : fst17 k ≤ 2 := by unfold fst17; split; omega; split <;> omega
/-- What the strong fields hold. -/
def stg (o : Im.Ob) : List Int := (o.ps.drop (fst17 o.kind)).filter (fun z => decide (0 < z))

theorem firstStrong_any (k : Int) (w : World) : Calls Tryd.prog 35 #[.int .i64 k] w fun e w' => e = .returned (.int .i64 (fst17 k : Nat)) ∧ w = w' := by
  by_cases h1 : k = 2
  · subst h1
    go_enter Tryd.func35, Tryd.ntmps35
    go_wp2
    go_ret
    exact ⟨rfl, rfl⟩
  · have h1' : (k == 2) = false := by simpa using h1
    by_cases h2 : k = 3
    · subst h2
      go_enter Tryd.func35, Tryd.ntmps35
      go_wp2
      go_ret
      exact ⟨rfl, rfl⟩
    · have h2' : (k == 3) = false := by simpa using h2
      have e : fst17 k = 0 := by unfold fst17; rw [if_neg h1, if_neg h2]
      go_enter Tryd.func35, Tryd.ntmps35
      go_wp2
      go_ret
      exact ⟨by rw [e]; rfl, rfl⟩

/-- As far as it was looked at. -/
def stt (ps : List Int) (f i : Nat) : List Int := ((ps.take i).drop f).filter (fun z => decide (0 < z))

theorem stt_step {ps : List Int} {f i : Nat} {z : Int} (h : ps[i]? = some z) (hf : f ≤ i) : stt ps f (i + 1) = stt ps f i ++ (if 0 < z then [z] else []) := by
  have hl := (List.getElem?_eq_some_iff.1 h).1
  have e : ps.take (i + 1) = ps.take i ++ [z] := by rw [List.take_add_one, h]; rfl
  unfold stt
  rw [e, List.drop_append_of_le_length (by rw [List.length_take]; omega), List.filter_append]
  by_cases hz : 0 < z
  · simp [hz]
  · simp [hz]

theorem stt_len (ps : List Int) (f i : Nat) : (stt ps f i).length ≤ ps.length := by
  unfold stt
  refine Nat.le_trans (List.length_filter_le _ _) ?_
  rw [List.length_drop, List.length_take]
  omega

theorem stt_end (ps : List Int) (f i : Nat) (h : ps.length ≤ i) : stt ps f i = (ps.drop f).filter (fun z => decide (0 < z)) := by
  unfold stt
  rw [List.take_of_length_le h]

theorem stt_none (ps : List Int) (f : Nat) : stt ps f f = [] := by
  unfold stt
  rw [List.drop_eq_nil_of_le (by rw [List.length_take]; omega)]
  rfl

theorem cell_one17 (w : World) (v : Value) (t : TypeId) : ∀ (j : Nat) u, [v][j]? = some u → (w.alloc (.cells #[v] t)).cell? ((⟨w.heap.size, 0, none⟩ : Addr).add j) = some u := by
  intro j u hj
  have hadd : (⟨w.heap.size, 0, none⟩ : Addr).add j = ⟨w.heap.size, j, none⟩ := by unfold Addr.add; split <;> simp_all
  rw [hadd, cell_of_row _ _ j #[v] t (0, 0) (heap_alloc_new w _)]
  simpa using hj

theorem info_p17 {o : Option TypeInfo} {z : Option Value} {s b : Nat} (h : o.map (fun i => (i.zero, i.size, i.bytes)) = some (z, s, b)) : ∃ i, o = some i ∧ i.zero = z ∧ i.size = s ∧ i.bytes = b := by
  cases o with
  | none => cases h
  | some i =>
    simp only [Option.map_some, Option.some.injEq, Prod.mk.injEq] at h
    exact ⟨i, rfl, h.1, h.2.1, h.2.2⟩
theorem infoI17 : (Tryd.prog.info? 3).map (fun i => (i.zero, i.size, i.bytes)) = some (some (.int .i64 0), 1, 8) := by kernel_rfl

theorem own_sl17 {w : World} {base n e size : Nat} {v : Value} {xs : List Value} (h : w.ownsRow base e size v n xs) : ∃ a cap, v = .slice a n cap := by
  rcases h.2 with ⟨rfl, rfl⟩ | ⟨g, cap, cur, rfl, _⟩
  · exact ⟨_, _, rfl⟩
  · exact ⟨_, _, rfl⟩

/-- A list of numbers of one's own. -/
def Il (w : World) (base : Nat) (v : Value) (l : List Int) : Prop := w.ownsRow base 3 1 v l.length (Kg.ints l)

theorem Il.below {w w' : World} {base : Nat} {v : Value} {l : List Int} (h : Il w base v l) (hb : Below w.heap.size w w') : Il w' base v l :=
  Kg.row_keep2 (G := []) h (Kg.Touch.of_below hb []) (fun _ _ => by simp)

/-- One more behind it. -/
theorem Il.snoc {w w' : World} {base : Nat} {v v' : Value} {l : List Int} {x : Int} (h : Il w base v l) (h' : w'.ownsRow base 3 1 v' (l.length + 1) (Kg.ints l ++ [.int .i64 x])) (hg : (w.alloc (.cells #[.int .i64 x] 3)).grownBy w' v.ownBlock) (hb : base ≤ w.heap.size) :
    Il w' base v' (l ++ [x]) ∧ Kg.Touch v.ownBlock.toList w w' ∧ Below base w w' := by
  have t9 : Kg.Touch v.ownBlock.toList w w' := (Kg.Touch.alloc _ w (.cells #[.int .i64 x] 3)).trans (Kg.Touch.grown hg (fun k hk => by rw [Option.mem_toList]; exact hk.symm ▸ rfl))
  refine ⟨?_, t9, t9.below hb (fun k hk => ?_)⟩
  · show w'.ownsRow _ _ _ _ (l ++ [x]).length (Kg.ints (l ++ [x]))
    rw [List.length_append, Kg.ints, List.map_append]
    exact h'
  · rw [Option.mem_toList] at hk
    exact (World.ownsRow.lt h k hk).1

set_option maxHeartbeats 8000000 in
theorem strong_any (n0 : Nat) (w : World) (hn0 : n0 ≤ w.heap.size) (x : OL) (hl : Lrd n0 w x.vp .i64 x.o.ps) (hlen : x.o.ps.length ≤ 1000000000) :
    Calls Tryd.prog 41 #[.agg x.cells] w fun e w' => ∃ v, e = .returned v ∧ Il w' w.heap.size v (stg x.o) ∧ Below w.heap.size w w' := by
  obtain ⟨pa, pc, ep, -, hp⟩ := hl
  have HP : Hid (∀ (f : Nat) z, x.o.ps[f]? = some z → ∃ q off, pa = some ⟨q, off, none⟩ ∧ q < n0 ∧ w.cell? ⟨q, off + f, none⟩ = some (.int .i64 z)) := hp
  have h1 := heap_alloc_new w (.cells (ocs x.o.ser x.o.kind x.o.site (.slice pa x.o.ps.length pc) x.vr) 62 (0, 0))
  have b1 : Below w.heap.size w (w.alloc (.cells (ocs x.o.ser x.o.kind x.o.site (.slice pa x.o.ps.length pc) x.vr) 62)) := Below.alloc (Below.refl _ _) (Nat.le_refl _) _
  obtain ⟨W, hW⟩ : ∃ W, W = w.alloc (.cells (ocs x.o.ser x.o.kind x.o.site (.slice pa x.o.ps.length pc) x.vr) 62) := ⟨_, rfl⟩
  have HX : Hid (∀ w', Below W.heap.size W w' → w'.cell? ⟨w.heap.size, 1, none⟩ = some (.int .i64 x.o.kind) ∧ w'.cell? ⟨w.heap.size, 3, none⟩ = some (.slice pa x.o.ps.length pc) ∧ Below w.heap.size w w') := fun w' b' => by
    rw [hW] at b'
    have h9 := (b'.block _ (Kg.heap_lt h1)).trans h1
    exact ⟨Kg.heap_cell h9 1, Kg.heap_cell h9 3, b1.trans (b'.mono b1.size)⟩
  have HS : Hid (W.heap.size = w.heap.size + 1) := by show _ = _; rw [hW]; simp
  show Calls Tryd.prog 41 #[.agg (ocs x.o.ser x.o.kind x.o.site x.vp x.vr)] w _
  rw [ep]
  clear h1 b1 hp
  obtain ⟨f, hf⟩ : ∃ f, f = fst17 x.o.kind := ⟨_, rfl⟩
  have HF : Hid (f = fst17 x.o.kind) := hf
  have hf2 : f ≤ 2 := by rw [hf]; exact fst17_le _
  clear hf
  obtain ⟨g0, hg0⟩ : ∃ g0 : Int, g0 = if x.o.kind = 2 then 1 else 0 := ⟨_, rfl⟩
  have HG0 : Hid (g0 = if x.o.kind = 2 then 1 else 0) := hg0
  clear hg0
  obtain ⟨k1, k3, -⟩ := HX.out W (Below.refl _ _)
  go_enter Tryd.func41, Tryd.ntmps41
  go_upto_if 8 with fail
  rw [← hW]
  clear hW
  go_cut [3] from 9 to 11 (fun v wq => v = .int .i64 g0 ∧ W = wq)
  case first =>
    by_cases e1 : x.o.kind = 2
    · have e1' : (x.o.kind == 2) = true := by simpa using e1
      have E1 : Hid (x.o.kind = 2) := e1
      clear e1
      go_wp2
      go_meet
      exact ⟨by rw [HG0.out, if_pos E1.out], rfl⟩
    · have e1' : (x.o.kind == 2) = false := by simpa using e1
      have E1 : Hid (¬ x.o.kind = 2) := e1
      clear e1
      go_wp2
      go_meet
      exact ⟨by rw [HG0.out, if_neg E1.out], rfl⟩
  case rest =>
  obtain ⟨rfl, rfl⟩ := hcut
  apply_assumption
  go_upto_if 11 with fail
  go_cut [3] from 12 to 12 (fun v wq => v = .int .i64 (f : Nat) ∧ W = wq)
  case first =>
    by_cases e2 : x.o.kind = 3
    · have e2' : (x.o.kind == 3) = true := by simpa using e2
      have E2 : Hid (x.o.kind = 3) := e2
      clear e2
      go_wp2
      go_meet
      exact ⟨by rw [HF.out, E2.out]; rfl, rfl⟩
    · have e2' : (x.o.kind == 3) = false := by simpa using e2
      have E2 : Hid (¬ x.o.kind = 3) := e2
      clear e2
      go_wp2
      go_meet
      refine ⟨?_, rfl⟩
      rw [HF.out, HG0.out]
      unfold fst17
      by_cases e1 : x.o.kind = 2
      · rw [if_pos e1, if_pos e1]; rfl
      · rw [if_neg e1, if_neg e1, if_neg E2.out]; rfl
  case rest =>
  obtain ⟨rfl, rfl⟩ := hcut
  apply_assumption
  obtain ⟨i0, hi0, hj0, hj1, hj2⟩ := info_p17 infoI17
  have HI : Hid (Tryd.prog.info? 3 = some i0 ∧ i0.zero = some (.int .i64 0) ∧ i0.size = 1 ∧ i0.bytes = 8) := ⟨hi0, hj0, hj1, hj2⟩
  clear hi0 hj0 hj1 hj2
  go_wp2
  go_loopw [4, 5] (fun v i wr => ∃ k : Nat, f ≤ k ∧ k ≤ x.o.ps.length + 2 ∧ i = .int .i64 k ∧ Il wr (w.heap.size + 1) v (stt x.o.ps f k) ∧ Below W.heap.size W wr) (fun _ i _ => x.o.ps.length + 2 - (intOf i).toNat)
  case atStart => exact ⟨f, Nat.le_refl _, by omega, rfl, by rw [stt_none]; exact World.ownsRow_nil _ _ _ _, Below.refl _ _⟩
  case round =>
    obtain ⟨k, hfk, hk, rfl, r1, r2⟩ := hrel
    have Hr1 : Hid (Il wr (w.heap.size + 1) u4 (stt x.o.ps f k)) := r1
    have Hr2 : Hid (Below W.heap.size W wr) := r2
    clear r1 r2 k1 k3
    obtain ⟨-, k3, b3⟩ := HX.out wr Hr2.out
    have Hb3 : Hid (Below w.heap.size w wr) := b3
    clear b3
    by_cases hlt : k < x.o.ps.length
    · obtain ⟨z, hz⟩ : ∃ z, x.o.ps[k]? = some z := ⟨_, List.getElem?_eq_getElem hlt⟩
      obtain ⟨q, off, rfl, hq, hc⟩ := HP.out k z hz
      have ck : wr.cell? ⟨q, off + k, none⟩ = some (.int .i64 z) := (Hb3.out.cell (p := ⟨q, off + k, none⟩) (Nat.lt_of_lt_of_le hq hn0)).trans hc
      have hkI : (k : Int) < (x.o.ps.length : Int) := by omega
      have HN : Hid (stt x.o.ps f (k + 1) = stt x.o.ps f k ++ (if 0 < z then [z] else [])) := stt_step hz hfk
      have hln := stt_len x.o.ps f k
      clear hz hc hq
      by_cases hp : 0 < z
      · rw [if_pos hp] at HN
        have hp' : decide (0 < z) = true := decide_eq_true hp
        obtain ⟨a7, c7, rfl⟩ := own_sl17 Hr1.out
        have HSz : Hid (w.heap.size + 1 ≤ wr.heap.size) := by show _ ≤ _; rw [← HS.out]; exact Hr2.out.size
        have HRow : Hid ((wr.alloc (.cells #[.int .i64 z] 3)).ownsRow (w.heap.size + 1) 3 1 (.slice a7 (stt x.o.ps f k).length c7) (stt x.o.ps f k).length (Kg.ints (stt x.o.ps f k))) := Il.below Hr1.out (Below.alloc (Below.refl _ _) (Nat.le_refl _) _)
        go_wp2_with (at_builtin; refine wpList_append_own_at _ rfl _ _ 24 rfl (w.heap.size + 1) 3 i0 (.int .i64 0) 1 8 Tryd.underlying24 HI.out.1 HI.out.2.1 HI.out.2.2.1 HI.out.2.2.2 rfl (by decide) _ _ _ rfl HRow.out ⟨wr.heap.size, 0, none⟩ 1 1 [.int .i64 z] rfl rfl (cell_one17 _ _ _) (by simp [Value.oneCell']) (by simp only [maxLen]; omega) (by omega) (by have := HSz.out; simp; omega) ?_; intro v8 w8 h8 g8 _ _)
        go_roundw
        case rel =>
          obtain ⟨y1, y2, y3⟩ := Il.snoc Hr1.out h8 g8 HSz.out
          exact ⟨k + 1, by omega, by omega, by go_num, by rw [HN.out]; exact y1, Hr2.out.trans (by rw [HS.out]; exact y3)⟩
        case measure => simp [intOf]; omega
      · rw [if_neg hp, List.append_nil] at HN
        have hp' : decide (0 < z) = false := decide_eq_false hp
        go_wp2
        go_roundw
        case rel => exact ⟨k + 1, by omega, by omega, by go_num, by rw [HN.out]; exact Hr1.out, Hr2.out⟩
        case measure => simp [intOf]; omega
    · have hkI : ¬ (k : Int) < (x.o.ps.length : Int) := by omega
      have HE : Hid (stt x.o.ps f k = stg x.o) := by
        show _ = _
        rw [stt_end x.o.ps f k (by omega), HF.out]
        rfl
      rw [HE.out] at Hr1
      go_wp2
      go_ret
      exact ⟨_, rfl, Kg.row_base Hr1.out (by omega), Hb3.out⟩

end Go.Proofs.YtckgcpoheodbcaaDoor
