/-
  The document's roots in memory; its New.
-/
import Derived.Test.YtemdmpfifcihfaaR22
import Derived.Test.YtemdmpfifcihfaaR24
set_option linter.unusedVariables false
namespace Go.Proofs.Ytemdmpfifcihfaa
open Go.RowKit

theorem Try.infoRThread : (Try.prog.info? 76).map (fun i => (i.zero, i.size, i.bytes)) = some (some (.agg #[.slice none 0 0, .slice none 0 0]), 2, 48) := by kernel_rfl

/-- Where frames of such sizes begin. -/
def sts (l : List Int) : List Int := (List.range l.length).map fun i => (l.take i).sum

theorem sts_length (l : List Int) : (sts l).length = l.length := by simp [sts]

/-- The document's lists: row t * 2: the slots of thread t, row t * 2 + 1: where its frames begin; the handles; the queue. -/
def rrow (S : Sta) (j : Nat) : List Int := if j = S.T * 2 then tolds S.hs else if j = S.T * 2 + 1 then S.qs else if j % 2 = 0 then S.rw (j + 1) else sts (S.rw (j - 1))

structure Rf (w : World) (base b : Nat) (vt : Value) (vs : Nat → Value) (S : Sta) : Prop where
  bb : base ≤ b
  own : w.heap[b]? = some (.cells #[vt, .int .i64 S.most, vs (S.T * 2), vs (S.T * 2 + 1)] 74 (0, 0))
  thr : w.ownsRow base 76 2 vt S.T ((List.range (S.T * 2)).map vs)
  row : ∀ j, j < S.T * 2 + 2 → w.ownsRow base 3 1 (vs j) (rrow S j).length (ints (rrow S j))
  ap : ∀ i j k, i < S.T * 2 + 2 → j < S.T * 2 + 2 → (vs i).ownBlock = some k → (vs j).ownBlock = some k → i = j

def rfp (b : Nat) (vt : Value) (T : Nat) (vs : Nat → Value) : List Nat := b :: (vt.ownBlock.toList ++ (List.range (T * 2 + 2)).filterMap fun i => (vs i).ownBlock)

theorem mem_rfp {b : Nat} {vt : Value} {T : Nat} {vs : Nat → Value} {k : Nat} : k ∈ rfp b vt T vs ↔ k = b ∨ vt.ownBlock = some k ∨ ∃ i, i < T * 2 + 2 ∧ (vs i).ownBlock = some k := by
  simp [rfp]

theorem Rf.mem {w : World} {base b : Nat} {vt : Value} {vs : Nat → Value} {S : Sta} (H : Rf w base b vt vs S) : ∀ k, k ∈ rfp b vt S.T vs → base ≤ k ∧ k < w.heap.size := by
  intro k hk
  rcases mem_rfp.1 hk with rfl | hk | ⟨i, hi, hv⟩
  · exact ⟨H.bb, heap_lt H.own⟩
  · exact H.thr.lt k hk
  · exact (H.row i hi).lt k hv

theorem Rf.keep {w w' : World} {base b : Nat} {vt : Value} {vs : Nat → Value} {S : Sta} (H : Rf w base b vt vs S) (hk : ∀ k, k ∈ rfp b vt S.T vs → w'.heap[k]? = w.heap[k]?) : Rf w' base b vt vs S :=
  ⟨H.bb, (hk b (by simp [mem_rfp])).trans H.own, own_keep (k := 0) H.thr (fun k e => hk k (by simp [mem_rfp, e])), fun i hi => own_keep (k := 0) (H.row i hi) (fun k e => hk k (mem_rfp.2 (.inr (.inr ⟨i, hi, e⟩)))), H.ap⟩

/-- The document's roots, whatever blocks they lie in. -/
def Rfs (w : World) (base b : Nat) (S : Sta) (F : List Nat) : Prop := ∃ vt vs, Rf w base b vt vs S ∧ F = rfp b vt S.T vs

theorem Rfs.mem {w : World} {base b : Nat} {S : Sta} {F : List Nat} (H : Rfs w base b S F) : ∀ k, k ∈ F → base ≤ k ∧ k < w.heap.size := by
  obtain ⟨vt, vs, H, rfl⟩ := H
  exact H.mem

theorem Rfs.keep {w w' : World} {base b : Nat} {S : Sta} {F G : List Nat} (H : Rfs w base b S F) (ht : Touch G w w') (ha : Apart F G) : Rfs w' base b S F := by
  obtain ⟨vt, vs, H, rfl⟩ := H
  exact ⟨vt, vs, H.keep (fun k hk => ht.block k (H.mem k hk).2 (ha k hk)), rfl⟩

theorem Rfs.nil {w w' : World} {base b : Nat} {S : Sta} {F : List Nat} (H : Rfs w base b S F) (ht : Touch [] w w') : Rfs w' base b S F := H.keep ht (fun k _ h => by cases h)

set_option maxRecDepth 20000 in
theorem r5new_out (a b c : Int) (h : ¬ Mays a b c) (w : World) :
    Calls Try.prog 9 #[.int .i64 a, .int .i64 b, .int .i64 c] w fun e w' => e = .returned (.tuple #[.pointer none, .int .i64 50]) ∧ w = w' := by
  unfold Mays at h
  by_cases h1 : a < 1
  · clear h
    go_enter Try.func9, Try.ntmps9
    go_wp2
    go_ret2
    exact ⟨rfl, rfl⟩
  by_cases h2 : 8 < a
  · clear h
    go_enter Try.func9, Try.ntmps9
    go_wp2
    go_ret2
    exact ⟨rfl, rfl⟩
  by_cases h3 : b < 1
  · clear h
    go_enter Try.func9, Try.ntmps9
    go_wp2
    go_ret2
    exact ⟨rfl, rfl⟩
  by_cases h4 : 4096 < b
  · clear h
    go_enter Try.func9, Try.ntmps9
    go_wp2
    go_ret2
    exact ⟨rfl, rfl⟩
  by_cases h5 : c < 0
  · clear h
    go_enter Try.func9, Try.ntmps9
    go_wp2
    go_ret2
    exact ⟨rfl, rfl⟩
  have h6 : 1024 < c := by omega
  clear h
  go_enter Try.func9, Try.ntmps9
  go_wp2
  go_ret2
  exact ⟨rfl, rfl⟩

/-- Between two threads of New. -/
structure Q1 (w0 : World) (b : Nat) (m : Nat) (k : Nat) (w : World) : Prop where
  ex : ∃ vt, w.heap[b]? = some (.cells #[vt, .int .i64 m, .slice none 0 0, .slice none 0 0] 74 (0, 0)) ∧ w.ownsRow w0.heap.size 76 2 vt k (List.replicate (k * 2) (.slice none 0 0))
  be : Below w0.heap.size w0 w

/-- Between two handles of New. -/
structure Q2 (w0 : World) (b : Nat) (m T : Nat) (k : Nat) (w : World) : Prop where
  ex : ∃ vt vh, w.heap[b]? = some (.cells #[vt, .int .i64 m, vh, .slice none 0 0] 74 (0, 0)) ∧ w.ownsRow w0.heap.size 76 2 vt T (List.replicate (T * 2) (.slice none 0 0)) ∧ w.ownsRow w0.heap.size 3 1 vh k (ints (List.replicate k (-1)))
  be : Below w0.heap.size w0 w

theorem row_ne2 {w : World} {b base t n size : Nat} {cs : Array Value} {v : Value} {xs : List Value} {e : Nat} (hh : w.heap[b]? = some (.cells cs t (0, 0))) (hr : w.ownsRow base e size v n xs) (hte : t ≠ e := by decide) : some b ≠ v.ownBlock := by
  intro h
  rcases hr.2 with ⟨rfl, _⟩ | ⟨g, cap, cur, rfl, _, hg, _⟩
  · simp [Value.ownBlock] at h
  · simp only [Value.ownBlock, Option.some.injEq] at h
    subst h
    rw [hh] at hg
    simp only [Option.some.injEq, Obj.cells.injEq] at hg
    exact hte hg.2.1

theorem rows_ne {w : World} {b1 b2 n1 n2 s1 s2 e1 e2 : Nat} {v1 v2 : Value} {x1 x2 : List Value} (h1 : w.ownsRow b1 e1 s1 v1 n1 x1) (h2 : w.ownsRow b2 e2 s2 v2 n2 x2) (hne : e1 ≠ e2 := by decide) : ∀ k, v1.ownBlock = some k → v2.ownBlock ≠ some k := by
  intro k e e'
  rcases h1.2 with ⟨rfl, _⟩ | ⟨g, cap, cur, rfl, _, hg, _⟩
  · simp [Value.ownBlock] at e
  · simp only [Value.ownBlock, Option.some.injEq] at e
    subst e
    exact row_ne2 hg h2 hne e'.symm

theorem Q1.step {w0 : World} {b m k : Nat} {w w1 : World} {vt v' : Value} (hb : w0.heap.size ≤ b) (h1 : w.heap[b]? = some (.cells #[vt, .int .i64 m, .slice none 0 0, .slice none 0 0] 74 (0, 0))) (h2 : w.ownsRow w0.heap.size 76 2 vt k (List.replicate (k * 2) (.slice none 0 0))) (be : Below w0.heap.size w0 w)
    (hown : w1.ownsRow w0.heap.size 76 2 v' (k + 1) (List.replicate (k * 2) (.slice none 0 0) ++ [.slice none 0 0, .slice none 0 0])) (hgrow : (w.alloc (.cells #[.slice none 0 0, .slice none 0 0] 76)).grownBy w1 vt.ownBlock) :
    w1.cell? ⟨b, 0, none⟩ = some vt ∧ w1.frozen? ⟨b, 0, none⟩ = false ∧ Q1 w0 b m (k + 1) (w1.setCell ⟨b, 0, none⟩ v') := by
  have hne := row_ne2 h1 h2
  have h11 : w1.heap[b]? = some (.cells #[vt, .int .i64 m, .slice none 0 0, .slice none 0 0] 74 (0, 0)) := by
    rw [hgrow.block b (by have := heap_lt h1; simp; omega) hne]; exact (Below.heap_alloc w _ b (heap_lt h1)).trans h1
  have hne' := row_ne2 h11 hown
  refine ⟨by have := heap_cell h11 0; simpa using this, heap_frozen h11 0, ⟨v', by rw [heap_set h11]; rfl, ?_⟩, ?_⟩
  · have e : List.replicate ((k + 1) * 2) (Value.slice none 0 0) = List.replicate (k * 2) (.slice none 0 0) ++ [.slice none 0 0, .slice none 0 0] := by
      rw [show (k + 1) * 2 = k * 2 + 2 by omega, ← List.replicate_append_replicate]; rfl
    rw [e]
    exact ownsRow_setOther hown hne' _
  · exact ((be.alloc be.size _).grown hgrow (by have := be.size; simp; omega) (fun i e => (h2.lt i e).1)).setCell hb _

theorem Q2.step {w0 : World} {b m T k : Nat} {w w1 : World} {vt vh v' : Value} (hb : w0.heap.size ≤ b) (h1 : w.heap[b]? = some (.cells #[vt, .int .i64 m, vh, .slice none 0 0] 74 (0, 0))) (h2 : w.ownsRow w0.heap.size 76 2 vt T (List.replicate (T * 2) (.slice none 0 0))) (h3 : w.ownsRow w0.heap.size 3 1 vh k (ints (List.replicate k (-1)))) (be : Below w0.heap.size w0 w)
    (hown : w1.ownsRow w0.heap.size 3 1 v' (k + 1) (ints (List.replicate k (-1)) ++ [.int .i64 (-1)])) (hgrow : (w.alloc (.cells #[.int .i64 (-1)] 3)).grownBy w1 vh.ownBlock) :
    w1.cell? ⟨b, 2, none⟩ = some vh ∧ w1.frozen? ⟨b, 2, none⟩ = false ∧ Q2 w0 b m T (k + 1) (w1.setCell ⟨b, 2, none⟩ v') := by
  have hne := row_ne2 h1 h3
  have hne2 := row_ne2 h1 h2
  have h11 : w1.heap[b]? = some (.cells #[vt, .int .i64 m, vh, .slice none 0 0] 74 (0, 0)) := by
    rw [hgrow.block b (by have := heap_lt h1; simp; omega) hne]; exact (Below.heap_alloc w _ b (heap_lt h1)).trans h1
  have hne' := row_ne2 h11 hown
  refine ⟨by have := heap_cell h11 2; simpa using this, heap_frozen h11 2, ⟨vt, v', by rw [heap_set h11]; rfl, ?_, ?_⟩, ?_⟩
  · refine ownsRow_setOther (own_keep (k := 0) h2 (fun j e => ?_)) hne2 _
    rw [hgrow.block j (by have := (h2.lt j e).2; simp; omega) (fun e2 => rows_ne h2 h3 (by decide) j e e2.symm)]
    exact Below.heap_alloc w _ j (h2.lt j e).2
  · have e : ints (List.replicate (k + 1) (-1)) = ints (List.replicate k (-1)) ++ [.int .i64 (-1)] := by
      rw [← List.replicate_append_replicate]; simp [ints]
    rw [e]
    exact ownsRow_setOther hown hne' _
  · exact ((be.alloc be.size _).grown hgrow (by have := be.size; simp; omega) (fun i e => (h3.lt i e).1)).setCell hb _

theorem tolds_none (H : Nat) : tolds (List.replicate H none) = List.replicate H (-1) := by simp [tolds]

theorem Q2.done {w0 : World} {b m T H : Nat} {w : World} (h : Q2 w0 b m T H w) (hb : w0.heap.size ≤ b) : ∃ F, Rfs w w0.heap.size b (sta0 T m H) F := by
  obtain ⟨vt, vh, h1, h2, h3⟩ := h.ex
  refine ⟨_, vt, fun j => if j = T * 2 then vh else .slice none 0 0, ⟨hb, ?_, ?_, fun j hj => ?_, fun i j k hi hj ei ej => ?_⟩, rfl⟩
  · simpa [sta0] using h1
  · have e : ((List.range (T * 2)).map fun j => if j = T * 2 then vh else .slice none 0 0) = List.replicate (T * 2) (.slice none 0 0) := by
      rw [List.eq_replicate_iff]
      refine ⟨by simp, fun x hx => ?_⟩
      obtain ⟨j, hj, rfl⟩ := List.mem_map.1 hx
      rw [if_neg (by have := List.mem_range.1 hj; omega)]
    show w.ownsRow _ _ _ vt T ((List.range (T * 2)).map _)
    rw [e]
    exact h2
  · by_cases e : j = T * 2
    · subst e
      have e1 : rrow (sta0 T m H) (T * 2) = List.replicate H (-1) := by unfold rrow; rw [if_pos (by rfl)]; exact tolds_none H
      rw [e1]
      simp only [if_pos]
      simpa using h3
    · have e1 : rrow (sta0 T m H) j = [] := by
        unfold rrow
        rw [if_neg (show ¬ j = (sta0 T m H).T * 2 from e)]
        by_cases e2 : j = (sta0 T m H).T * 2 + 1
        · rw [if_pos e2]; rfl
        · rw [if_neg e2]
          split
          · rfl
          · rfl
      rw [e1]
      simp only [if_neg e]
      exact World.ownsRow_nil _ _ _ _
  · by_cases e1 : i = T * 2
    · by_cases e2 : j = T * 2
      · omega
      · simp [e2, Value.ownBlock] at ej
    · simp [e1, Value.ownBlock] at ei

theorem cells2_new (w : World) (a b : Value) (t : TypeId) : ∀ (j : Nat) u, [a, b][j]? = some u → (w.alloc (.cells #[a, b] t)).cell? ((⟨w.heap.size, 0, none⟩ : Addr).add j) = some u := by
  intro j u h
  rw [Addr.add_lit, Nat.zero_add]
  match j, h with
  | 0, h | 1, h => simp at h; subst h; simp
  | j + 2, h => simp at h

set_option maxRecDepth 20000 in
set_option maxHeartbeats 2000000 in
theorem r5new_in (T m H : Nat) (hT : 1 ≤ T) (hT8 : T ≤ 8) (hm : 1 ≤ m) (hm2 : m ≤ 4096) (hH : H ≤ 1024) (w : World) :
    Calls Try.prog 9 #[.int .i64 T, .int .i64 m, .int .i64 H] w fun e w' => ∃ b F, e = .returned (.tuple #[.pointer (some ⟨b, 0, none⟩), .int .i64 0]) ∧ Rfs w' w.heap.size b (sta0 T m H) F ∧ Below w.heap.size w w' := by
  obtain ⟨i0, hi0, hz0, hz1, hz2⟩ := info_parts Try.infoRThread
  obtain ⟨j0, hj0, hy0, hy1, hy2⟩ := info_parts Try.infoInt
  have HH : Hid ((Try.prog.info? 76 = some i0) ∧ i0.zero = some (.agg #[.slice none 0 0, .slice none 0 0]) ∧ i0.size = 2 ∧ i0.bytes = 48) := ⟨hi0, hz0, hz1, hz2⟩
  have HI : Hid ((Try.prog.info? 3 = some j0) ∧ j0.zero = some (.int .i64 0) ∧ j0.size = 1 ∧ j0.bytes = 8) := ⟨hj0, hy0, hy1, hy2⟩
  have p1 : ¬ (T : Int) < 1 := by omega
  have p2 : ¬ (8 : Int) < (T : Int) := by omega
  have p3 : ¬ (m : Int) < 1 := by omega
  have p4 : ¬ (4096 : Int) < (m : Int) := by omega
  have p5 : ¬ (H : Int) < 0 := by omega
  have p6 : ¬ (1024 : Int) < (H : Int) := by omega
  have Hb : Hid (1 ≤ T ∧ T ≤ 8 ∧ 1 ≤ m ∧ m ≤ 4096 ∧ H ≤ 1024) := ⟨hT, hT8, hm, hm2, hH⟩
  clear hi0 hz0 hz1 hz2 hj0 hy0 hy1 hy2 hT hT8 hm hm2 hH
  go_enter Try.func9, Try.ntmps9
  go_upto_region 4 with fail
  clear p1 p2 p3 p4 p5 p6
  have hQ : Hid (Q1 w w.heap.size m 0 (w.alloc (.cells #[.slice none 0 0, .int .i64 m, .slice none 0 0, .slice none 0 0] 74))) := ⟨⟨_, heap_alloc_new w _, World.ownsRow_nil _ _ _ _⟩, Below.alloc (Below.refl _ _) (Nat.le_refl _) _⟩
  generalize w.alloc (.cells #[.slice none 0 0, .int .i64 m, .slice none 0 0, .slice none 0 0] 74) = w1 at *
  go_wp2
  go_loopw [9] (fun i wr => ∃ (k : Nat), k ≤ T ∧ i = .int .i64 k ∧ Hid (Q1 w w.heap.size m k wr)) (fun i _ => T - (intOf i).toNat)
  case atStart => exact ⟨0, Nat.zero_le _, rfl, hQ⟩
  case round =>
    obtain ⟨k, hk, rfl, hq⟩ := hrel
    clear hQ
    by_cases hlt : k < T
    · obtain ⟨vt, h1, h2⟩ := hq.out.ex
      obtain ⟨a, c, rfl⟩ := own_slice h2
      have c0 : wr.cell? ⟨w.heap.size, 0, none⟩ = some (.slice a k c) := by have := heap_cell h1 0; simpa using this
      have H12 : Hid (wr.heap[w.heap.size]? = some (.cells #[.slice a k c, .int .i64 m, .slice none 0 0, .slice none 0 0] 74 (0, 0)) ∧ wr.ownsRow w.heap.size 76 2 (.slice a k c) k (List.replicate (k * 2) (.slice none 0 0)) ∧ Below w.heap.size w wr) := ⟨h1, h2, hq.out.be⟩
      have hki : (k : Int) < (T : Int) := by omega
      have hk8 : k < 8 := by have := Hb.out; omega
      clear h1 h2 hq
      go_wp2_with (at_builtin; refine wpList_append_own_at _ rfl _ _ 72 rfl w.heap.size 76 i0 (.agg #[.slice none 0 0, .slice none 0 0]) 2 48 Try.underlying72 HH.out.1 HH.out.2.1 HH.out.2.2.1 HH.out.2.2.2 rfl (by decide) _ _ _ rfl (H12.out.2.1.alloc _) ⟨wr.heap.size, 0, none⟩ 1 1 [.slice none 0 0, .slice none 0 0] rfl rfl (cells2_new _ _ _ _) (by simp [Value.oneCell']) (by simp [maxLen]; omega) (by omega) (by have := H12.out.2.2.size; simp; omega) ?_)
      intro v' w2 o2 g2 _ _
      obtain ⟨s1, s2, s3⟩ := Q1.step (Nat.le_refl _) H12.out.1 H12.out.2.1 H12.out.2.2 o2 g2
      obtain ⟨a2, c2, rfl⟩ := own_slice o2
      have S3 : Hid (Q1 w w.heap.size m (k + 1) (w2.setCell ⟨w.heap.size, 0, none⟩ (.slice a2 (k + 1) c2))) := s3
      clear o2 g2 s3 H12 c0
      go_wp2
      go_roundw
      case rel => exact ⟨k + 1, hlt, by go_num, S3⟩
      case measure => simp [intOf]; omega
    · obtain rfl : k = T := by omega
      have hQ2 : Hid (Q2 w w.heap.size m k 0 wr) := by
        obtain ⟨vt, h1, h2⟩ := hq.out.ex
        exact ⟨⟨vt, _, h1, h2, World.ownsRow_nil _ _ _ _⟩, hq.out.be⟩
      clear hq
      go_wp2
      go_loopw [10] (fun i wr => ∃ (j : Nat), j ≤ H ∧ i = .int .i64 j ∧ Hid (Q2 w w.heap.size m k j wr)) (fun i _ => H - (intOf i).toNat)
      case atStart => exact ⟨0, Nat.zero_le _, rfl, hQ2⟩
      case round =>
        obtain ⟨j, hj, rfl, hq⟩ := hrel
        clear hQ2
        by_cases hlt2 : j < H
        · obtain ⟨vt, vh, h1, h2, h3⟩ := hq.out.ex
          obtain ⟨a, c, rfl⟩ := own_slice h3
          have c0 : wr.cell? ⟨w.heap.size, 2, none⟩ = some (.slice a j c) := by have := heap_cell h1 2; simpa using this
          have H12 : Hid (wr.heap[w.heap.size]? = some (.cells #[vt, .int .i64 m, .slice a j c, .slice none 0 0] 74 (0, 0)) ∧ wr.ownsRow w.heap.size 76 2 vt k (List.replicate (k * 2) (.slice none 0 0)) ∧ wr.ownsRow w.heap.size 3 1 (.slice a j c) j (ints (List.replicate j (-1))) ∧ Below w.heap.size w wr) := ⟨h1, h2, h3, hq.out.be⟩
          have hki : (j : Int) < (H : Int) := by omega
          have hk8 : j < 1024 := by have := Hb.out; omega
          clear h1 h2 h3 hq
          go_wp2_with (at_builtin; refine wpList_append_own_at _ rfl _ _ 31 rfl w.heap.size 3 j0 (.int .i64 0) 1 8 Try.underlying31 HI.out.1 HI.out.2.1 HI.out.2.2.1 HI.out.2.2.2 rfl (by decide) _ _ _ rfl (H12.out.2.2.1.alloc _) ⟨wr.heap.size, 0, none⟩ 1 1 [.int .i64 (-1)] rfl rfl (cell_one_new _ _ _) (by simp [Value.oneCell']) (by simp [maxLen]; omega) (by omega) (by have := H12.out.2.2.2.size; simp; omega) ?_)
          intro v' w2 o2 g2 _ _
          obtain ⟨s1, s2, s3⟩ := Q2.step (Nat.le_refl _) H12.out.1 H12.out.2.1 H12.out.2.2.1 H12.out.2.2.2 (by simpa using o2) g2
          obtain ⟨a2, c2, rfl⟩ := own_slice o2
          have S3 : Hid (Q2 w w.heap.size m k (j + 1) (w2.setCell ⟨w.heap.size, 2, none⟩ (.slice a2 (j + 1) c2))) := s3
          clear o2 g2 s3 H12 c0
          go_wp2
          go_roundw
          case rel => exact ⟨j + 1, hlt2, by go_num, S3⟩
          case measure => simp [intOf]; omega
        · obtain rfl : j = H := by omega
          obtain ⟨F, hF⟩ := hq.out.done (Nat.le_refl _)
          have HF : Hid (Rfs wr w.heap.size w.heap.size (sta0 k m j) F ∧ Below w.heap.size w wr) := ⟨hF, hq.out.be⟩
          clear hF hq
          go_wp2
          go_ret2
          exact ⟨_, F, rfl, HF.out.1, HF.out.2⟩

end Go.Proofs.Ytemdmpfifcihfaa
