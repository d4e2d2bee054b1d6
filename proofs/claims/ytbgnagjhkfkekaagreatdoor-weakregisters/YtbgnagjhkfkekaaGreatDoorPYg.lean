import Derived.Test.YtbgnagjhkfkekaaGreatDoorPYe
import Derived.Deep.Upon
import Derived.Test.YtbgnagjhkfkekaaGreatDoorPYf
/-
  slices.Concat of two lists; Prune.
-/
set_option linter.unusedVariables false
set_option maxRecDepth 20000
namespace Go.Proofs.YtbgnagjhkfkekaaGreatDoor
open Go.RowKit Go.Shelf

def two {α : Type} (a b : α) (k : Nat) : α := if k = 0 then a else b
def upto (X : Nat → List Int) (k : Nat) : List Int := ((List.range k).map X).flatten

theorem upto_succ (X : Nat → List Int) (k : Nat) : upto X (k + 1) = upto X k ++ X k := by simp [upto, List.range_succ]

theorem upto_two (xs ys : List Int) : upto (two xs ys) 2 = xs ++ ys := by simp [upto, two, List.range_succ]

end Go.Proofs.YtbgnagjhkfkekaaGreatDoor

/-
  A list copied behind nothing; the kind, exact.
-/
set_option linter.unusedVariables false
set_option maxRecDepth 20000
namespace Go.Proofs.YtbgnagjhkfkekaaGreatDoor
open Go.RowKit Go.Shelf

theorem wpList_append_copy {P : Program} {w : World} {ops : Array Oper} {rest : List Oper} {o : Oper} {a : Act} {Q : Exit → Act → World → Prop} (hgd : o.guard = none) (s x : Operand) (t : TypeId)
    (ho : o.op = .call { callee := .builtin .append, args := #[s, x], argTypes := #[t, t] }) (k : IntKind) (e : TypeId) (i : TypeInfo) (bytes : Nat) (ht : P.underlying t = some (.slice e)) (hi : P.info? e = some i) (hz : i.zero = some (.int k 0))
    (hsize : i.size = 1) (hby : i.bytes = bytes) (hb8 : bytes ≤ 8) (hs : a.eval s = .slice none 0 0) (v : Value) (xs : List Int) (n0 : Nat) (hx : a.eval x = v) (hrd : Lrd n0 w v k xs) (hlen : xs.length ≤ 4294967296)
    (h : ∀ v' w', w'.ownsRow w.heap.size e 1 v' xs.length (xs.map (Value.int k)) → Below w.heap.size w w' → wpList P ops Q rest (a.put o.dst v') w') :
    wpList P ops Q (o :: rest) a w := by
  obtain ⟨ad, cap, rfl, hcap, hc⟩ := hrd
  cases ad with
  | none =>
    have hx0 : xs = [] := by
      cases xs with
      | nil => rfl
      | cons y ys =>
        obtain ⟨q, off, e, -⟩ := hc 0 y rfl
        cases e
    subst hx0
    have hr := run_append_nothing (P := P) w t t o.type e i ht hi none 0 0 (Nat.le_refl _) (.slice none 0 cap) (Src.ofNil w ht cap)
    exact Lib.wpList_append_run _ hgd s x t t ho _ _ hs hx _ _ hr (h _ _ (World.ownsRow_nil _ _ _ _) (Below.refl _ _))
  | some ad =>
    refine wpList_append_own_at _ hgd s x t ho w.heap.size e i (.int k 0) 1 bytes ht hi hz hsize hby rfl (by decide) (.slice none 0 0) 0 [] hs (World.ownsRow_nil _ _ _ _) ad xs.length cap (xs.map (Value.int k)) hx (by simp) ?_ (fun u hu => by obtain ⟨z, -, rfl⟩ := List.mem_map.1 hu; rfl) (by simp [maxLen]; omega) (Nat.le_trans (Nat.mul_le_mul (show 0 + xs.length ≤ 4294967296 by omega) hb8) (by omega)) (Nat.le_refl _) ?_
    · intro j u hu
      rw [List.getElem?_map] at hu
      cases hz : xs[j]? with
      | none => rw [hz] at hu; simp at hu
      | some z =>
        rw [hz] at hu
        simp at hu
        obtain ⟨q, off, e1, e2, e3⟩ := hc j z hz
        simp at e1
        subst e1
        have hadd : (⟨q, off, none⟩ : Addr).add j = ⟨q, off + j, none⟩ := by unfold Addr.add; split <;> simp_all
        rw [hadd, ← hu]
        exact e3
    · intro v' w' hown hgrow _ hat
      refine h v' w' (by simpa using hown) ((Below.refl _ w).grown hgrow (Nat.le_refl _) (fun y hy => by simp [Value.ownBlock] at hy))

/-- A slice's head. -/
theorem Lrd.take {n0 : Nat} {w : World} {a : Option Addr} {n cap : Nat} {k : IntKind} {xs : List Int} (h : Lrd n0 w (.slice a n cap) k xs) (m : Nat) (hm : m ≤ n) : Lrd n0 w (.slice a m cap) k (xs.take m) := by
  obtain ⟨a', cap', h1, h2, h3⟩ := h
  simp only [Value.slice.injEq] at h1
  obtain ⟨rfl, rfl, rfl⟩ := h1
  have hl : (xs.take m).length = m := by rw [List.length_take]; omega
  refine ⟨a, cap, by rw [hl], by rw [hl]; omega, fun f z hz => h3 f z ?_⟩
  rw [List.getElem?_take] at hz
  split at hz
  · exact hz
  · simp at hz

/-- The kind that a thing gets. -/
def kdq (q n : Int) : Int := if (q = 1 ∧ n < 1) ∨ (q = 2 ∧ n < 2) then 1 else 1 + q
def kdf (k n : Int) : Int := kdq (amg (wrap64 (k - 1)) 4) n

theorem kdf_ok (k n : Int) : KdOk (kdf k n) n := by
  have hi := amg_in (wrap64 (k - 1)) 4 (by omega)
  unfold KdOk kdf kdq
  split <;> omega

set_option maxHeartbeats 2000000 in
theorem kind_core2 (k z n : Int) (hw : wrap64 (k - 1) = z) (hz : InI z) (w : World) :
    Calls Tryz.prog 22 #[.int .i64 k, .int .i64 n] w fun e w' => e = .returned (.int .i64 (kdq (amg z 4) n)) ∧ w' = w := by
  have ha := among_any z 4 hz (by omega) w
  have hi := amg_in z 4 (by omega)
  generalize amg z 4 = q at *
  clear hz
  go_enter Tryz.func22, Tryz.ntmps22
  go_wp2_with fail
  refine ha.mono ?_
  rintro e w1 ⟨rfl, rfl⟩
  clear ha hw
  obtain e | e | e | e : q = 0 ∨ q = 1 ∨ q = 2 ∨ q = 3 := by omega
  · subst e
    go_wp2
    go_ret
    exact ⟨by rw [show kdq 0 n = 1 from by unfold kdq; rw [if_neg (by omega)]; rfl]; rfl, rfl⟩
  · subst e
    by_cases h1 : n < 1
    · go_wp2
      go_ret
      exact ⟨by rw [show kdq 1 n = 1 from by unfold kdq; rw [if_pos (by omega)]]; rfl, rfl⟩
    · go_wp2
      go_ret
      exact ⟨by rw [show kdq 1 n = 2 from by unfold kdq; rw [if_neg (by omega)]; rfl]; rfl, rfl⟩
  · subst e
    by_cases h1 : n < 2
    · go_wp2
      go_ret
      exact ⟨by rw [show kdq 2 n = 1 from by unfold kdq; rw [if_pos (by omega)]]; rfl, rfl⟩
    · go_wp2
      go_ret
      exact ⟨by rw [show kdq 2 n = 3 from by unfold kdq; rw [if_neg (by omega)]; rfl]; rfl, rfl⟩
  · subst e
    go_wp2
    go_ret
    exact ⟨by rw [show kdq 3 n = 4 from by unfold kdq; rw [if_neg (by omega)]; rfl]; rfl, rfl⟩

theorem kind_is (k n : Int) (w : World) :
    Calls Tryz.prog 22 #[.int .i64 k, .int .i64 n] w fun e w' => e = .returned (.int .i64 (kdf k n)) ∧ w' = w := kind_core2 k _ n rfl (wrap_in _) w

end Go.Proofs.YtbgnagjhkfkekaaGreatDoor

/-
  Fix: what its loops keep.
-/
set_option linter.unusedVariables false
set_option maxRecDepth 20000
namespace Go.Proofs.YtbgnagjhkfkekaaGreatDoor
open Go.RowKit Go.Shelf

theorem row_base {w : World} {base n e size : Nat} {v : Value} {xs : List Value} (h : w.ownsRow base e size v n xs) (k : Nat) (hk : v.ownBlock = some k) : base ≤ k := by
  rcases h.2 with ⟨rfl, _⟩ | ⟨g, cap, cur, rfl, hb, _⟩
  · simp [Value.ownBlock] at hk
  · simp [Value.ownBlock] at hk
    omega
theorem row_zero {w : World} {base n e size : Nat} {v : Value} {xs : List Value} (h : w.ownsRow base e size v n xs) : w.ownsRow 0 e size v n xs := ⟨h.1, by
  rcases h.2 with hh | ⟨g, cap, cur, e1, -, e2⟩
  · exact .inl hh
  · exact .inr ⟨g, cap, cur, e1, Nat.zero_le _, e2⟩⟩

theorem hinfo7 : (Tryz.prog.info? 60).map (·.size) = some 7 := by kernel_rfl

/-- The plan in block B, the lay in block B + 1, its things. -/
structure Fq (w v : World) (B : Nat) (cp c : Cfg) (pl tv av : Value) (L : List LT) (x : Tps) (q4 : Int) : Prop where
  ly : Lw v (B + 1) c tv av (firsts c) (topf x) (endsf c) q4
  pd : Pd v B cp pl
  lf : Lf v tv av L
  be : Below w.heap.size w v
  bw : w.heap.size ≤ B
  ft : ∀ y, tv.ownBlock = some y → w.heap.size ≤ y
  fa : ∀ y, av.ownBlock = some y → w.heap.size ≤ y
  fp : ∀ T, T ∈ L → ∀ y, T.vp.ownBlock = some y → w.heap.size ≤ y

section
variable {w v v' : World} {B : Nat} {cp c : Cfg} {pl tv av : Value} {L : List LT} {x : Tps} {q4 : Int}

theorem Fq.lt (H : Fq w v B cp c pl tv av L x q4) : B + 1 < v.heap.size := H.ly.lt

theorem Fq.below (H : Fq w v B cp c pl tv av L x q4) (l : Below v.heap.size v v') : Fq w v' B cp c pl tv av L x q4 :=
  ⟨H.ly.of_block (l.block _ H.ly.lt), H.pd.below l, H.lf.below l, H.be.trans (l.mono H.be.size), H.bw, H.ft, H.fa, H.fp⟩

theorem topf_put (x : Tps) (s z : Int) (h1 : 1 ≤ s) (h4 : s ≤ 4) (j : Nat) (hj : j < 5) : topf (x.put s z) j = if j = s.toNat then z else topf x j := by
  obtain rfl | rfl | rfl | rfl : s = 1 ∨ s = 2 ∨ s = 3 ∨ s = 4 := by omega
  all_goals
    match j, hj with
    | 0, _ | 1, _ | 2, _ | 3, _ | 4, _ => rfl

/-- A top is written. -/
theorem Fq.top (H : Fq w v B cp c pl tv av L x q4) (s z : Int) (h1 : 1 ≤ s) (h4 : s ≤ 4) : Fq w (v.setCell ⟨B + 1, 21 + s.toNat, none⟩ (.int .i64 z)) B cp c pl tv av L (x.put s z) q4 := by
  have hn : ∀ k, k ≠ B + 1 → (v.setCell ⟨B + 1, 21 + s.toNat, none⟩ (.int .i64 z)).heap[k]? = v.heap[k]? := fun k hk => Below.heap_setCell _ _ _ _ hk
  obtain ⟨cs, hcs, -⟩ := H.ly
  refine ⟨(H.ly.set (21 + s.toNat) (.int .i64 z)).congr (fun j hj => ?_), ⟨(hn B (by omega)).trans H.pd.at_⟩, H.lf.touch (F := [B + 1]) ⟨rfl, rfl, rfl, by simp [World.setCell], fun k hk hF => hn k (by simpa using hF)⟩ (fun q ds ty hq ht => ?_), Below.setCell (p := ⟨B + 1, 21 + s.toNat, none⟩) H.be (by have := H.bw; simp only; omega) _, H.bw, H.ft, H.fa, H.fp⟩
  · by_cases e : j = 21 + s.toNat
    · subst e
      rw [if_pos rfl]
      unfold lyg
      rw [if_neg (by omega), if_neg (by omega), if_neg (by omega), if_neg (by omega), if_pos (by omega), topf_put x s z h1 h4 _ (by omega), if_pos (by omega)]
    · rw [if_neg e]
      unfold lyg
      repeat' split
      all_goals first
        | rfl
        | (rw [topf_put x s z h1 h4 _ (by omega), if_neg (by omega)])
        | omega
  · have : q ≠ B + 1 := by
      rcases ht with rfl | rfl | rfl
      · exact heap_ty_ne hq hcs (by decide)
      · exact heap_ty_ne hq hcs (by decide)
      · exact heap_ty_ne hq hcs (by decide)
    simpa using this

/-- Between the two appends. -/
structure Fi (w v : World) (B : Nat) (cp c : Cfg) (pl tv av : Value) (L : List LT) (T : LT) (x : Tps) (q4 : Int) : Prop where
  ly : Lw v (B + 1) c tv av (firsts c) (topf x) (endsf c) q4
  pd : Pd v B cp pl
  row : v.ownsRow 0 63 11 tv (L.length + 1) (lflat L ++ T.cells.toList)
  att : v.ownsRow 0 3 1 av L.length (ints (L.map (·.at_)))
  pb : ∀ U, U ∈ L → v.ownsRow 0 3 1 U.vp U.ps.length (ints U.ps)
  rb : ∀ U, U ∈ L → v.ownsRow 0 58 1 U.vr U.rs.length (words U.rs)
  hp : v.ownsRow 0 3 1 T.vp T.ps.length (ints T.ps)
  hr : v.ownsRow 0 58 1 T.vr T.rs.length (words T.rs)
  dp : ∀ (i j : Nat) U V, L[i]? = some U → L[j]? = some V → i ≠ j → ∀ q, U.vp.ownBlock = some q → V.vp.ownBlock ≠ some q
  da : ∀ U, U ∈ L → ∀ q, U.vp.ownBlock = some q → av.ownBlock ≠ some q
  dn : ∀ q, T.vp.ownBlock = some q → av.ownBlock ≠ some q ∧ ∀ U, U ∈ L → U.vp.ownBlock ≠ some q
  inn : ∀ U, U ∈ L → U.In
  inT : T.In
  be : Below w.heap.size w v
  bw : w.heap.size ≤ B
  ft : ∀ y, tv.ownBlock = some y → w.heap.size ≤ y
  fa : ∀ y, av.ownBlock = some y → w.heap.size ≤ y
  fp : ∀ U, U ∈ L → ∀ y, U.vp.ownBlock = some y → w.heap.size ≤ y
  fT : ∀ y, T.vp.ownBlock = some y → w.heap.size ≤ y

theorem ne_of_row {n e s e' s' n' : Nat} {u u' : Value} {xs ys : List Value} (h : v.ownsRow 0 e s u n xs) (h' : v.ownsRow 0 e' s' u' n' ys) (hne : e ≠ e') : ∀ q, u.ownBlock = some q → some q ≠ u'.ownBlock := fun q hq => by
  obtain ⟨cs, hc⟩ := row_cells h hq
  exact row_ne hc h' hne

/-- The thing is appended. -/
theorem Fq.things {T : LT} {o : Obj} {w3 : World} {tv' : Value} (H : Fq w v B cp c pl tv av L x q4) (hrow : w3.ownsRow 0 63 11 tv' (L.length + 1) (lflat L ++ T.cells.toList)) (hg : (v.alloc o).grownBy w3 tv.ownBlock) (hat : tv'.ownBlock = tv.ownBlock ∨ tv'.ownBlock = some (v.heap.size + 1))
    (hp : v.ownsRow 0 3 1 T.vp T.ps.length (ints T.ps)) (hr : v.ownsRow 0 58 1 T.vr T.rs.length (words T.rs)) (hnew : ∀ q, T.vp.ownBlock = some q → av.ownBlock ≠ some q ∧ ∀ U, U ∈ L → U.vp.ownBlock ≠ some q) (hT : T.In) (fT : ∀ y, T.vp.ownBlock = some y → w.heap.size ≤ y) :
    Lw w3 (B + 1) c tv av (firsts c) (topf x) (endsf c) q4 ∧ Fi w (w3.setCell ⟨B + 1, 14, none⟩ tv') B cp c pl tv' av L T x q4 := by
  obtain ⟨cs, hcs, -⟩ := H.ly
  have hsz : v.heap.size ≤ w3.heap.size := by have := hg.size; simp at this; omega
  have hb3 : ∀ k, k < v.heap.size → some k ≠ tv.ownBlock → w3.heap[k]? = v.heap[k]? := fun k hk hne => (hg.block k (by simp; omega) hne).trans (Below.heap_alloc _ _ _ hk)
  have hl3 : w3.heap[B + 1]? = v.heap[B + 1]? := hb3 _ H.lt (row_ne hcs H.lf.row (by decide))
  have y3 : Lw w3 (B + 1) c tv av (firsts c) (topf x) (endsf c) q4 := H.ly.of_block hl3
  have hb4 : ∀ k, k < v.heap.size → some k ≠ tv.ownBlock → k ≠ B + 1 → (w3.setCell ⟨B + 1, 14, none⟩ tv').heap[k]? = v.heap[k]? := fun k hk h1 h2 => (Below.heap_setCell _ _ _ _ h2).trans (hb3 k hk h1)
  have keep : ∀ {e s n : Nat} {u : Value} {ys : List Value}, v.ownsRow 0 e s u n ys → e ≠ 63 → e ≠ 56 → (w3.setCell ⟨B + 1, 14, none⟩ tv').ownsRow 0 e s u n ys := fun h h1 h2 => row_keep h (fun k hk => hb4 k (row_lt h k hk) (ne_of_row h H.lf.row h1 k hk) (fun e => row_ne hcs h (fun e => h2 e.symm) (by rw [← e]; exact hk.symm)))
  have hcs3 : w3.heap[B + 1]? = some (.cells cs 56 (0, 0)) := hl3.trans hcs
  refine ⟨y3, ⟨(y3.set 14 tv').congr (fun j hj => ?_), ⟨(hb4 B H.pd.lt (row_ne H.pd.at_ H.lf.row (by decide)) (by omega)).trans H.pd.at_⟩, row_keep hrow (fun k hk => Below.heap_setCell _ _ _ _ (fun e => row_ne hcs3 hrow (by decide) (by rw [← show k = B + 1 from e]; exact hk.symm))), keep H.lf.att (by decide) (by decide), fun U hU => keep (H.lf.pb U hU) (by decide) (by decide), fun U hU => keep (H.lf.rb U hU) (by decide) (by decide), keep hp (by decide) (by decide), keep hr (by decide) (by decide), H.lf.dp, H.lf.da, hnew, H.lf.inn, hT, ?_, H.bw, ?_, H.fa, H.fp, fT⟩⟩
  · by_cases e : j = 14
    · subst e
      rw [if_pos rfl]
      rfl
    · rw [if_neg e]
      unfold lyg
      repeat' split
      all_goals first | rfl | omega
  · refine Below.setCell (p := ⟨B + 1, 14, none⟩) ?_ (by have := H.bw; simp only; omega) _
    exact (H.be.alloc H.be.size o).grown hg (by have := H.be.size; simp; omega) H.ft
  · intro y hy
    rcases hat with h | h
    · exact H.ft y (h.symm.trans hy)
    · rw [h] at hy
      simp at hy
      have := H.be.size
      omega

/-- Its place is appended. -/
theorem Fi.ats {T : LT} {o : Obj} {w3 : World} {av' : Value} (H : Fi w v B cp c pl tv av L T x q4) (hrow : w3.ownsRow 0 3 1 av' (L.length + 1) (ints (L.map (·.at_)) ++ [.int .i64 T.at_])) (hg : (v.alloc o).grownBy w3 av.ownBlock) (hat : av'.ownBlock = av.ownBlock ∨ av'.ownBlock = some (v.heap.size + 1)) :
    Lw w3 (B + 1) c tv av (firsts c) (topf x) (endsf c) q4 ∧ Fq w (w3.setCell ⟨B + 1, 15, none⟩ av') B cp c pl tv av' (L ++ [T]) x q4 := by
  obtain ⟨cs, hcs, -⟩ := H.ly
  have hsz : v.heap.size ≤ w3.heap.size := by have := hg.size; simp at this; omega
  have hb3 : ∀ k, k < v.heap.size → some k ≠ av.ownBlock → w3.heap[k]? = v.heap[k]? := fun k hk hne => (hg.block k (by simp; omega) hne).trans (Below.heap_alloc _ _ _ hk)
  have hl3 : w3.heap[B + 1]? = v.heap[B + 1]? := hb3 _ H.ly.lt (row_ne hcs H.att (by decide))
  have y3 : Lw w3 (B + 1) c tv av (firsts c) (topf x) (endsf c) q4 := H.ly.of_block hl3
  have hb4 : ∀ k, k < v.heap.size → some k ≠ av.ownBlock → k ≠ B + 1 → (w3.setCell ⟨B + 1, 15, none⟩ av').heap[k]? = v.heap[k]? := fun k hk h1 h2 => (Below.heap_setCell _ _ _ _ h2).trans (hb3 k hk h1)
  have keep : ∀ {e s n : Nat} {u : Value} {ys : List Value}, v.ownsRow 0 e s u n ys → e ≠ 56 → (∀ k, u.ownBlock = some k → some k ≠ av.ownBlock) → (w3.setCell ⟨B + 1, 15, none⟩ av').ownsRow 0 e s u n ys := fun h h2 h1 => row_keep h (fun k hk => hb4 k (row_lt h k hk) (h1 k hk) (fun e => row_ne hcs h (fun e => h2 e.symm) (by rw [← e]; exact hk.symm)))
  have hcs3 : w3.heap[B + 1]? = some (.cells cs 56 (0, 0)) := hl3.trans hcs
  have hnew' : ∀ (U : LT), v.ownsRow 0 3 1 U.vp U.ps.length (ints U.ps) → (∀ q, U.vp.ownBlock = some q → av.ownBlock ≠ some q) → ∀ q, U.vp.ownBlock = some q → av'.ownBlock ≠ some q := fun U hU hd q hq e => by
    rcases hat with h | h
    · exact hd q hq (h.symm.trans e)
    · rw [h] at e
      simp at e
      have := row_lt hU q hq
      omega
  have lf : Lf (w3.setCell ⟨B + 1, 15, none⟩ av') tv av' (L ++ [T]) := by
    have mem : ∀ {V}, V ∈ L ++ [T] → V ∈ L ∨ V = T := fun hV => by simpa using hV
    refine ⟨?_, ?_, fun V hV => ?_, fun V hV => ?_, fun i j V U hi hj hij q hq => ?_, fun V hV q hq => ?_, fun V hV => ?_⟩
    · rw [lflat_snoc, List.length_append]
      exact keep H.row (by decide) (ne_of_row H.row H.att (by decide))
    · rw [List.length_append, List.map_append]
      have := row_keep hrow (w' := w3.setCell ⟨B + 1, 15, none⟩ av') (fun k hk => Below.heap_setCell _ _ _ _ (fun e => row_ne hcs3 hrow (by decide) (by rw [← show k = B + 1 from e]; exact hk.symm)))
      simpa [ints] using this
    · rcases mem hV with h | rfl
      · exact keep (H.pb V h) (by decide) (fun k hk e => H.da V h k hk e.symm)
      · exact keep H.hp (by decide) (fun k hk e => (H.dn k hk).1 e.symm)
    · rcases mem hV with h | rfl
      · exact keep (H.rb V h) (by decide) (ne_of_row (H.rb V h) H.att (by decide))
      · exact keep H.hr (by decide) (ne_of_row H.hr H.att (by decide))
    · rcases snoc_at hi with ⟨i1, hi2⟩ | ⟨rfl, rfl⟩
      · rcases snoc_at hj with ⟨j1, hj2⟩ | ⟨rfl, rfl⟩
        · exact H.dp i j V U hi2 hj2 hij q hq
        · intro e
          exact (H.dn q e).2 V (List.mem_of_getElem? hi2) hq
      · rcases snoc_at hj with ⟨j1, hj2⟩ | ⟨rfl, rfl⟩
        · exact (H.dn q hq).2 U (List.mem_of_getElem? hj2)
        · exact absurd rfl hij
    · rcases mem hV with h | rfl
      · exact hnew' V (H.pb V h) (H.da V h) q hq
      · exact hnew' V H.hp (fun q hq => (H.dn q hq).1) q hq
    · rcases mem hV with h | rfl
      · exact H.inn V h
      · exact H.inT
  refine ⟨y3, ⟨(y3.set 15 av').congr (fun j hj => ?_), ⟨(hb4 B H.pd.lt (row_ne H.pd.at_ H.att (by decide)) (by omega)).trans H.pd.at_⟩, lf, ?_, H.bw, H.ft, ?_, fun U hU y hy => ?_⟩⟩
  · by_cases e : j = 15
    · subst e
      rw [if_pos rfl]
      rfl
    · rw [if_neg e]
      unfold lyg
      repeat' split
      all_goals first | rfl | omega
  · refine Below.setCell (p := ⟨B + 1, 15, none⟩) ?_ (by have := H.bw; simp only; omega) _
    exact (H.be.alloc H.be.size o).grown hg (by have := H.be.size; simp; omega) H.fa
  · intro y hy
    rcases hat with h | h
    · exact H.fa y (h.symm.trans hy)
    · rw [h] at hy
      simp at hy
      have := H.be.size
      omega
  · rcases List.mem_append.1 hU with h | h
    · exact H.fp U h y hy
    · simp at h
      subst h
      exact H.fT y hy

/-- A pointer is made null. -/
theorem Fq.null (H : Fq w v B cp c pl tv av L x q4) {i : Nat} {T : LT} (hT : L[i]? = some T) (k : Nat) (t : Touch T.vp.ownBlock.toList v v') (hp : v'.ownsRow 0 3 1 T.vp T.ps.length (ints (T.ps.set k 0))) : Fq w v' B cp c pl tv av (L.set i { T with ps := T.ps.set k 0 }) x q4 := by
  have hm := List.mem_of_getElem? hT
  obtain ⟨cs, hcs, -⟩ := H.ly
  have hne : ∀ q cs' ty, v.heap[q]? = some (.cells cs' ty (0, 0)) → ty ≠ 3 → q ∉ T.vp.ownBlock.toList := fun q cs' ty hq hty hm' => by
    rw [Option.mem_toList] at hm'
    exact row_ne hq (H.lf.pb T hm) hty hm'.symm
  refine ⟨H.ly.of_block (t.block _ H.lt (hne _ _ _ hcs (by decide))), ⟨(t.block _ H.pd.lt (hne _ _ _ H.pd.at_ (by decide))).trans H.pd.at_⟩, H.lf.null i T hT k t hp, H.be.trans (t.below H.be.size (fun q hq => ?_)), H.bw, H.ft, H.fa, fun U hU y hy => ?_⟩
  · rw [Option.mem_toList] at hq
    exact H.fp T hm q hq
  · obtain ⟨j, hj⟩ := List.getElem?_of_mem hU
    rcases set_at_of hj with ⟨rfl, rfl⟩ | ⟨hn, hj⟩
    · exact H.fp T hm y hy
    · exact H.fp U (List.mem_of_getElem? hj) y hy
/-- A thing in a block is written. -/
theorem Lc.frozen {R : Nat} {T : LT} (h : Lc v R T) (j : Nat) : v.frozen? ⟨R, j, none⟩ = false := by unfold World.frozen?; simp only [h.at_]; simp
theorem Lc.setS {R : Nat} {T : LT} (h : Lc v R T) (z : Int) : Lc (v.setCell ⟨R, 0, none⟩ (.int .i64 z)) R { T with sp := z } := ⟨by simp [World.setCell, Array.getElem?_modify, h.at_]⟩
theorem Lc.setP {R : Nat} {T : LT} (h : Lc v R T) (u : Value) (l : List Int) : Lc (v.setCell ⟨R, 8, none⟩ u) R { T with vp := u, ps := l } := ⟨by simp [World.setCell, Array.getElem?_modify, h.at_]⟩
theorem Lc.setR {R : Nat} {T : LT} (h : Lc v R T) (u : Value) (l : List Int) : Lc (v.setCell ⟨R, 9, none⟩ u) R { T with vr := u, rs := l } := ⟨by simp [World.setCell, Array.getElem?_modify, h.at_]⟩
theorem Lc.setF {R : Nat} {T : LT} (h : Lc v R T) (z : Int) : Lc (v.setCell ⟨R, 10, none⟩ (.int .i64 z)) R { T with fill := z } := ⟨by simp [World.setCell, Array.getElem?_modify, h.at_]⟩
theorem Lc.setH {R : Nat} {T : LT} (h : Lc v R T) (s k p r a t : Int) (hd : Bool) : Lc (v.setCells R 1 (hcells s k p r a t hd).toList) R { T with s := s, k := k, p := p, r := r, a := a, t := t, h := hd } := ⟨by simp [World.setCells, World.setCell, Array.getElem?_modify, h.at_]⟩
theorem Lc.there {R : Nat} {T : LT} (h : Lc v R T) (o n : Nat) (hn : o + n ≤ 11) : v.there R o n := fun j hj => ⟨by rw [h.cell]; simp; omega, h.frozen (o + j)⟩
theorem Lc.range {R : Nat} {T : LT} (h : Lc v R T) : v.rangeAt R 1 (hcells T.s T.k T.p T.r T.a T.t T.h).toList := fun j u hj => by
  have hjl := (List.getElem?_eq_some_iff.1 hj).1
  have hj7 : j < 7 := hjl
  rw [h.cell]
  match j, hj7 with
  | 0, _ | 1, _ | 2, _ | 3, _ | 4, _ | 5, _ | 6, _ => simpa using hj

/-- What a thing of the plan becomes, but for its place. -/
structure Ft (o T : LT) : Prop where
  sp : T.sp = 1 + amg (wrap64 (o.sp - 1)) 4
  fill : T.fill = if 0 < o.fill then 1 + amg (o.fill - 1) 40 else 0
  ps : T.ps.length = if 0 < o.fill then 0 else min o.ps.length 60
  rs : T.rs.length = if 0 < o.fill then 0 else min o.rs.length 60
  h : T.h = if 0 < o.fill then false else o.h
  obj : T.fill = 0 → flt T.k T.p T.r T.a T.t = 0 ∧ T.p = T.ps.length ∧ T.r = T.rs.length
  ini : ∀ z, z ∈ T.ps → InI z
  inn : T.In
  pz : ∀ z, z ∈ T.ps → z ∈ o.ps

theorem Ft.yes {o : LT} (ho : o.In) (hpi : ∀ z, z ∈ o.ps → InI z) (hf : ¬ 0 < o.fill) {a1 k a t : Int} {m1 m2 : Nat} {ps rs : List Int} (ha1 : a1 = amg (wrap64 (o.sp - 1)) 4) (hm1 : m1 = min o.ps.length 60) (hm2 : m2 = min o.rs.length 60) (hps : ps = o.ps.take m1) (hrs : rs = o.rs.take m2) (hk : KdOk k m1) (ha : 0 ≤ a ∧ a < 16) (ht : 0 ≤ t ∧ t < 256) (vp vr : Value) : Ft o ⟨1 + a1, o.s, k, m1, m2, a, t, o.h, vp, vr, 0, ps, rs, o.at_⟩ := by
  have l1 : ps.length = m1 := by rw [hps, List.length_take]; omega
  have l2 : rs.length = m2 := by rw [hrs, List.length_take]; omega
  have hs := amg_in (wrap64 (o.sp - 1)) 4 (by omega)
  unfold KdOk at hk
  refine ⟨by rw [ha1], by rw [if_neg hf], by rw [if_neg hf]; dsimp only; omega, by rw [if_neg hf]; dsimp only; omega, by rw [if_neg hf], fun _ => ⟨?_, by dsimp only; omega, by dsimp only; omega⟩, fun z hz => hpi z (List.mem_of_mem_take (by rw [← hps]; exact hz)), ⟨?_, ?_, ?_, ?_, ?_, ho.s, fun z hz => ho.rs z (List.mem_of_mem_take (by rw [← hrs]; exact hz))⟩, fun z hz => List.mem_of_mem_take (by rw [← hps]; exact hz)⟩
  · exact flt_ok (by dsimp only; omega) (by dsimp only; omega) (by dsimp only; omega) (by dsimp only; omega) (by dsimp only; omega)
  all_goals
    unfold InI
    dsimp only
    omega

theorem Ft.no {o : LT} (ho : o.In) (hf : 0 < o.fill) {a1 b1 : Int} (ha1 : a1 = amg (wrap64 (o.sp - 1)) 4) (hb1 : b1 = amg (o.fill - 1) 40) (vp vr : Value) : Ft o ⟨1 + a1, 0, 0, 0, 0, 0, 0, false, vp, vr, 1 + b1, [], [], o.at_⟩ := by
  have hs := amg_in (wrap64 (o.sp - 1)) 4 (by omega)
  have hb := amg_in (o.fill - 1) 40 (by omega)
  refine ⟨by rw [ha1], by rw [if_pos hf, hb1], by rw [if_pos hf]; rfl, by rw [if_pos hf]; rfl, by rw [if_pos hf], fun h => ?_, fun z hz => by simp at hz, ⟨?_, ?_, ?_, ?_, ?_, ?_, fun z hz => by simp at hz⟩, fun z hz => by simp at hz⟩
  · dsimp only at h
    omega
  all_goals
    first | unfold InI | unfold Wd
    dsimp only
    omega

theorem Ft.low {o T : LT} (h : Ft o T) : 1 ≤ T.sp ∧ T.sp ≤ 4 ∧ 0 ≤ T.fill ∧ T.fill ≤ 40 ∧ T.ps.length ≤ 60 ∧ T.rs.length ≤ 60 ∧ 1 ≤ T.sz ∧ T.sz ≤ 122 ∧ (0 < T.fill → T.ps = [] ∧ T.rs = []) := by
  have hs := amg_in (wrap64 (o.sp - 1)) 4 (by omega)
  have hb := amg_in (o.fill - 1) 40 (by omega)
  have h1 := h.sp
  have h2 := h.fill
  have h3 := h.ps
  have h4 := h.rs
  by_cases hf : 0 < o.fill
  · rw [if_pos hf] at h2 h3 h4
    have z : T.sz = T.fill := by unfold LT.sz; rw [if_pos (by omega)]
    exact ⟨by omega, by omega, by omega, by omega, by omega, by omega, by omega, by omega, fun _ => ⟨List.eq_nil_of_length_eq_zero h3, List.eq_nil_of_length_eq_zero h4⟩⟩
  · rw [if_neg hf] at h2 h3 h4
    have z : T.sz = 2 + T.ps.length + T.rs.length := by unfold LT.sz; rw [if_neg (by omega)]
    exact ⟨by omega, by omega, by omega, by omega, by omega, by omega, by omega, by omega, fun h => by omega⟩

theorem Ft.ok {o T : LT} (h : Ft o T) (c : Cfg) (x : Tps) (at_ : Int) (hat : at_ = if x.top T.sp + T.sz ≤ bhd c T.sp then x.top T.sp else 0) : LT.Ok c x { T with at_ := at_ } ∧ Fx1 c x o { T with at_ := at_ } := by
  obtain ⟨l1, l2, l3, l4, l5, l6, l7, l8, l9⟩ := h.low
  have e : ({ T with at_ := at_ } : LT).sz = T.sz := rfl
  refine ⟨⟨l1, l2, l3, h.obj, l9, ?_, ⟨l5, l6⟩⟩, ⟨h.sp, h.fill, h.ps, h.rs, h.h, ?_, fun z hz => .inr (h.pz z hz)⟩⟩
  · rw [e]
    dsimp only
    by_cases hh : x.top T.sp + T.sz ≤ bhd c T.sp
    · rw [if_pos hh] at hat
      exact .inr ⟨hat, by omega⟩
    · rw [if_neg hh] at hat
      exact .inl hat
  · rw [e]
    exact hat

/-- A new thing in block R, its lists. -/
structure Fr (wr v : World) (R : Nat) (T : LT) : Prop where
  lc : Lc v R T
  be : Below wr.heap.size wr v
  hp : v.ownsRow 0 3 1 T.vp T.ps.length (ints T.ps)
  hr : v.ownsRow 0 58 1 T.vr T.rs.length (words T.rs)
  fv : ∀ y, T.vp.ownBlock = some y → wr.heap.size < y

theorem Fr.below {wr : World} {R : Nat} {T : LT} (H : Fr wr v R T) (l : Below v.heap.size v v') : Fr wr v' R T :=
  ⟨H.lc.below l, H.be.trans (l.mono H.be.size), row_keep H.hp (fun y hy => l.block y (row_lt H.hp y hy)), row_keep H.hr (fun y hy => l.block y (row_lt H.hr y hy)), H.fv⟩

/-- The same, the lay beside it. -/
structure Fs (w v : World) (R : Nat) (T : LT) (av : Value) (L : List LT) : Prop where
  lc : Lc v R T
  hp : v.ownsRow 0 3 1 T.vp T.ps.length (ints T.ps)
  hr : v.ownsRow 0 58 1 T.vr T.rs.length (words T.rs)
  dn : ∀ q, T.vp.ownBlock = some q → av.ownBlock ≠ some q ∧ ∀ U, U ∈ L → U.vp.ownBlock ≠ some q
  fT : ∀ y, T.vp.ownBlock = some y → w.heap.size ≤ y

theorem Fs.below {R : Nat} {T : LT} (H : Fs w v R T av L) (l : Below v.heap.size v v') : Fs w v' R T av L :=
  ⟨H.lc.below l, row_keep H.hp (fun y hy => l.block y (row_lt H.hp y hy)), row_keep H.hr (fun y hy => l.block y (row_lt H.hr y hy)), H.dn, H.fT⟩

theorem Fs.place {R : Nat} {T : LT} (H : Fs w v R T av L) (at_ : Int) : Fs w v R { T with at_ := at_ } av L := ⟨⟨H.lc.at_⟩, H.hp, H.hr, H.dn, H.fT⟩

theorem Fr.fs {wr : World} {R : Nat} {T : LT} (H : Fr wr v R T) (hQ : Fq w wr B cp c pl tv av L x q4) : Fs w v R T av L :=
  ⟨H.lc, H.hp, H.hr, fun q hq => ⟨fun e => by have := H.fv q hq; have := row_lt hQ.lf.att q e; omega, fun U hU e => by have := H.fv q hq; have := row_lt (hQ.lf.pb U hU) q e; omega⟩, fun y hy => by have := H.fv y hy; have := hQ.be.size; omega⟩

/-- A top is written. -/
theorem Fs.top {R : Nat} {T : LT} (H : Fs w v R T av L) (hQ : Fq w v B cp c pl tv av L x q4) (j : Nat) (z : Value) : Fs w (v.setCell ⟨B + 1, j, none⟩ z) R T av L := by
  obtain ⟨cs, hcs, -⟩ := hQ.ly
  exact ⟨⟨(Below.heap_setCell _ _ _ _ (by show R ≠ B + 1; exact heap_ty_ne H.lc.at_ hcs (by decide))).trans H.lc.at_⟩, row_keep H.hp (fun k hk => Below.heap_setCell _ _ _ _ (fun e => row_ne hcs H.hp (by decide) (by rw [← show k = B + 1 from e]; exact hk.symm))), row_keep H.hr (fun k hk => Below.heap_setCell _ _ _ _ (fun e => row_ne hcs H.hr (by decide) (by rw [← show k = B + 1 from e]; exact hk.symm))), H.dn, H.fT⟩

theorem lw_top {lb : Nat} {F E : Nat → Int} {wd : Int} (h : Lw v lb c tv av F (topf x) E wd) (s : Nat) (h1 : 1 ≤ s) (h4 : s ≤ 4) : v.cell? ⟨lb, 21 + s, none⟩ = some (.int .i64 (x.top s)) := by
  rw [h.cell (i := 21 + s) (by omega)]
  obtain rfl | rfl | rfl | rfl : s = 1 ∨ s = 2 ∨ s = 3 ∨ s = 4 := by omega
  all_goals rfl

theorem lw_end {lb : Nat} {F X : Nat → Int} {wd : Int} (h : Lw v lb c tv av F X (endsf c) wd) (s : Nat) (h1 : 1 ≤ s) (h4 : s ≤ 4) : v.cell? ⟨lb, 26 + s, none⟩ = some (.int .i64 (bhd c s)) := by
  rw [h.cell (i := 26 + s) (by omega)]
  have e := endsf_at c s (by omega) (by omega)
  rw [← e]
  obtain rfl | rfl | rfl | rfl : s = 1 ∨ s = 2 ∨ s = 3 ∨ s = 4 := by omega
  all_goals rfl

/-- The tops behind one thing more. -/
theorem tps_more (c : Cfg) (hc : c.Ok) {P : List LT} (H : Lk c P L) (T : LT) (h1 : 1 ≤ T.sp) (h4 : T.sp ≤ 4) : ((tps c L).top T.sp + T.sz ≤ bhd c T.sp → T.at_ = (tps c L).top T.sp → tps c (L ++ [T]) = (tps c L).put T.sp ((tps c L).top T.sp + T.sz)) ∧ (T.at_ = 0 → tps c (L ++ [T]) = tps c L) := by
  have hT := H.plc.all hc T.sp h1 h4
  constructor
  · intro h2 h3
    have hf : 1 ≤ fst c T.sp := by
      have := hc.e0; have := hc.s0
      obtain e | e | e | e : T.sp = 1 ∨ T.sp = 2 ∨ T.sp = 3 ∨ T.sp = 4 := by omega
      all_goals
        rw [e]
        simp [fst]
        try omega
    rw [tps_snoc]
    unfold stp
    rw [if_neg (by omega)]
  · intro h
    rw [tps_snoc]
    unfold stp
    rw [if_pos h]

theorem bhd_in (c : Cfg) (hc : c.Ok) (s : Nat) (h1 : 1 ≤ s) (h4 : s ≤ 4) : 1 ≤ fst c s ∧ bhd c s ≤ 262145 := by
  have := hc.e0; have := hc.s0; have := hc.e1; have := hc.s1; have := hc.t1
  obtain rfl | rfl | rfl | rfl : s = 1 ∨ s = 2 ∨ s = 3 ∨ s = 4 := by omega
  all_goals
    simp [fst, bhd]
    try omega
end

end Go.Proofs.YtbgnagjhkfkekaaGreatDoor

