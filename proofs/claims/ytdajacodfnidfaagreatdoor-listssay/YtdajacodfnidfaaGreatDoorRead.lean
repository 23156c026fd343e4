/- Live text, read. -/
import Derived.Test.YtdajacodfnidfaaGreatDoorLetters
import Derived.Maps.AppendAt
import Derived.Laws.Rows
namespace Go.Proofs.YtdajacodfnidfaaGreatDoor
open Go.RowKit Go.Shelf
attribute [local go_sem] Oper.semAt_some

/-- Block b holds these cells, none frozen. -/
def Cel (W : World) (b : Nat) (t : TypeId) (cs : Array Value) : Prop := W.heap[b]? = some (.cells cs t (0, 0))
theorem Cel.lt {W : World} {b : Nat} {t : TypeId} {cs : Array Value} (h : Cel W b t cs) : b < W.heap.size := (Array.getElem?_eq_some_iff.1 h).1
theorem Cel.cell {W : World} {b : Nat} {t : TypeId} {cs : Array Value} (h : Cel W b t cs) (j : Nat) : W.cell? ⟨b, j, none⟩ = cs[j]? := by simp [World.cell?, show W.heap[b]? = _ from h]
theorem Cel.frozen {W : World} {b : Nat} {t : TypeId} {cs : Array Value} (h : Cel W b t cs) (j : Nat) : W.frozen? ⟨b, j, none⟩ = false := by simp [World.frozen?, show W.heap[b]? = _ from h]
theorem Cel.new (W : World) (t : TypeId) (cs : Array Value) : Cel (W.alloc (.cells cs t)) W.heap.size t cs := World.alloc_heap_new W _
theorem Cel.below {W W' : World} {B b : Nat} {t : TypeId} {cs : Array Value} (h : Cel W b t cs) (hb : Below B W W') (hlt : b < B) : Cel W' b t cs := (hb.block b hlt).trans h
theorem Cel.alloc {W : World} {b : Nat} {t : TypeId} {cs : Array Value} (h : Cel W b t cs) (o : Obj) : Cel (W.alloc o) b t cs := (Below.heap_alloc W o b h.lt).trans h
theorem Cel.kept {W W' : World} {row : Option Nat} {b : Nat} {t : TypeId} {cs : Array Value} (h : Cel W b t cs) (hg : W.grownBy W' row) (hne : some b ≠ row) : Cel W' b t cs := (hg.block b h.lt hne).trans h
theorem Cel.own {W W' : World} {row : Option Nat} {b : Nat} {t : TypeId} {cs : Array Value} (h : Cel W b t cs) (hg : W.grownBy W' row) (hr : ∀ r, row = some r → ∃ o : Obj, W.heap[r]? = some o ∧ o.isCells = false) : Cel W' b t cs :=
  (grownBy_keeps_cells hg hr h rfl).trans h
theorem Cel.other {W : World} {b b' j : Nat} {t : TypeId} {cs : Array Value} (h : Cel W b t cs) (hne : b ≠ b') (v : Value) : Cel (W.setCell ⟨b', j, none⟩ v) b t cs := (Below.heap_setCell _ _ _ _ hne).trans h
theorem Cel.set {W : World} {b j : Nat} {t : TypeId} {cs : Array Value} (h : Cel W b t cs) (v : Value) : Cel (W.setCell ⟨b, j, none⟩ v) b t (cs.setIfInBounds j v) := by
  obtain ⟨hlt, hk⟩ := Array.getElem?_eq_some_iff.1 h
  show (W.heap.modify b _)[b]? = _
  rw [Array.getElem?_eq_getElem (by rw [Array.size_modify]; exact hlt), Array.getElem_modify_self, hk]
  rfl
/-- A slice's own row is no block of another type. -/
theorem Cel.not_row {W : World} {b : Nat} {t e : TypeId} {cs : Array Value} (h : Cel W b t cs) (hte : t ≠ e) {base size k : Nat} {v : Value} {xs : List Value} (hr : W.ownsRow base e size v k xs) : some b ≠ v.ownBlock := by
  rcases hr.2 with ⟨rfl, _⟩ | ⟨g, cap, cur, rfl, _, hgb, _⟩
  · simp [Value.ownBlock]
  · intro e'
    obtain rfl : b = g := by simpa [Value.ownBlock] using e'
    have := (show W.heap[b]? = _ from h).symm.trans hgb
    simp at this
    exact hte this.2
theorem owns_own {W W' : World} {row : Option Nat} {base e size k : Nat} {v : Value} {xs : List Value} (h : W.ownsRow base e size v k xs) (hg : W.grownBy W' row) (hr : ∀ r, row = some r → ∃ o : Obj, W.heap[r]? = some o ∧ o.isCells = false) : W'.ownsRow base e size v k xs := by
  refine h.kept hg ?_
  rcases h.2 with ⟨rfl, _⟩ | ⟨g, cap, cur, rfl, _, hgb, _⟩
  · exact .inl rfl
  · refine .inr fun e' => ?_
    obtain ⟨o, ho, hc⟩ := hr g (by simpa [Value.ownBlock] using e'.symm)
    rw [hgb] at ho; cases ho; cases hc

theorem owns_set {W : World} {base e size k b : Nat} {t : TypeId} {cs : Array Value} {v : Value} {xs : List Value} (h : W.ownsRow base e size v k xs) (hc : Cel W b t cs) (hte : t ≠ e) (j : Nat) (u : Value) : (W.setCell ⟨b, j, none⟩ u).ownsRow base e size v k xs :=
  h.kept ⟨rfl, rfl, rfl, (KeepsWalks.setCell W _ _).size, fun q _ hq => Below.heap_setCell _ _ _ q (fun e => hq (by rw [e]))⟩ (.inr (hc.not_row hte h).symm)
theorem owns_slice {W : World} {base e size k : Nat} {v : Value} {xs : List Value} (h : W.ownsRow base e size v k xs) : ∃ ad cap, v = .slice ad k cap := by
  rcases h.2 with ⟨rfl, rfl⟩ | ⟨g, cap, cur, rfl, _⟩
  · exact ⟨none, 0, rfl⟩
  · exact ⟨_, cap, rfl⟩
/-- Behind an append whose result is stored into cell j of block b: all that is owed. -/
theorem Cel.appended {W w1 : World} {n₀ b j : Nat} {t e : TypeId} {size : Nat} {cs : Array Value} {v v' : Value} {k m : Nat} {xs ys : List Value} {tmp : Obj}
    (hv : Cel W b t cs) (hte : t ≠ e) (hrow : W.ownsRow n₀ e size v k xs) (hn₀ : n₀ ≤ W.heap.size) (hB : n₀ ≤ b)
    (hown' : w1.ownsRow n₀ e size v' m ys) (hgrow : (W.alloc tmp).grownBy w1 v.ownBlock) :
    Cel w1 b t cs ∧ Cel (w1.setCell ⟨b, j, none⟩ v') b t (cs.setIfInBounds j v') ∧ (w1.setCell ⟨b, j, none⟩ v').ownsRow n₀ e size v' m ys ∧ KeepsOthers W (w1.setCell ⟨b, j, none⟩ v') ∧ Below n₀ W (w1.setCell ⟨b, j, none⟩ v') ∧
      (∀ b' t' cs', Cel W b' t' cs' → t' ≠ e → b' ≠ b → Cel (w1.setCell ⟨b, j, none⟩ v') b' t' cs') := by
  have hv1 : Cel w1 b t cs := (hv.alloc tmp).kept hgrow (hv.not_row hte hrow)
  have hgs : w1.grownBy (w1.setCell ⟨b, j, none⟩ v') (some b) := ⟨rfl, rfl, rfl, (KeepsWalks.setCell w1 _ v').size, fun q _ hq => Below.heap_setCell _ _ _ q (fun e => hq (by rw [e]))⟩
  refine ⟨hv1, hv1.set v', hown'.kept hgs (.inr (hv1.not_row hte hown').symm), ?_, ?_, ?_⟩
  · refine ((KeepsOthers.alloc W tmp).trans (KeepsOthers.of_grownBy hgrow fun q o ej hj => ?_)).trans (KeepsOthers.setCell _ _ _)
    rcases (hrow.alloc tmp).2 with ⟨rfl, _⟩ | ⟨g, cap, cur, rfl, _, hgb, _⟩
    · simp [Value.ownBlock] at ej
    · obtain rfl : g = q := by simpa [Value.ownBlock] using ej
      rw [hgb] at hj; cases hj; rfl
  · refine (((Below.refl n₀ W).alloc hn₀ tmp).grown hgrow (by simp; omega) fun q ej => ?_).setCell (p := ⟨b, j, none⟩) hB v'
    rcases hrow.2 with ⟨rfl, _⟩ | ⟨g, cap, cur, rfl, hb, _, _⟩
    · simp [Value.ownBlock] at ej
    · obtain rfl : g = q := by simpa [Value.ownBlock] using ej
      exact hb
  · intro b' t' cs' h' ht hb'
    exact ((h'.alloc tmp).kept hgrow (h'.not_row ht hrow)).other hb' v'

/-- The letters as cells. -/
def ltCells (l : List Lt) : List Value := l.flatMap fun x => [.int .u8 x.1.toNat, .bool x.2]
theorem ltCells_snoc (l : List Lt) (x : Lt) : ltCells (l ++ [x]) = ltCells l ++ [.int .u8 x.1.toNat, .bool x.2] := by simp [ltCells]
theorem ltCells_length (l : List Lt) : (ltCells l).length = l.length * 2 := by
  induction l with
  | nil => rfl
  | cons x l ih => simp [ltCells] at ih ⊢; omega

theorem maxLen_big : 35184372088832 * 4 ≤ maxLen := by decide
theorem is_below (x : Lt) (d : UInt8) (dv : Int) (hd : (d.toNat : Int) = dv) (w : World) :
    Calls Tryz.prog 91 #[ltV x, .int .u8 dv] w fun e w' => e = .returned (.bool (isL x d)) ∧ Below w.heap.size w w' :=
  (is_any x d dv hd w).mono fun _ _ h => ⟨h.1, h.2 ▸ (Below.refl _ w).alloc (Nat.le_refl _) _⟩
theorem keeps_below {B : Nat} {W W2 : World} (h : Below W.heap.size W W2) : KeepsFrom B W W2 := ⟨h.size, fun q _ _ hq _ => (h.block q (Array.getElem?_eq_some_iff.1 hq).1).trans hq⟩
theorem cells_new (w : World) (cs : List Value) (t : TypeId) : ∀ j u, cs[j]? = some u → (w.alloc (.cells cs.toArray t)).cell? ((⟨w.heap.size, 0, none⟩ : Addr).add j) = some u := by
  intro j u hj
  have := (Cel.new w t cs.toArray).cell j
  have hadd : (⟨w.heap.size, 0, none⟩ : Addr).add j = ⟨w.heap.size, j, none⟩ := by
    unfold Addr.add
    split
    · rename_i h; subst h; rfl
    · simp
  rw [hadd, this]
  simpa using hj

theorem size61 : (Tryz.prog.info? 104).map (·.size) = some 2 := by kernel_rfl
theorem info58 : (Tryz.prog.info? 70).map (fun i => (i.zero, i.size, i.bytes)) = some (some (.agg #[.int .u8 0, .bool false]), 2, 2) := by kernel_rfl

set_option maxRecDepth 100000 in
set_option maxHeartbeats 2000000 in
theorem read_in (n : Nat) (hn : 3 ≤ n) (s : ByteArray) (hs : s.size < 35184372088832) (w : World) :
    CallsIn Fence.wide n Tryz.prog 90 #[.string s] w fun e w' => ∃ v, e = .returned (.agg #[v, .int .i64 (lastOf (letts s.data.toList))]) ∧
      w'.ownsRow w.heap.size 70 2 v (letts s.data.toList).length (ltCells (letts s.data.toList)) ∧ Below w.heap.size w w' := by
  have h1 : 1 ≤ n := by omega
  obtain ⟨i0, hi, hz0, hz1, hz2⟩ := info_parts info58
  obtain ⟨L, hL⟩ : ∃ L, letts s.data.toList = L := ⟨_, rfl⟩
  rw [hL]
  have hxs : (placed 0 s.data.toList).map Prod.snd = L := by rw [placed_snd, hL]
  have hlen : (placed 0 s.data.toList).length = L.length := by rw [← hxs]; simp
  have hLs : L.length ≤ s.size := by rw [← hL]; exact Nat.le_trans (letts_length_le _) (by simp)
  clear hL
  have HXS : Hid _ := hxs
  have HLEN : Hid _ := hlen
  clear hxs hlen
  refine callsIn_of_wp_marks Tryz.func90 rfl trivial ?_ rfl
  simp only [Tryz.ntmps90, List.size_toArray, List.length_cons, List.length_nil, Nat.reduceAdd, Nat.reduceSub, Array.replicate_succ, Array.replicate_zero, List.push_toArray, List.append_toArray, List.nil_append, List.cons_append]
  gi_wp2
  refine ⟨trivial, ?_⟩
  refine (callsIn_wide.2 (letters_any _ _)).mono ?_
  rintro e w1 ⟨rfl, rfl⟩
  gi_wp2
  have c0 := Cel.new w 104 #[.slice none 0 0, .int .i64 0]
  have c1 := Cel.new (w.alloc (.cells #[.slice none 0 0, .int .i64 0] 104)) 104 #[.slice none 0 0, .int .i64 0]
  have c2 := Cel.new ((w.alloc (.cells #[.slice none 0 0, .int .i64 0] 104)).alloc (.cells #[.slice none 0 0, .int .i64 0] 104)) 9 #[.string s]
  rw [World.size_alloc] at c1
  rw [World.size_alloc, World.size_alloc] at c2
  have hB0 : Below w.heap.size w (((w.alloc (.cells #[.slice none 0 0, .int .i64 0] 104)).alloc (.cells #[.slice none 0 0, .int .i64 0] 104)).alloc (.cells #[.string s] 9)) := (((Below.refl _ w).alloc (Nat.le_refl _) _).alloc (by simp) _).alloc (by simp; omega) _
  refine wpIn_range_each (b := w.heap.size + 1 + 1) rfl h1 (gf := 85) (lb := #[.pointer (some ⟨w.heap.size + 1 + 1, 0, none⟩)]) (by first | rfl | simp [Act.eval]) trivial (enters_of Tryz.func85 (by kernel_rfl) rfl)
    (letters_each (n - 1) (by omega) (w.heap.size + 1 + 1) s (by omega) _ (c2.cell 0)) (by simp) (Below.refl _ _) (fun _ => rfl)
    (fun k W => (∃ v, Cel W (w.heap.size + 1) 104 #[v, .int .i64 (lastOf (L.take k))] ∧ W.ownsRow w.heap.size 70 2 v k (ltCells (L.take k))) ∧ Cel W w.heap.size 104 #[.slice none 0 0, .int .i64 0] ∧ Cel W (w.heap.size + 1 + 1) 9 #[.string s] ∧ Below w.heap.size w W)
    ?own ⟨⟨_, c1.alloc _, World.ownsRow_nil _ _ _ _⟩, (c0.alloc _).alloc _, c2, hB0⟩
    (fun x a' W => ∃ Bx, w.heap.size + 1 + 1 < Bx ∧ Cel W Bx 70 #[.int .u8 x.2.1.toNat, .bool x.2.2] ∧ a' = { tmps := #[.string s, undef, .pointer (some ⟨w.heap.size, 0, none⟩), .pointer (some ⟨w.heap.size + 1, 0, none⟩), undef, .pointer (some ⟨Bx, 0, none⟩), .string s, .func (.func 85) #[] #[.pointer (some ⟨w.heap.size + 1 + 1, 0, none⟩)], .int .i64 x.1, ltV x.2, undef, undef, undef, undef, undef, undef, undef, undef, undef, undef, undef, undef, undef], defers := [] })
    ?axown ?assign ?body ?done
  case own =>
    rintro k X Y row ⟨⟨v, a1, a2⟩, a3, a4, a5⟩ hg hr
    have hr' : ∀ r, row = some r → ∃ o : Obj, X.heap[r]? = some o ∧ o.isCells = false := fun r e => (hr r e).2
    exact ⟨⟨v, a1.own hg hr', owns_own a2 hg hr'⟩, a3.own hg hr', a4.own hg hr', a5.grown hg a5.size (fun q e => by have := (hr q e).1; simp at this; omega)⟩
  case axown =>
    rintro x a' _ X Y row ⟨Bx, h2, h3, h4⟩ hg hr
    exact ⟨Bx, h2, h3.own hg (fun r e => (hr r e).2), h4⟩
  case assign =>
    rintro l k x W K hx ⟨⟨v, a1, a2⟩, a3, a4, a5⟩ hK
    gi_wp2
    exact hK _ _ ((KeepsOthers.alloc _ _).from _) (Below.heap_alloc _ _ _ a4.lt) ⟨⟨v, a1.alloc _, a2.alloc _⟩, a3.alloc _, a4.alloc _, a5.alloc a5.size _⟩ ⟨W.heap.size, a4.lt, Cel.new W 70 _, rfl⟩
  case body =>
    rintro l k x a' W hx ⟨⟨v, a1, a2⟩, a3, a4, a5⟩ ⟨Bx, b1, b2, rfl⟩
    have hxL : L[k]? = some x.2 := by rw [← HXS.out, List.getElem?_map, hx]; rfl
    have hkL : k < L.length := (List.getElem?_eq_some_iff.1 hxL).1
    have hts : L.take (k + 1) = L.take k ++ [x.2] := take_snoc hxL
    have hlk : (L.take k).length = k := by simp; omega
    have HTS : Hid _ := hts
    have HLK : Hid _ := hlk
    clear hxL hts hlk hx
    have d1 : W.cell? ⟨Bx, 0, none⟩ = some (.int .u8 x.2.1.toNat) := b2.cell 0
    have d2 : W.cell? ⟨Bx, 1, none⟩ = some (.bool x.2.2) := b2.cell 1
    gi_wp2
    refine ⟨trivial, fun _ => by omega, ?_⟩
    refine (CallsIn.inRound l (callsIn_wide.2 (is_below x.2 93 93 rfl _))).mono ?_
    rintro e W2 ⟨rfl, hb2⟩
    replace d1 := (hb2.cell (p := ⟨Bx, 0, none⟩) b2.lt).trans d1
    replace d2 := (hb2.cell (p := ⟨Bx, 1, none⟩) b2.lt).trans d2
    replace a1 := a1.below hb2 a1.lt
    replace a3 := a3.below hb2 a3.lt
    have a4W := a4
    replace a4 := a4.below hb2 a4.lt
    replace b2 := b2.below hb2 b2.lt
    replace a2 := owns_own a2 (grownBy_of_below hb2) (fun r e => by cases e)
    replace a5 := a5.trans (hb2.mono a5.size)
    obtain ⟨ad, cap, rfl⟩ := owns_slice a2
    have c1 : W2.cell? ⟨w.heap.size + 1, 0, none⟩ = some (.slice ad k cap) := a1.cell 0
    have c2 : W2.cell? ⟨w.heap.size + 1, 1, none⟩ = some (.int .i64 (lastOf (L.take k))) := a1.cell 1
    have f1 := a1.frozen 0
    have f2 := a1.frozen 1
    have hks : k < 35184372088832 := by omega
    have hw5 := a5.size
    cases hq : isL x.2 93
    · gi_wp2_with (gi_at_builtin; refine wpListIn_append_own _ rfl _ _ 102 rfl w.heap.size 70 i0 (.agg #[.int .u8 0, .bool false]) 2 2 Tryz.underlying102 hi hz0 hz1 hz2 rfl (by decide) _ _ _ rfl (a2.alloc _) ⟨W2.heap.size, 0, none⟩ 1 1 [.int .u8 x.2.1.toNat, .bool x.2.2] rfl rfl (cells_new _ [.int .u8 x.2.1.toNat, .bool x.2.2] _) (by simp [Value.oneCell']) (by have := maxLen_big; omega) (by omega) (by have := a5.size; simp; omega) ?_; intro v' w1 hown' hgrow _; obtain ⟨g', cap', rfl⟩ := ownsRow_succ hown'; obtain ⟨r1, r2, r3, r4, r5, r6⟩ := a1.appended (j := 0) (by decide) a2 a5.size (by omega) hown' hgrow; have e1 := r1.cell 0; have e2 := r1.frozen 0)
      refine ⟨(keeps_below hb2).trans (r4.from _), (r6 _ _ _ a4 (by decide) (by omega)).trans a4W.symm, ⟨.slice (some ⟨g', 0, none⟩) (k + 1) cap', ?_, ?_⟩, r6 _ _ _ a3 (by decide) (by omega), r6 _ _ _ a4 (by decide) (by omega), a5.trans r5⟩
      · rw [HTS.out, lastOf_snoc, if_neg (by rw [hq]; simp)]; exact r2
      · rw [HTS.out, ltCells_snoc]; exact r3
    · have a1' := a1.set (j := 1) (.int .i64 k)
      have a2' : (W2.setCell ⟨w.heap.size + 1, 1, none⟩ (.int .i64 k)).ownsRow w.heap.size 70 2 (.slice ad k cap) k (ltCells (L.take k)) :=
        a2.kept ⟨rfl, rfl, rfl, (KeepsWalks.setCell W2 _ _).size, fun q _ hq => Below.heap_setCell _ _ _ q (fun e => hq (by rw [e]))⟩ (.inr (a1.not_row (by decide) a2).symm)
      have hsz3 : Hid ((W2.setCell ⟨w.heap.size + 1, 1, none⟩ (.int .i64 k)).heap.size = W2.heap.size) := by unfold Hid; simp
      gi_wp2_with (gi_at_builtin; refine wpListIn_append_own _ rfl _ _ 102 rfl w.heap.size 70 i0 (.agg #[.int .u8 0, .bool false]) 2 2 Tryz.underlying102 hi hz0 hz1 hz2 rfl (by decide) _ _ _ rfl (a2'.alloc _) ⟨W2.heap.size, 0, none⟩ 1 1 [.int .u8 x.2.1.toNat, .bool x.2.2] rfl rfl (by have h := cells_new (W2.setCell ⟨w.heap.size + 1, 1, none⟩ (.int .i64 k)) [.int .u8 x.2.1.toNat, .bool x.2.2] 70; rw [hsz3.out] at h; exact h) (by simp [Value.oneCell']) (by have := maxLen_big; omega) (by omega) (by have := a5.size; simp; omega) ?_; intro v' w1 hown' hgrow _; obtain ⟨g', cap', rfl⟩ := ownsRow_succ hown'; obtain ⟨r1, r2, r3, r4, r5, r6⟩ := a1'.appended (j := 0) (by decide) a2' (Nat.le_trans a5.size (KeepsWalks.setCell W2 _ _).size) (by omega) hown' hgrow; have e1 := r1.cell 0; have e2 := r1.frozen 0)
      refine ⟨((keeps_below hb2).trans ((KeepsOthers.setCell _ _ _).from _)).trans (r4.from _), (r6 _ _ _ (a4.other (by omega) _) (by decide) (by omega)).trans a4W.symm, ⟨.slice (some ⟨g', 0, none⟩) (k + 1) cap', ?_, ?_⟩, r6 _ _ _ (a3.other (by omega) _) (by decide) (by omega), r6 _ _ _ (a4.other (by omega) _) (by decide) (by omega), (a5.setCell (p := ⟨w.heap.size + 1, 1, none⟩) (by simp) _).trans r5⟩
      · rw [HTS.out, lastOf_snoc, if_pos hq, HLK.out]; exact r2
      · rw [HTS.out, ltCells_snoc]; exact r3
  case done =>
    rintro D W hD ⟨⟨v, a1, a2⟩, a3, a4, a5⟩ hK
    rw [HLEN.out] at a1 a2
    rw [List.take_length] at a1 a2
    have c1 : W.cell? ⟨w.heap.size + 1, 0, none⟩ = some v := a1.cell 0
    have c2 : W.cell? ⟨w.heap.size + 1, 1, none⟩ = some (.int .i64 (lastOf L)) := a1.cell 1
    have c3 : W.cell? ⟨w.heap.size, 0, none⟩ = some (.slice none 0 0) := a3.cell 0
    have c4 : W.cell? ⟨w.heap.size, 1, none⟩ = some (.int .i64 0) := a3.cell 1
    have f3 := a3.frozen 0
    have f4 := a3.frozen 1
    obtain ⟨ad, cap, rfl⟩ := owns_slice a2
    gi_wp2
    have g1 : ((W.setCell ⟨w.heap.size, 0, none⟩ (.slice ad L.length cap)).setCell ⟨w.heap.size, 1, none⟩ (.int .i64 (lastOf L))).heap[D]? = some (.deferred (some [])) :=
      ((KeepsOthers.setCell _ _ _).same D _ ((KeepsOthers.setCell _ _ _).same D _ hK rfl) rfl)
    have g2 := (a3.set (j := 0) (.slice ad L.length cap)).set (j := 1) (.int .i64 (lastOf L))
    have g3 : ((W.setCell ⟨w.heap.size, 0, none⟩ (.slice ad L.length cap)).setCell ⟨w.heap.size, 1, none⟩ (.int .i64 (lastOf L))).ownsRow w.heap.size 70 2 (.slice ad L.length cap) L.length (ltCells L) := by
      have t1 := owns_set a2 a3 (by decide) 0 (.slice ad L.length cap)
      exact owns_set t1 (a3.set (j := 0) _) (by decide) 1 _
    have g4 : Below w.heap.size w ((W.setCell ⟨w.heap.size, 0, none⟩ (.slice ad L.length cap)).setCell ⟨w.heap.size, 1, none⟩ (.int .i64 (lastOf L))) :=
      (a5.setCell (p := ⟨w.heap.size, 0, none⟩) (Nat.le_refl _) _).setCell (p := ⟨w.heap.size, 1, none⟩) (Nat.le_refl _) _
    revert g1 g2 g3 g4
    generalize (W.setCell ⟨w.heap.size, 0, none⟩ (.slice ad L.length cap)).setCell ⟨w.heap.size, 1, none⟩ (.int .i64 (lastOf L)) = W5
    intro g1 g2 g3 g4
    refine ⟨by simp, .inl ⟨_, _, rfl, run_takeDeferred g1, ?_⟩⟩
    have hne : w.heap.size ≠ D := by simp at hD; omega
    refine ⟨_, results_cell_row (p := 2) (ty := 104) rfl _ _ w.heap.size 104 #[.slice ad L.length cap, .int .i64 (lastOf L)] (0, 0) _ rfl ((World.putObj_heap_other hne).trans g2) Tryz.underlying104 rfl size61, .slice ad L.length cap, rfl, ownsRow_putObj g3 _ g1 rfl, ?_⟩
    exact g4.trans (belowK_b (w := w) (Nat.le_refl _) W5 D _ _ (by simp at hD; omega) g1 rfl rfl)

theorem read_any (s : ByteArray) (hs : s.size < 35184372088832) (w : World) :
    Calls Tryz.prog 90 #[.string s] w fun e w' => ∃ v, e = .returned (.agg #[v, .int .i64 (lastOf (letts s.data.toList))]) ∧
      w'.ownsRow w.heap.size 70 2 v (letts s.data.toList).length (ltCells (letts s.data.toList)) ∧ Below w.heap.size w w' := callsIn_wide.1 (read_in 3 (Nat.le_refl _) s hs w)
end Go.Proofs.YtdajacodfnidfaaGreatDoor
