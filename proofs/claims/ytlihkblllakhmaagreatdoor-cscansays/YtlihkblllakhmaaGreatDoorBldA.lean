/- A byte written to a builder. -/
import Derived.Test.YtlihkblllakhmaaGreatDoorMem
import Derived.Test.YtlihkblllakhmaaGreatDoorShelf3
import Derived.RangeFuncOwn
import Derived.RangeFuncBox
/-! A strings.Builder of the call's own: its writers. -/
namespace Go.Proofs.YtlihkblllakhmaaGreatDoor
open Go.RowKit Go.Shelf

theorem Cel.alloc {W : World} {b : Nat} {t : TypeId} {cs : Array Value} (h : Cel W b t cs) (o : Obj) : Cel (W.alloc o) b t cs := (Below.heap_alloc W o b h.lt).trans h
theorem Cel.kept {W W' : World} {row : Option Nat} {b : Nat} {t : TypeId} {cs : Array Value} (h : Cel W b t cs) (hg : W.grownBy W' row) (hne : some b ≠ row) : Cel W' b t cs := (hg.block b h.lt hne).trans h
theorem Cel.not_row {W : World} {b : Nat} {t e : TypeId} {cs : Array Value} (h : Cel W b t cs) (hte : t ≠ e) {base size k : Nat} {v : Value} {xs : List Value} (hr : W.ownsRow base e size v k xs) : some b ≠ v.ownBlock := by
  rcases hr.2 with ⟨rfl, _⟩ | ⟨g, cap, cur, rfl, _, hgb, _⟩
  · simp [Value.ownBlock]
  · intro e'
    obtain rfl : b = g := by simpa [Value.ownBlock] using e'
    have := (show W.heap[b]? = _ from h).symm.trans hgb
    simp at this
    exact hte this.2
theorem owns_set {W : World} {base e size k b : Nat} {t : TypeId} {cs : Array Value} {v : Value} {xs : List Value} (h : W.ownsRow base e size v k xs) (hc : Cel W b t cs) (hte : t ≠ e) (j : Nat) (u : Value) : (W.setCell ⟨b, j, none⟩ u).ownsRow base e size v k xs :=
  h.kept ⟨rfl, rfl, rfl, (KeepsWalks.setCell W _ _).size, fun q _ hq => Below.heap_setCell _ _ _ q (fun e => hq (by rw [e]))⟩ (.inr (hc.not_row hte h).symm)
theorem Cel.appended {W w1 : World} {n₀ b j : Nat} {t e : TypeId} {size : Nat} {cs : Array Value} {v v' : Value} {k m : Nat} {xs ys : List Value} {tmp : Obj}
    (hv : Cel W b t cs) (hte : t ≠ e) (hrow : W.ownsRow n₀ e size v k xs) (hn₀ : n₀ ≤ W.heap.size) (hB : n₀ ≤ b)
    (hown' : w1.ownsRow n₀ e size v' m ys) (hgrow : (W.alloc tmp).grownBy w1 v.ownBlock) :
    Cel w1 b t cs ∧ Cel (w1.setCell ⟨b, j, none⟩ v') b t (cs.setIfInBounds j v') ∧ (w1.setCell ⟨b, j, none⟩ v').ownsRow n₀ e size v' m ys ∧ KeepsOthers W (w1.setCell ⟨b, j, none⟩ v') ∧ Below n₀ W (w1.setCell ⟨b, j, none⟩ v') ∧
      (∀ b' t' cs', Cel W b' t' cs' → t' ≠ e → b' ≠ b → Cel (w1.setCell ⟨b, j, none⟩ v') b' t' cs') := by
  have hv1 : Cel w1 b t cs := (hv.alloc tmp).kept hgrow (hv.not_row hte hrow)
  have hgs : w1.grownBy (w1.setCell ⟨b, j, none⟩ v') (some b) := ⟨rfl, rfl, rfl, (KeepsWalks.setCell w1 _ v').size, fun q _ hq => Below.heap_setCell _ _ _ q (fun e => hq (by rw [e]))⟩
  refine ⟨hv1, hv1.set v', hown'.kept hgs (.inr (hv1.not_row hte hown').symm), ?_, ?_, ?_⟩
  · refine ((KeepsOthers.alloc W tmp).trans (KeepsOthers.of_grownBy hgrow fun q o ej hj => ?_)).trans (KeepsOthers.setCell _ _ _)
    rcases (hrow.alloc tmp).2 with ⟨rfl, _⟩ | ⟨g, cap, cur, rfl, _, hgb, _⟩
    · simp [Value.ownBlock] at ej
    · obtain rfl : g = q := by simpa [Value.ownBlock] using ej
      rw [hgb] at hj; cases hj; rfl
  · refine (((Below.refl n₀ W).alloc hn₀ tmp).grown hgrow (by simp; omega) fun q ej => ?_).setCell (p := ⟨b, j, none⟩) hB v'
    rcases hrow.2 with ⟨rfl, _⟩ | ⟨g, cap, cur, rfl, hb, _, _⟩
    · simp [Value.ownBlock] at ej
    · obtain rfl : g = q := by simpa [Value.ownBlock] using ej
      exact hb
  · intro b' t' cs' h' ht hb'
    exact ((h'.alloc tmp).kept hgrow (h'.not_row ht hrow)).other hb' v'
/-- Block b is a builder that holds these bytes, in a row of the call's own. -/
def Bld (W : World) (B b : Nat) (l : List UInt8) : Prop :=
  B ≤ b ∧ ∃ p v, (p = .pointer none ∨ p = .pointer (some ⟨b, 0, none⟩)) ∧ Cel W b 185 #[p, v] ∧ W.ownsRow B 5 1 v l.length (Lib.byteCells l)

theorem sizeB : (Tryz.prog.info? 185).map (·.size) = some 2 := by kernel_rfl
theorem liesB : liesAt Tryz.prog Tryz.prog.depth 185 (2 / Tryz.prog.cellsOf 185) 0 185 1 = true := by kernel_rfl
theorem info5 : (Tryz.prog.info? 5).map (fun i => (i.zero, i.size, i.bytes)) = some (some (.int .u8 0), 1, 1) := by kernel_rfl

set_option maxHeartbeats 1000000 in
set_option maxRecDepth 100000 in
theorem copyCheck_used (b : Nat) (w : World) (h0 : w.cell? ⟨b, 0, none⟩ = some (.pointer (some ⟨b, 0, none⟩))) :
    Calls Tryz.prog 117 #[.pointer (some ⟨b, 0, none⟩)] w fun e w' => e = .returned (.tuple #[]) ∧ w' = w := by
  obtain ⟨j, hj, _⟩ := Option.map_eq_some_iff.1 sizeB
  go_enter Tryz.func117, Tryz.ntmps117
  go_wp2
  rw [Lib.run_neq_ptr_same w _ Tryz.underlying183 hj]
  go_wp2
  go_end0
  exact ⟨rfl, rfl⟩

set_option maxHeartbeats 1000000 in
set_option maxRecDepth 100000 in
theorem copyCheck_fresh (b : Nat) (w : World) (h0 : w.cell? ⟨b, 0, none⟩ = some (.pointer none)) (hsh : w.shape? b = some (185, 2)) (hfz : w.frozen? ⟨b, 0, none⟩ = false) :
    Calls Tryz.prog 117 #[.pointer (some ⟨b, 0, none⟩)] w fun e w' => e = .returned (.tuple #[]) ∧ w' = w.setCell ⟨b, 0, none⟩ (.pointer (some ⟨b, 0, none⟩)) := by
  obtain ⟨j, hj, hjs⟩ := Option.map_eq_some_iff.1 sizeB
  go_enter Tryz.func117, Tryz.ntmps117
  go_wp2
  rw [Lib.run_to_unsafe w ⟨b, 0, none⟩ Tryz.underlying183 Tryz.underlying175 hj (by rw [hjs]; decide) hsh (Nat.zero_lt_succ 1)]
  simp only [Result.andThen]
  rw [Oper.upon_value]
  go_wp2
  rw [run_callFunc_extern Tryz.func119 (by kernel_rfl) (by kernel_rfl) (by kernel_rfl) (e := Extern.AbiNoEscape.same) (by kernel_rfl)]
  rw [Lib.run_noEscape]
  simp only [Result.andThen]
  rw [Oper.upon_value]
  go_wp2
  rw [Lib.run_from_unsafe w ⟨b, 0, none⟩ Tryz.underlying175 Tryz.underlying183 hj hsh liesB]
  simp only [Result.andThen]
  rw [Oper.upon_value]
  go_wp2
  go_end0
  exact ⟨rfl, rfl⟩

/-- What a writer leaves: below B all as it was; what is no cells as it was; cells of another kind than bytes as they were, but the builder's. -/
def Bk (B b : Nat) (W W' : World) : Prop := Below B W W' ∧ KeepsOthers W W' ∧ ∀ b' t' cs', Cel W b' t' cs' → t' ≠ 5 → b' ≠ b → Cel W' b' t' cs'
theorem Bk.trans {B b : Nat} {X Y Z : World} (h : Bk B b X Y) (k : Bk B b Y Z) : Bk B b X Z :=
  ⟨h.1.trans k.1, h.2.1.trans k.2.1, fun b' t' cs' hc ht hb => k.2.2 b' t' cs' (h.2.2 b' t' cs' hc ht hb) ht hb⟩

theorem copyCheck_bld (B b : Nat) (l : List UInt8) (w : World) (h : Bld w B b l) :
    Calls Tryz.prog 117 #[.pointer (some ⟨b, 0, none⟩)] w fun e w' => e = .returned (.tuple #[]) ∧ (∃ v, Cel w' b 185 #[.pointer (some ⟨b, 0, none⟩), v] ∧ w'.ownsRow B 5 1 v l.length (Lib.byteCells l)) ∧ Bk B b w w' := by
  obtain ⟨hB, p, v, rfl | rfl, hc, ho⟩ := h
  · refine (copyCheck_fresh b w (hc.cell 0) (by simp [World.shape?, show w.heap[b]? = _ from hc]) (hc.frozen 0)).mono ?_
    rintro e w' ⟨rfl, rfl⟩
    refine ⟨rfl, ⟨v, hc.set _, owns_set ho hc (by decide) 0 _⟩, (Below.refl B w).setCell (p := ⟨b, 0, none⟩) hB _, KeepsOthers.setCell _ _ _, fun b' t' cs' h1 _ h3 => h1.other h3 _⟩
  · refine (copyCheck_used b w (hc.cell 0)).mono ?_
    rintro e w' ⟨rfl, rfl⟩
    exact ⟨rfl, ⟨v, hc, ho⟩, Below.refl _ _, KeepsOthers.refl _, fun _ _ _ h1 _ _ => h1⟩

/-- The same as 'Cel.appended' where nothing is laid for what is appended. -/
theorem Cel.appended0 {W w1 : World} {n₀ b j : Nat} {t e : TypeId} {size : Nat} {cs : Array Value} {v v' : Value} {k m : Nat} {xs ys : List Value}
    (hv : Cel W b t cs) (hte : t ≠ e) (hrow : W.ownsRow n₀ e size v k xs) (hn₀ : n₀ ≤ W.heap.size) (hB : n₀ ≤ b)
    (hown' : w1.ownsRow n₀ e size v' m ys) (hgrow : W.grownBy w1 v.ownBlock) :
    Cel w1 b t cs ∧ Cel (w1.setCell ⟨b, j, none⟩ v') b t (cs.setIfInBounds j v') ∧ (w1.setCell ⟨b, j, none⟩ v').ownsRow n₀ e size v' m ys ∧ KeepsOthers W (w1.setCell ⟨b, j, none⟩ v') ∧ Below n₀ W (w1.setCell ⟨b, j, none⟩ v') ∧
      (∀ b' t' cs', Cel W b' t' cs' → t' ≠ e → b' ≠ b → Cel (w1.setCell ⟨b, j, none⟩ v') b' t' cs') := by
  have hv1 : Cel w1 b t cs := hv.kept hgrow (hv.not_row hte hrow)
  refine ⟨hv1, hv1.set v', owns_set hown' hv1 hte j v', ?_, ?_, ?_⟩
  · refine (KeepsOthers.of_grownBy hgrow fun q o ej hj => ?_).trans (KeepsOthers.setCell _ _ _)
    rcases hrow.2 with ⟨rfl, _⟩ | ⟨g, cap, cur, rfl, _, hgb, _⟩
    · simp [Value.ownBlock] at ej
    · obtain rfl : g = q := by simpa [Value.ownBlock] using ej
      rw [hgb] at hj; cases hj; rfl
  · refine ((Below.refl n₀ W).grown hgrow hn₀ fun q ej => ?_).setCell (p := ⟨b, j, none⟩) hB v'
    rcases hrow.2 with ⟨rfl, _⟩ | ⟨g, cap, cur, rfl, hb, _, _⟩
    · simp [Value.ownBlock] at ej
    · obtain rfl : g = q := by simpa [Value.ownBlock] using ej
      exact hb
  · intro b' t' cs' h' ht hb'
    exact (h'.kept hgrow (h'.not_row ht hrow)).other hb' v'

set_option maxHeartbeats 2000000 in
set_option maxRecDepth 100000 in
theorem writeString_bld (B b : Nat) (l : List UInt8) (s : ByteArray) (w : World) (h : Bld w B b l) (hl : l.length + s.size < 70368744177664) (hBw : B ≤ w.heap.size) :
    Calls Tryz.prog 140 #[.pointer (some ⟨b, 0, none⟩), .string s] w fun e w' => e = .returned (.tuple #[.int .i64 s.size, .nilIface]) ∧ Bld w' B b (l ++ s.data.toList) ∧ Bk B b w w' := by
  obtain ⟨i0, hi, hz0, hz1, hz2⟩ := info_parts info5
  have hB := h.1
  go_enter Tryz.func140, Tryz.ntmps140
  go_wp2_with (go_at_call 117; refine (copyCheck_bld B b l _ h).mono ?_)
  rintro e w1 ⟨rfl, ⟨v, hc, ho⟩, hk⟩
  have hBw1 : B ≤ w1.heap.size := Nat.le_trans hBw hk.1.size
  have c0 : w1.cell? ⟨b, 0, none⟩ = some (.pointer (some ⟨b, 0, none⟩)) := hc.cell 0
  have c1 : w1.cell? ⟨b, 1, none⟩ = some v := hc.cell 1
  go_wp2_with (at_builtin; refine Lib.wpList_append_own_string _ rfl _ _ 146 9 rfl B 5 i0 Tryz.underlying146 Tryz.underlying9 hi hz0 hz1 hz2 _ _ _ rfl ho s rfl (by have := maxLen_big; omega) (by omega) hBw1 ?_)
  intro v' w2 hown' hgrow _
  obtain ⟨ad, cap', rfl⟩ := owns_slice hown'
  obtain ⟨r1, r2, r3, r4, r5, r6⟩ := hc.appended0 (j := 1) (by decide) ho hBw1 hB hown' hgrow
  have d0 : w2.cell? ⟨b, 0, none⟩ = some (.pointer (some ⟨b, 0, none⟩)) := r1.cell 0
  have d1 : w2.cell? ⟨b, 1, none⟩ = some v := r1.cell 1
  have f1 := r1.frozen 1
  go_wp2
  go_ret2
  refine ⟨rfl, ⟨hB, _, _, .inr rfl, r2, ?_⟩, hk.trans ⟨r5, r4, r6⟩⟩
  have e1 : (l ++ s.data.toList).length = l.length + s.size := by simp
  have e2 : Lib.byteCells (l ++ s.data.toList) = Lib.byteCells l ++ Lib.strCells s := by simp [Lib.byteCells, Lib.strCells]
  rw [e1, e2]; exact r3

/-- The builder's text. -/
theorem string_bld (B b : Nat) (l : List UInt8) (w : World) (h : Bld w B b l) (hBw : B ≤ w.heap.size) :
    Calls Tryz.prog 107 #[.pointer (some ⟨b, 0, none⟩)] w fun e w' => e = .returned (.string ⟨l.toArray⟩) ∧ Below B w w' ∧ Lib.OthersKept 5 (some b) w w' := by
  obtain ⟨hB, p, v, hp, hc, ho⟩ := h
  have hF : Lib.IsBuilderF 185 5 B b (Lib.byteCells l) w := by
    have h1 : w.ownsRowF B 5 1 v (Lib.byteCells l).length (Lib.byteCells l) := by rw [Lib.byteCells_length]; exact World.ownsRowF_of ho
    have h2 : v.ownBlock ≠ some b := (hc.not_row (by decide) ho).symm
    rcases hp with rfl | rfl
    · exact .inl ⟨hB, v, hc, h1, h2⟩
    · exact .inr ⟨hB, v, hc, h1, h2⟩
  exact (Tryz.Builder_String_any_k B b l w hF hBw).mono fun e w' h => ⟨h.1, h.2.2.1, h.2.2.2⟩

end Go.Proofs.YtlihkblllakhmaaGreatDoor
namespace Go.Proofs.YtlihkblllakhmaaGreatDoor
open Go.RowKit Go.Shelf
set_option maxHeartbeats 2000000 in
set_option maxRecDepth 100000 in
theorem writeByte_bld (B b : Nat) (l : List UInt8) (c : UInt8) (w : World) (h : Bld w B b l) (hl : l.length < 70368744177664) (hBw : B ≤ w.heap.size) :
    Calls Tryz.prog 105 #[.pointer (some ⟨b, 0, none⟩), .int .u8 c.toNat] w fun e w' => e = .returned .nilIface ∧ Bld w' B b (l ++ [c]) ∧ Bk B b w w' := by
  obtain ⟨i0, hi, hz0, hz1, hz2⟩ := info_parts info5
  have hB := h.1
  go_enter Tryz.func105, Tryz.ntmps105
  go_wp2_with (go_at_call 117; refine (copyCheck_bld B b l _ h).mono ?_)
  rintro e w1 ⟨rfl, ⟨v, hc, ho⟩, hk⟩
  have hBw1 : B ≤ w1.heap.size := Nat.le_trans hBw hk.1.size
  have c0 : w1.cell? ⟨b, 0, none⟩ = some (.pointer (some ⟨b, 0, none⟩)) := hc.cell 0
  have c1 : w1.cell? ⟨b, 1, none⟩ = some v := hc.cell 1
  go_wp2_with (at_builtin; refine wpList_append_own _ rfl _ _ 146 rfl B 5 i0 (.int .u8 0) 1 1 Tryz.underlying146 hi hz0 hz1 hz2 rfl (by decide) _ _ _ rfl (ho.alloc _) ⟨w1.heap.size, 0, none⟩ 1 1 [.int .u8 c.toNat] rfl rfl (cells_new _ [.int .u8 c.toNat] _) (by simp [Value.oneCell']) (by have := maxLen_big; omega) (by omega) (by simp; omega) ?_)
  intro v' w2 hown' hgrow _
  obtain ⟨g', cap', rfl⟩ := ownsRow_succ hown'
  obtain ⟨r1, r2, r3, r4, r5, r6⟩ := hc.appended (j := 1) (by decide) ho hBw1 hB hown' hgrow
  have d0 : w2.cell? ⟨b, 0, none⟩ = some (.pointer (some ⟨b, 0, none⟩)) := r1.cell 0
  have d1 : w2.cell? ⟨b, 1, none⟩ = some v := r1.cell 1
  have f1 := r1.frozen 1
  go_wp2
  go_ret
  refine ⟨rfl, ⟨hB, _, _, .inr rfl, r2, ?_⟩, hk.trans ⟨r5, r4, r6⟩⟩
  simpa [Lib.byteCells] using r3

end Go.Proofs.YtlihkblllakhmaaGreatDoor
