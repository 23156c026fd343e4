/- Files. -/
import Derived.Test.YtfafhjglcaikoaaGreatDoorH6
import Derived.Test.YtfafhjglcaikoaaGreatDoorH8
import Derived.Test.YtfafhjglcaikoaaGreatDoorH9
import Derived.Test.YtfafhjglcaikoaaGreatDoorH11
import Derived.Test.YtfafhjglcaikoaaGreatDoorProg
import Derived.WalkKit
import Derived.WalkSpells
import Derived.WalkLawsBesides
import Derived.Below
import Derived.Test.YtfafhjglcaikoaaGreatDoorH3
import Derived.Lib.Strings
import Derived.Laws.ResultCell
import Derived.RangeFuncNested
import Derived.RangeFuncBound
import Derived.RangeFuncCalls
import Derived.RangeFuncLeaves
import Derived.Shelf.Abstract
import Derived.Shelf.RegionOpen
import Derived.OwnWalkIn
import Derived.TacticsInMore
import Derived.LoopNIn
import Derived.LoopIn
import Derived.Test.YtfafhjglcaikoaaGreatDoorH2
import Derived.Test.YtfafhjglcaikoaaGreatDoorH1
import Derived.Maps.AppendAt
import Derived.Laws.Rows
import Derived.Test.YtfafhjglcaikoaaGreatDoorH7
import Derived.Test.YtfafhjglcaikoaaGreatDoorH10
import Derived.Shelf.Strings.BuilderK
import Derived.Shelf.Small.Strs
import Derived.Lib.TrimByte
import Derived.Laws.BitsAllLaws
import Derived.Deep.DeepCutAuto
import Derived.Deep.Light
import Derived.Deep.RegionHeld3
import Derived.Test.YtfafhjglcaikoaaGreatDoorH4
import Derived.Shelf.Strings.Prefix
import Derived.Shelf.Slices.CompactS
import Derived.Sort.OwnSorted
import Derived.Shelf.Slices.In.SortNone
import Derived.Lib.OwnBridge
import Derived.Lib.RowBridge
/-! A run under way, in memory. -/
namespace Go.Proofs.YtfafhjglcaikoaaGreatDoor
open Go.RowKit

/-- What a run under way holds. -/
structure Sh where
  F : Vps
  H : Fps
  D : Fls
  R : List Rw
  E : List Ev
  st : Nat
  ms : Nat
  dp : Nat
  md : Nat
  hd : Txt
  ct : Option Txt
  fl : Txt
  en : Int
def ctP (cb : Nat) : Option Txt → Value
  | none => .pointer none
  | some _ => .pointer (some ⟨cb, 0, none⟩)
abbrev rnC (sb kb cb : Nat) (s : Sh) : Array Value := #[sP sb, kP kb, .nilFunc, .int .i64 s.st, .int .i64 s.ms, .int .i64 s.dp, .int .i64 s.md, str s.hd, ctP cb s.ct, str s.fl, .int .i64 s.en]
abbrev rP (b : Nat) : Value := .pointer (some ⟨b, 0, none⟩)

/-- Its store and its kernel, in blocks of their own. -/
def Both (W : World) (KS KK : Nat → Prop) (sb kb : Nat) (s : Sh) : Prop :=
  ∃ (vb fb mb : Nat) (V : Vrs) (G : Fns) (ev rv : Value) (Y : List (Rw × Value)) (X : List (Ev × Value)),
    Sto W KS sb vb fb V G ∧ cont V = s.F ∧ cont G = s.H ∧ Kern W KK kb mb ev rv s.D Y X ∧ Y.map Prod.fst = s.R ∧ X.map Prod.fst = s.E
/-- A run: its blocks are K. -/
structure Rn (W : World) (K : Nat → Prop) (rb cb sb kb : Nat) (s : Sh) : Prop where
  rc : Cel W rb 135 (rnC sb kb cb s)
  cc : ∀ t, s.ct = some t → Cel W cb 9 #[str t]
  ex : ∃ KS KK, Both W KS KK sb kb s ∧ (∀ i, KS i → KK i → False) ∧ (∀ i, KS i → K i) ∧ (∀ i, KK i → K i) ∧ ¬ KS rb ∧ ¬ KK rb ∧ (s.ct ≠ none → ¬ KS cb ∧ ¬ KK cb ∧ cb ≠ rb)
  Kr : K rb
  Kc : s.ct ≠ none → K cb
  gl : ∀ i, K i → 17 ≤ i
  lt : ∀ i, K i → i < W.heap.size

variable {W W' : World} {K S KS KK : Nat → Prop} {rb cb sb kb : Nat} {s : Sh}
theorem Both.turn (h : Both W KS KK sb kb s) (hT : Turn S W W') (h1 : ∀ i, KS i → ¬ S i) (h2 : ∀ i, KK i → ¬ S i) : Both W' KS KK sb kb s := by
  obtain ⟨vb, fb, mb, V, G, ev, rv, Y, X, a1, a2, a3, a4, a5, a6⟩ := h
  exact ⟨vb, fb, mb, V, G, ev, rv, Y, X, a1.turn hT h1, a2, a3, a4.turn hT h2, a5, a6⟩
theorem Both.as (h : Both W KS KK sb kb s) (s' : Sh) (h1 : s'.F = s.F) (h2 : s'.H = s.H) (h3 : s'.D = s.D) (h4 : s'.R = s.R) (h5 : s'.E = s.E) : Both W KS KK sb kb s' := by
  unfold Both at h ⊢
  rw [h1, h2, h3, h4, h5]
  exact h
theorem Rn.turn (h : Rn W K rb cb sb kb s) (hT : Turn S W W') (hs : ∀ i, K i → ¬ S i) : Rn W' K rb cb sb kb s := by
  obtain ⟨KS, KK, b, d, iS, iK, r⟩ := h.ex
  exact ⟨h.rc.turn hT (hs _ h.Kr), fun t ht => (h.cc t ht).turn hT (hs _ (h.Kc (by rw [ht]; simp))), ⟨KS, KK, b.turn hT (fun i hi => hs i (iS i hi)) (fun i hi => hs i (iK i hi)), d, iS, iK, r⟩, h.Kr, h.Kc, h.gl, fun i hi => Nat.lt_of_lt_of_le (h.lt i hi) hT.size⟩
theorem Rn.below (h : Rn W K rb cb sb kb s) (hb : Below W.heap.size W W') : Rn W' K rb cb sb kb s := h.turn (S := fun _ => False) (Turn.ofBelow hb) (fun _ _ h => h)
theorem Rn.size (h : Rn W K rb cb sb kb s) : 17 < W.heap.size := Nat.lt_of_le_of_lt (h.gl rb h.Kr) (h.lt rb h.Kr)

/-- The kernel does something. -/
theorem Rn.onKern {f : Nat} {args : Array Value} {P : Ending → Prop} {D' : Fls} {E' : List Ev} (h : Rn W K rb cb sb kb s)
    (hc : ∀ KK mb ev rv Y X, Kern W KK kb mb ev rv s.D Y X → Y.map Prod.fst = s.R → X.map Prod.fst = s.E →
      Calls Tryz.prog f args W fun e w' => P e ∧ ∃ ev' X' KK', Kern w' KK' kb mb ev' rv D' Y (X ++ X') ∧ X'.map Prod.fst = E' ∧ Stp W KK w' KK') :
    Calls Tryz.prog f args W fun e w' => P e ∧ ∃ K', Rn w' K' rb cb sb kb { s with D := D', E := s.E ++ E' } ∧ Stp W K w' K' := by
  obtain ⟨KS, KK, ⟨vb, fb, mb, V, G, ev, rv, Y, X, a1, a2, a3, a4, a5, a6⟩, d, iS, iK, n1, n2, n3⟩ := h.ex
  have h17 := h.size
  have hr := h.lt rb h.Kr
  refine (hc KK mb ev rv Y X a4 a5 a6).mono ?_
  rintro e w' ⟨hp, ev', X', KK', b1, b2, b3⟩
  refine ⟨hp, fun i => K i ∨ KK' i, ⟨h.rc.turn b3.1 n2, fun t ht => (h.cc t ht).turn b3.1 (n3 (by rw [show s.ct = some t from ht]; simp)).2.1, ⟨KS, KK', ⟨vb, fb, mb, V, G, ev', rv, Y, X ++ X', a1.turn b3.1 (fun i hi hk => d i hi hk), a2, a3, b1, a5, by rw [List.map_append, a6, b2]⟩, ?_, fun i hi => .inl (iS i hi), fun i hi => .inr hi, n1, ?_, ?_⟩, .inl h.Kr, fun hc => .inl (h.Kc hc), ?_, ?_⟩, b3.1.mono iK, ?_⟩
  · intro i hi hk
    rcases b3.2 i hk with h1 | h1
    · exact d i hi h1
    · have := a1.lt i hi; omega
  · intro hk
    rcases b3.2 rb hk with h1 | h1
    · exact n2 h1
    · omega
  · intro hn
    obtain ⟨m1, m2, m3⟩ := n3 hn
    refine ⟨m1, fun hk => ?_, m3⟩
    rcases b3.2 cb hk with h1 | h1
    · exact m2 h1
    · have := h.lt cb (h.Kc hn); omega
  · rintro i (hi | hi)
    · exact h.gl i hi
    · rcases b3.2 i hi with h1 | h1
      · exact h.gl i (iK i h1)
      · omega
  · rintro i (hi | hi)
    · exact Nat.lt_of_lt_of_le (h.lt i hi) b3.1.size
    · exact b1.lt i hi
  · rintro i (hi | hi)
    · exact .inl hi
    · exact (b3.2 i hi).elim (fun h1 => .inl (iK i h1)) .inr
/-- The store does something. -/
theorem Rn.onSto {f : Nat} {args : Array Value} {P : Ending → World → Prop} {F' : Vps} {H' : Fps} (h : Rn W K rb cb sb kb s)
    (hc : ∀ KS vb fb V G, Sto W KS sb vb fb V G → cont V = s.F → cont G = s.H →
      Calls Tryz.prog f args W fun e w' => P e w' ∧ ∃ KS' V' G', Sto w' KS' sb vb fb V' G' ∧ cont V' = F' ∧ cont G' = H' ∧ StpS vb fb W KS w' KS') :
    Calls Tryz.prog f args W fun e w' => P e w' ∧ ∃ K', Rn w' K' rb cb sb kb { s with F := F', H := H' } ∧ Stp W K w' K' := by
  obtain ⟨KS, KK, ⟨vb, fb, mb, V, G, ev, rv, Y, X, a1, a2, a3, a4, a5, a6⟩, d, iS, iK, n1, n2, n3⟩ := h.ex
  have h17 := h.size
  have hr := h.lt rb h.Kr
  refine (hc KS vb fb V G a1 a2 a3).mono ?_
  rintro e w' ⟨hp, KS', V', G', b1, b2, b2', b3⟩
  have hT : Turn KS W w' := b3.1.mono (fun i hi => by rcases hi with rfl | rfl; exact a1.Kv; exact a1.Kf)
  refine ⟨hp, fun i => K i ∨ KS' i, ⟨h.rc.turn hT n1, fun t ht => (h.cc t ht).turn hT (n3 (by rw [show s.ct = some t from ht]; simp)).1, ⟨KS', KK, ⟨vb, fb, mb, V', G', ev, rv, Y, X, b1, b2, b2', a4.turn hT (fun i hi hk => d i hk hi), a5, a6⟩, ?_, fun i hi => .inr hi, fun i hi => .inl (iK i hi), ?_, n2, ?_⟩, .inl h.Kr, fun hc => .inl (h.Kc hc), ?_, ?_⟩, hT.mono iS, ?_⟩
  · intro i hi hk
    rcases b3.2 i hi with h1 | h1
    · exact d i h1 hk
    · have := a4.lt i hk; omega
  · intro hk
    rcases b3.2 rb hk with h1 | h1
    · exact n1 h1
    · omega
  · intro hn
    obtain ⟨m1, m2, m3⟩ := n3 hn
    refine ⟨fun hk => ?_, m2, m3⟩
    rcases b3.2 cb hk with h1 | h1
    · exact m1 h1
    · have := h.lt cb (h.Kc hn); omega
  · rintro i (hi | hi)
    · exact h.gl i hi
    · rcases b3.2 i hi with h1 | h1
      · exact h.gl i (iS i h1)
      · omega
  · rintro i (hi | hi)
    · exact Nat.lt_of_lt_of_le (h.lt i hi) hT.size
    · exact b1.lt i hi
  · rintro i (hi | hi)
    · exact .inl hi
    · exact (b3.2 i hi).elim (fun h1 => .inl (iS i h1)) .inr
/-- Only its own cells turn. -/
theorem Rn.put (h : Rn W K rb cb sb kb s) (s' : Sh) (hT : Turn (fun i => i = rb) W W') (hc : Cel W' rb 135 (rnC sb kb cb s')) (h0 : s'.ct = s.ct) (h1 : s'.F = s.F) (h2 : s'.H = s.H) (h3 : s'.D = s.D) (h4 : s'.R = s.R) (h5 : s'.E = s.E) :
    Rn W' K rb cb sb kb s' ∧ Stp W K W' K := by
  obtain ⟨KS, KK, b, d, iS, iK, n1, n2, n3⟩ := h.ex
  refine ⟨⟨hc, fun t ht => (h.cc t (h0 ▸ ht)).turn hT (n3 (by rw [← h0, ht]; simp)).2.2, ⟨KS, KK, (b.turn hT (fun i hi e => n1 (e ▸ hi)) (fun i hi e => n2 (e ▸ hi))).as s' h1 h2 h3 h4 h5, d, iS, iK, n1, n2, fun hn => n3 (h0 ▸ hn)⟩, h.Kr, fun hn => h.Kc (h0 ▸ hn), h.gl, fun i hi => Nat.lt_of_lt_of_le (h.lt i hi) hT.size⟩, hT.mono (fun i e => by subst e; exact h.Kr), fun i hi => .inl hi⟩
theorem Rn.set (h : Rn W K rb cb sb kb s) (j : Nat) (v : Value) (s' : Sh) (hc : (rnC sb kb cb s).setIfInBounds j v = rnC sb kb cb s') (h0 : s'.ct = s.ct) (h1 : s'.F = s.F) (h2 : s'.H = s.H) (h3 : s'.D = s.D) (h4 : s'.R = s.R) (h5 : s'.E = s.E) :
    Rn (W.setCell ⟨rb, j, none⟩ v) K rb cb sb kb s' ∧ Stp W K (W.setCell ⟨rb, j, none⟩ v) K := by
  have hs := h.rc.set (j := j) v
  rw [hc] at hs
  exact h.put s' ((Turn.refl (fun i => i = rb) W).setCell (p := ⟨rb, j, none⟩) (fun _ => rfl) v) hs h0 h1 h2 h3 h4 h5
/-- What is caught is written. -/
theorem Rn.said {t : Txt} (h : Rn W K rb cb sb kb s) (ht : s.ct = some t) (u : Txt) :
    Rn (W.setCell ⟨cb, 0, none⟩ (str u)) K rb cb sb kb { s with ct := some u } ∧ Stp W K (W.setCell ⟨cb, 0, none⟩ (str u)) K := by
  obtain ⟨KS, KK, b, d, iS, iK, n1, n2, n3⟩ := h.ex
  have hn : s.ct ≠ none := by rw [ht]; simp
  obtain ⟨m1, m2, m3⟩ := n3 hn
  have hT : Turn (fun i => i = cb) W (W.setCell ⟨cb, 0, none⟩ (str u)) := (Turn.refl (fun i => i = cb) W).setCell (p := ⟨cb, 0, none⟩) (fun _ => rfl) (str u)
  refine ⟨⟨?_, fun t' ht' => ?_, ⟨KS, KK, (b.turn hT (fun i hi e => m1 (e ▸ hi)) (fun i hi e => m2 (e ▸ hi))).as _ rfl rfl rfl rfl rfl, d, iS, iK, n1, n2, fun _ => ⟨m1, m2, m3⟩⟩, h.Kr, fun _ => h.Kc hn, h.gl, fun i hi => Nat.lt_of_lt_of_le (h.lt i hi) hT.size⟩, hT.mono (fun i e => by subst e; exact h.Kc hn), fun i hi => .inl hi⟩
  · have := h.rc.turn hT (fun e => m3 e.symm)
    rw [show rnC sb kb cb { s with ct := some u } = rnC sb kb cb s by simp [rnC, ht, ctP]]
    exact this
  · cases ht'
    exact (h.cc t ht).set (str u)

/-! ### what lies off it -/
/-- A value's block lies off these. -/
def Off (W : World) (K : Nat → Prop) (v : Value) : Prop := ∀ b, v.ownBlock = some b → b < W.heap.size ∧ ¬ K b
theorem Off.stp {K' : Nat → Prop} {v : Value} (h : Off W K v) (hs : Stp W K W' K') : Off W' K' v := fun b hb => by
  obtain ⟨h1, h2⟩ := h b hb
  exact ⟨Nat.lt_of_lt_of_le h1 hs.1.size, fun hk => (hs.2 b hk).elim h2 (fun h3 => by omega)⟩
theorem Off.nd {K' : Nat → Prop} {v : Value} {X : List Nd} (h : Off W K v) (hn : NdAt W v X) (hs : Stp W K W' K') : NdAt W' v X := hn.turn hs.1 (fun b hb => (h b hb).2)
theorem Off.tx {K' : Nat → Prop} {v : Value} {l : List Txt} (h : Off W K v) (ht : Tx W v l) (hs : Stp W K W' K') : Tx W' v l := ht.turn hs.1 (fun b hb => (h b hb).2)
theorem Ers.stp {ea : Nat → Addr} (h : Ers W ea) (hr : Rn W K rb cb sb kb s) {K' : Nat → Prop} (hs : Stp W K W' K') : Ers W' ea := fun i hi => by
  have h1 := h i hi
  exact ⟨(World.cell?_of_block (w := W) (a := ⟨i, 0, none⟩) (hs.1.block i h1.2 (fun hk => by have := hr.gl i hk; omega))).trans h1.1, Nat.lt_of_lt_of_le h1.2 hs.1.size⟩
end Go.Proofs.YtfafhjglcaikoaaGreatDoor
/-! Names and numbers of package text. -/
namespace Go.Proofs.YtfafhjglcaikoaaGreatDoor.T
open Go.RowKit
attribute [local go_sem] Oper.semAt_some

def startB (c : Int) : Bool := decide ((97 ≤ c ∧ c ≤ 122) ∨ (65 ≤ c ∧ c ≤ 90) ∨ c = 95)
def digitB (c : Int) : Bool := decide (48 ≤ c ∧ c ≤ 57)
def contB (c : Int) : Bool := startB c || digitB c
def cont8 (b : UInt8) : Bool := contB (b.toNat : Int)
def nameB (l : List UInt8) : Bool := match l with
  | [] => false
  | b :: _ => decide (l.length ≤ 20) && startB (b.toNat : Int) && l.all cont8
theorem ret_b {a b : Bool} (h : a = true ↔ b = true) : (Ending.returned (.bool a)) = .returned (.bool b) := by rw [Bool.eq_iff_iff.2 h]
theorem ret_bool {a b : Bool} (h : a = b) : Ending.returned (.bool a) = .returned (.bool b) := by rw [h]
theorem digit_any (c : Int) (w : World) : Calls Tryz.prog 232 #[.int .u8 c] w fun e w' => e = .returned (.bool (digitB c)) ∧ w' = w := by
  by_cases h1 : 48 ≤ c
  all_goals
    go_enter Tryz.func232, Tryz.ntmps232
    go_wp2_with fail
    go_ret
    exact ⟨ret_b (by simp [digitB]; omega), rfl⟩
theorem start_any (c : Int) (w : World) : Calls Tryz.prog 192 #[.int .u8 c] w fun e w' => e = .returned (.bool (startB c)) ∧ w' = w := by
  by_cases h1 : 97 ≤ c <;> by_cases h2 : c ≤ 122 <;> by_cases h3 : 65 ≤ c <;> by_cases h4 : c ≤ 90
  all_goals first | (exfalso; omega) | skip
  all_goals
    go_enter Tryz.func192, Tryz.ntmps192
    go_wp2_with fail
    go_ret
    exact ⟨ret_b (by simp [startB]; try omega), rfl⟩
theorem cont_any (c : Int) (w : World) : Calls Tryz.prog 193 #[.int .u8 c] w fun e w' => e = .returned (.bool (contB c)) ∧ w' = w := by
  cases h : startB c with
  | true =>
    go_enter Tryz.func193, Tryz.ntmps193
    go_wp2_with fail
    refine (start_any _ _).mono ?_
    rintro e w1 ⟨rfl, rfl⟩
    rw [h]
    go_wp2_with fail
    go_ret
    exact ⟨ret_bool (by simp [contB, h]), rfl⟩
  | false =>
    go_enter Tryz.func193, Tryz.ntmps193
    go_wp2_with fail
    refine (start_any _ _).mono ?_
    rintro e w1 ⟨rfl, rfl⟩
    rw [h]
    go_wp2_with fail
    refine (digit_any _ _).mono ?_
    rintro e w1 ⟨rfl, rfl⟩
    go_wp2_with fail
    go_ret
    exact ⟨ret_bool (by simp [contB, h]), rfl⟩
theorem s_get (s : ByteArray) (k : Nat) (h : k < s.size) : s.data.toList[k]? = some s[k] := by
  rw [List.getElem?_eq_getElem (by simpa using h)]
  rfl
theorem drop_cons (s : ByteArray) (k : Nat) (h : k < s.size) : s.data.toList.drop k = s[k] :: s.data.toList.drop (k + 1) := by
  rw [List.drop_eq_getElem_cons (by simpa using h)]
  rfl
theorem nonempty_of (s : ByteArray) (h : 0 < s.size) : s.toList.isEmpty = false := by
  rw [ByteArray.toList_eq]
  have hl : s.data.toList.length = s.size := by simp
  match he : s.data.toList with
  | [] => rw [he] at hl; simp at hl; omega
  | _ :: _ => rfl
theorem empty_of (s : ByteArray) (h : s.size = 0) : s = ⟨#[]⟩ := by
  obtain ⟨⟨l⟩⟩ := s
  have : l = [] := List.eq_nil_of_length_eq_zero h
  rw [this]
def allCont (l : List UInt8) : Bool := l.all cont8
theorem nameB_long (s : ByteArray) (h : 20 < s.size) : nameB s.data.toList = false := by
  have hl : s.data.toList.length = s.size := by simp
  cases hs : s.data.toList with
  | nil => rfl
  | cons b r =>
    rw [hs] at hl
    unfold nameB
    simp only [hl, decide_eq_false (show ¬ s.size ≤ 20 by omega), Bool.false_and]
theorem nameB_of (s : ByteArray) (h0 : 0 < s.size) (h : s.size ≤ 20) : nameB s.data.toList = (startB ((s[0]).toNat : Int) && allCont s.data.toList) := by
  have hl : s.data.toList.length = s.size := by simp
  have hd := drop_cons s 0 h0
  rw [List.drop_zero] at hd
  rw [hd] at hl ⊢
  unfold nameB
  simp only [hl, decide_eq_true h, Bool.true_and]
  rfl
theorem name_empty (w : World) : Calls Tryz.prog 139 #[.string ⟨#[]⟩] w fun e w' => e = .returned (.bool false) ∧ w' = w := by
  go_enter Tryz.func139, Tryz.ntmps139
  go_wp2_with fail
  go_ret
  exact ⟨rfl, rfl⟩
theorem name_long (s : ByteArray) (w : World) (h : 20 < s.size) (hne : s.toList.isEmpty = false) : Calls Tryz.prog 139 #[.string s] w fun e w' => e = .returned (.bool false) ∧ w' = w := by
  go_enter Tryz.func139, Tryz.ntmps139
  go_wp2_with fail
  go_ret
  exact ⟨rfl, rfl⟩
theorem name_other (s : ByteArray) (w : World) (h0 : 0 < s.size) (h : s.size ≤ 20) (hne : s.toList.isEmpty = false) (hst : startB ((s[0]).toNat : Int) = false) : Calls Tryz.prog 139 #[.string s] w fun e w' => e = .returned (.bool false) ∧ w' = w := by
  have HST : Hid (startB ((s[0]).toNat : Int) = false) := hst
  clear hst
  go_enter Tryz.func139, Tryz.ntmps139
  go_wp2_with fail
  refine (start_any _ _).mono ?_
  rintro e w' ⟨rfl, rfl⟩
  rw [HST.out]
  go_wp2_with fail
  go_ret
  exact ⟨rfl, rfl⟩
theorem name_start (s : ByteArray) (w : World) (h0 : 0 < s.size) (h : s.size ≤ 20) (hne : s.toList.isEmpty = false) (hst : startB ((s[0]).toNat : Int) = true) : Calls Tryz.prog 139 #[.string s] w fun e w' => e = .returned (.bool (allCont s.data.toList)) ∧ w' = w := by
  have HST : Hid (startB ((s[0]).toNat : Int) = true) := hst
  clear hst
  go_enter Tryz.func139, Tryz.ntmps139
  go_wp2_with fail
  refine (start_any _ _).mono ?_
  rintro e w' ⟨rfl, rfl⟩
  rw [HST.out]
  go_wp2_with fail
  go_loop [19] (fun v => ∃ k : Nat, k ≤ s.size ∧ v = .int .i64 k ∧ Hid (allCont s.data.toList = allCont (s.data.toList.drop k))) (fun v => s.size - (intOf v).toNat)
  case atStart => exact ⟨0, by omega, rfl, by simp [Hid]⟩
  case round =>
    obtain ⟨k, hk, rfl, hh⟩ := hrel
    by_cases hlt : k < s.size
    · have hd := drop_cons s k hlt
      cases hcb : contB ((s[k]).toNat : Int)
      · have hf : allCont s.data.toList = false := by
          rw [hh.out, hd, allCont, List.all_cons, show cont8 s[k] = false from hcb]; rfl
        have HF : Hid (allCont s.data.toList = false) := hf
        have HCB : Hid (contB ((s[k]).toNat : Int) = false) := hcb
        clear hf hcb hd hh
        go_wp2_with fail
        refine (cont_any _ _).mono ?_
        rintro e w' ⟨rfl, rfl⟩
        rw [HCB.out]
        go_wp2_with fail
        go_ret
        exact ⟨ret_bool HF.out.symm, rfl⟩
      · have hf : allCont s.data.toList = allCont (s.data.toList.drop (k + 1)) := by
          rw [hh.out, hd, allCont, List.all_cons, show cont8 s[k] = true from hcb]; rfl
        have HF : Hid (allCont s.data.toList = allCont (s.data.toList.drop (k + 1))) := hf
        have HCB : Hid (contB ((s[k]).toNat : Int) = true) := hcb
        clear hf hcb hd hh
        go_wp2_with fail
        refine (cont_any _ _).mono ?_
        rintro e w' ⟨rfl, rfl⟩
        rw [HCB.out]
        go_wp2_with fail
        exact ⟨⟨k + 1, by omega, by simp, HF.out⟩, by simp [intOf]; omega⟩
    · have hf : allCont s.data.toList = true := by
        rw [hh.out, List.drop_of_length_le (by simp; omega)]; rfl
      have HF : Hid (allCont s.data.toList = true) := hf
      clear hf hh
      go_wp2_with fail
      go_ret
      exact ⟨ret_bool HF.out.symm, rfl⟩
theorem name_any (s : ByteArray) (w : World) : Calls Tryz.prog 139 #[.string s] w fun e w' => e = .returned (.bool (nameB s.data.toList)) ∧ w' = w := by
  by_cases h0 : s.size = 0
  · rw [empty_of s h0]; exact name_empty w
  · have h1 : 0 < s.size := by omega
    have hne := nonempty_of s h1
    by_cases h : s.size ≤ 20
    · rw [nameB_of s h1 h]
      cases hst : startB ((s[0]).toNat : Int)
      · exact name_other s w h1 h hne hst
      · exact name_start s w h1 h hne hst
    · rw [nameB_long s (by omega)]
      exact name_long s w (by omega) hne

theorem take_snoc (s : ByteArray) (k : Nat) (h : k < s.size) : s.data.toList.take (k + 1) = s.data.toList.take k ++ [s[k]] := by
  rw [List.take_add_one, s_get s k h]
  rfl
theorem u8_eq (a b : UInt8) : a = b ↔ (a.toNat : Int) = (b.toNat : Int) := by
  constructor
  · intro h; rw [h]
  · intro h; exact UInt8.toNat_inj.1 (by omega)
def digit8 (b : UInt8) : Bool := digitB (b.toNat : Int)
def valOf (l : List UInt8) : Nat := l.foldl (fun n b => n * 10 + (b.toNat - 48)) 0
def parseV (l : List UInt8) : Option Nat :=
  if l = [] ∨ 9 < l.length ∨ (l.head? = some 48 ∧ 1 < l.length) then none else if l.all digit8 then some (valOf l) else none
theorem valOf_snoc (l : List UInt8) (b : UInt8) : valOf (l ++ [b]) = valOf l * 10 + (b.toNat - 48) := by simp [valOf, List.foldl_append]
theorem valOf_lt : ∀ (n : Nat) (l : List UInt8), l.length = n → l.all digit8 = true → valOf l < 10 ^ n
  | 0, l, h, _ => by rw [List.eq_nil_of_length_eq_zero h]; simp [valOf]
  | n + 1, l, h, hd => by
    obtain ⟨m, b, rfl⟩ : ∃ m b, l = m ++ [b] := ⟨l.dropLast, l.getLast (by intro e; rw [e] at h; simp at h), (List.dropLast_concat_getLast _).symm⟩
    rw [List.all_append] at hd
    have h1 : m.all digit8 = true := by simp at hd; simp; exact hd.1
    have h2 : digit8 b = true := by simp at hd; exact hd.2
    have ih := valOf_lt n m (by simp at h; exact h) h1
    rw [valOf_snoc, Nat.pow_succ]
    unfold digit8 digitB at h2
    have h3 := of_decide_eq_true h2
    omega
theorem parseV_long (l : List UInt8) (h : 9 < l.length) : parseV l = none := by
  unfold parseV; rw [if_pos (.inr (.inl h))]
theorem parseV_zero (l : List UInt8) (h : l.head? = some 48) (h1 : 1 < l.length) : parseV l = none := by
  unfold parseV; rw [if_pos (.inr (.inr ⟨h, h1⟩))]
def allDigit (l : List UInt8) : Bool := l.all digit8
def digitsV (l : List UInt8) : Option Nat := if allDigit l then some (valOf l) else none
theorem parseV_of (l : List UInt8) (h0 : 0 < l.length) (h : l.length ≤ 9) (hz : l.head? = some 48 → l.length ≤ 1) : parseV l = digitsV l := by
  have hn : ¬ (l = [] ∨ 9 < l.length ∨ (l.head? = some 48 ∧ 1 < l.length)) := by
    rintro (h1 | h1 | ⟨h1, h2⟩)
    · rw [h1] at h0; simp at h0
    · omega
    · have := hz h1; omega
  unfold parseV; rw [if_neg hn]; rfl
theorem allDigit_snoc (l : List UInt8) (b : UInt8) : allDigit (l ++ [b]) = (allDigit l && digit8 b) := by
  unfold allDigit; rw [List.all_append]; simp
theorem allDigit_no (s : ByteArray) (k : Nat) (h : k < s.size) (hd : digitB ((s[k]).toNat : Int) = false) : allDigit s.data.toList = false := by
  have e := List.take_append_drop k s.data.toList
  unfold allDigit
  rw [← e, drop_cons s k h, List.all_append, List.all_cons, show digit8 s[k] = false from hd]
  simp
theorem head_of (s : ByteArray) (h0 : 0 < s.size) : s.data.toList.head? = some s[0] := by
  have hd := drop_cons s 0 h0
  rw [List.drop_zero] at hd
  rw [hd]; rfl
/-- What Parse hands back. -/
def parseRet : Option Nat → Value
  | some n => .tuple #[.int .i64 n, .bool true]
  | none => .tuple #[.int .i64 0, .bool false]

set_option maxHeartbeats 400000 in
theorem parse_empty (w : World) :
    Calls Tryz.prog 205 #[.string ⟨#[]⟩] w fun e w' => e = .returned (parseRet none) ∧ w' = w := by
  go_enter Tryz.func205, Tryz.ntmps205
  go_wp2
  go_ret2
  exact ⟨rfl, rfl⟩
set_option maxHeartbeats 400000 in
theorem parse_long (s : ByteArray) (w : World) (h : 9 < s.size) (hne : s.toList.isEmpty = false) :
    Calls Tryz.prog 205 #[.string s] w fun e w' => e = .returned (parseRet none) ∧ w' = w := by
  go_enter Tryz.func205, Tryz.ntmps205
  go_wp2
  go_ret2
  exact ⟨rfl, rfl⟩
set_option maxHeartbeats 400000 in
theorem parse_zero (s : ByteArray) (w : World) (h : s.size ≤ 9) (h1 : 1 < s.size) (hne : s.toList.isEmpty = false) (hz : (((s[0]).toNat : Int) == 48) = true) :
    Calls Tryz.prog 205 #[.string s] w fun e w' => e = .returned (parseRet none) ∧ w' = w := by
  go_enter Tryz.func205, Tryz.ntmps205
  go_wp2
  go_ret2
  exact ⟨rfl, rfl⟩
set_option maxHeartbeats 1000000 in
theorem parse_loop (s : ByteArray) (w : World) (h0 : 0 < s.size) (h : s.size ≤ 9) (hne : s.toList.isEmpty = false) (z : Bool) (hz1 : z = true → s.size ≤ 1) (hz : (((s[0]).toNat : Int) == 48) = z) :
    Calls Tryz.prog 205 #[.string s] w fun e w' => e = .returned (parseRet (digitsV s.data.toList)) ∧ w' = w := by
  cases z
  all_goals
    have d1 : decide ((9 : Int) < s.size) = false := decide_eq_false (by omega)
    try have d2 : decide ((1 : Int) < s.size) = false := decide_eq_false (by have := hz1 rfl; omega)
    clear hz1
    go_enter Tryz.func205, Tryz.ntmps205
    go_wp2
    go_loop [4, 25] (fun v n => ∃ k : Nat, k ≤ s.size ∧ n = .int .i64 k ∧ v = .int .i64 (valOf (s.data.toList.take k)) ∧ Hid (allDigit (s.data.toList.take k) = true)) (fun _ n => s.size - (intOf n).toNat)
    case atStart => exact ⟨0, by omega, rfl, rfl, rfl⟩
    case round =>
      obtain ⟨k, hk, rfl, rfl, hh⟩ := hrel
      by_cases hlt : k < s.size
      · cases hcb : digitB ((s[k]).toNat : Int)
        · have hf := allDigit_no s k hlt hcb
          have HF : Hid _ := hf
          have HCB : Hid _ := hcb
          clear hf hcb hh
          go_wp2_with (go_at_call 232; refine (digit_any _ _).mono ?_; rintro e w' ⟨rfl, rfl⟩; rw [HCB.out])
          go_ret2
          exact ⟨by rw [digitsV, HF.out]; rfl, rfl⟩
        · have hts := take_snoc s k hlt
          have hvs := valOf_snoc (s.data.toList.take k) s[k]
          rw [← hts] at hvs
          have hds := allDigit_snoc (s.data.toList.take k) s[k]
          rw [← hts, hh.out, show digit8 s[k] = true from hcb] at hds
          have hb1 : valOf (s.data.toList.take k) < 100000000 := by
            have hlen : (s.data.toList.take k).length = k := by rw [List.length_take]; simp; omega
            have := valOf_lt k _ hlen hh.out
            have : 10 ^ k ≤ 10 ^ 8 := Nat.pow_le_pow_right (by omega) (by omega)
            omega
          have hb2 := of_decide_eq_true (show decide (48 ≤ ((s[k]).toNat : Int) ∧ ((s[k]).toNat : Int) ≤ 57) = true from hcb)
          have hvs2 : ((valOf (s.data.toList.take (k + 1)) : Nat) : Int) = (valOf (s.data.toList.take k) : Nat) * 10 + (((s[k]).toNat : Int) - 48) := by rw [hvs]; omega
          have HV : Hid _ := hvs2
          have HD : Hid _ := hds
          have HCB : Hid _ := hcb
          clear hts hvs hds hvs2 hcb hh
          go_wp2_with (go_at_call 232; refine (digit_any _ _).mono ?_; rintro e w' ⟨rfl, rfl⟩; rw [HCB.out])
          go_round
          case rel => exact ⟨k + 1, by omega, by go_num, by rw [HV.out], HD.out⟩
          case measure => simp [intOf]; omega
      · have hk2 : s.data.toList.take k = s.data.toList := List.take_of_length_le (by simp; omega)
        rw [hk2] at hh
        rw [hk2]
        clear hk2
        go_wp2
        go_ret2
        exact ⟨by rw [digitsV, hh.out]; rfl, rfl⟩
theorem parse_any (s : ByteArray) (w : World) :
    Calls Tryz.prog 205 #[.string s] w fun e w' => e = .returned (parseRet (parseV s.data.toList)) ∧ w' = w := by
  have hl : s.data.toList.length = s.size := by simp
  by_cases h0 : s.size = 0
  · rw [empty_of s h0]; exact parse_empty w
  · have h1 : 0 < s.size := by omega
    have hne := nonempty_of s h1
    by_cases h : s.size ≤ 9
    · by_cases hz : s[0] = 48
      · by_cases hs : 1 < s.size
        · rw [parseV_zero _ (by rw [head_of s h1, hz]) (by omega)]
          exact parse_zero s w h hs hne (by rw [hz]; rfl)
        · rw [parseV_of _ (by omega) (by omega) (fun _ => by omega)]
          exact parse_loop s w h1 h hne true (fun _ => by omega) (by rw [hz]; rfl)
      · rw [parseV_of _ (by omega) (by omega) (fun hh => by rw [head_of s h1] at hh; exact absurd (Option.some.inj hh) hz)]
        exact parse_loop s w h1 h hne false (fun hh => by cases hh) (by rw [beq_eq_false_iff_ne]; exact fun hh => hz ((u8_eq _ _).2 hh))
    · rw [parseV_long _ (by omega)]
      exact parse_long s w (by omega) hne
end Go.Proofs.YtfafhjglcaikoaaGreatDoor.T
/-! The iterator over the letters of a text. -/
namespace Go.Proofs.YtfafhjglcaikoaaGreatDoor
open Go.RowKit Go.Shelf
attribute [local go_sem] Oper.semAt_some

theorem extract_tail (s : ByteArray) (i : Nat) : (s.extract i s.size).data.toList = s.data.toList.drop i := by
  rw [Lib.extract_data, List.take_of_length_le (by simp)]

end Go.Proofs.YtfafhjglcaikoaaGreatDoor
/-! Live text, read. -/
namespace Go.Proofs.YtfafhjglcaikoaaGreatDoor
open Go.RowKit Go.Shelf
attribute [local go_sem] Oper.semAt_some

theorem Cel.alloc {W : World} {b : Nat} {t : TypeId} {cs : Array Value} (h : Cel W b t cs) (o : Obj) : Cel (W.alloc o) b t cs := (Below.heap_alloc W o b h.lt).trans h
end Go.Proofs.YtfafhjglcaikoaaGreatDoor
/-! SameTexts; the chapter's examples. -/
namespace Go.Proofs.YtfafhjglcaikoaaGreatDoor
open Go.RowKit Go.Shelf

/-- The value is a slice of these texts. -/
def TxAt (W : World) (v : Value) (ps : List (List UInt8)) : Prop :=
  ∃ (g o : Nat) (ad : Option Addr) (cap : Nat), v = .slice ad ps.length cap ∧ ps.length ≤ cap ∧ (ps ≠ [] → ad = some ⟨g, o, none⟩ ∧ g < W.heap.size) ∧ ∀ k p, ps[k]? = some p → W.cell? ⟨g, o + k, none⟩ = some (.string ⟨p.toArray⟩)
end Go.Proofs.YtfafhjglcaikoaaGreatDoor
/-! Slices of texts, nil ones told apart. -/
namespace Go.Proofs.YtfafhjglcaikoaaGreatDoor
open Go.RowKit Go.Shelf

theorem Tx.texts {W : World} {v : Value} {ps : List (List UInt8)} (h : Tx W v ps) : TxAt W v ps := by
  rcases h with ⟨rfl, rfl⟩ | ⟨ad, cap, rfl, h1, h2⟩
  · exact ⟨0, 0, none, 0, rfl, Nat.le_refl _, fun e => absurd rfl e, fun k p hp => by simp at hp⟩
  · by_cases hne : ps = []
    · subst hne
      exact ⟨0, 0, some ad, cap, rfl, h1, fun e => absurd rfl e, fun k p hp => by simp at hp⟩
    · obtain ⟨g, o, rfl, h3, h4⟩ := h2 hne
      exact ⟨g, o, _, cap, rfl, h1, fun _ => ⟨rfl, h3⟩, h4⟩
end Go.Proofs.YtfafhjglcaikoaaGreatDoor
namespace Go.Proofs.YtfafhjglcaikoaaGreatDoor
open Go.RowKit Go.Shelf Go.Sort

theorem owns_after {B : Nat} {e : TypeId} {k n : Nat} {v : Value} {xs : List Value} {W W' : World} (h : W.ownsRow B e k v n xs) (hb : Below W.heap.size W W') : W'.ownsRow B e k v n xs :=
  h.kept (row := none) ⟨hb.os, hb.tape, hb.output, hb.size, fun j hj _ => hb.block j hj⟩ (by cases v.ownBlock <;> simp)
theorem str_size' (l : List UInt8) : (⟨l.toArray⟩ : ByteArray).size = l.length := by show l.toArray.size = _; simp
end Go.Proofs.YtfafhjglcaikoaaGreatDoor
