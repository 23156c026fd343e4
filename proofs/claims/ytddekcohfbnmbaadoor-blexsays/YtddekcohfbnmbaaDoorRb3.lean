/- The document's own lexer: a source's tokens. -/
import Derived.Test.YtddekcohfbnmbaaDoorRb1
import Derived.Test.YtddekcohfbnmbaaDoorRb2
import Derived.Deep.RegionHeld3
import Derived.BigQuiet
import Derived.Deep.Cut
import Derived.Deep.CutRange
import Derived.Deep.CutBlock
namespace Go.Proofs.YtddekcohfbnmbaaDoor
open Go.RowKit
attribute [local go_sem] Oper.semAt_some

/-- The document's tokens, of one's own. -/
def RbOwn (W : World) (B : Nat) (v : Value) (K : List Tb) : Prop := W.ownsRow B 55 5 v K.length (tbCs K)
theorem RbOwn.nil (W : World) (B : Nat) : RbOwn W B (.slice none 0 0) [] := World.ownsRow_nil W B _ _
theorem RbOwn.turn {W W' : World} {B : Nat} {v : Value} {K : List Tb} {S : Nat → Prop} (h : RbOwn W B v K) (hT : Turn S W W') (hS : ∀ i, S i → i < B) : RbOwn W' B v K := by
  refine owns_turn h hT fun g hg hs => ?_
  have := (World.ownsRow.lt h g hg).1
  have := hS g hs
  omega
theorem RbOwn.below {W W' : World} {B : Nat} {v : Value} {K : List Tb} (h : RbOwn W B v K) (hb : Below W.heap.size W W') : RbOwn W' B v K := h.turn (Turn.ofBelow (S := fun _ => False) hb) (fun _ e => e.elim)
theorem RbOwn.form {W : World} {B : Nat} {v : Value} {K : List Tb} (h : RbOwn W B v K) : ∃ ad cap, v = .slice ad K.length cap := owns_slice h
theorem RbOwn.lower {W : World} {B B' : Nat} {v : Value} {K : List Tb} (h : RbOwn W B v K) (hB : B' ≤ B) : RbOwn W B' v K := owns_lower h hB
theorem infoTB : (Tryd.prog.info? 55).map (fun i => (i.zero, i.size, i.bytes)) = some (some (.agg zT), 5, 48) := by kernel_rfl
/-- What a source comes to, by the document. -/
def LexB (W : World) (R : Except Er (List Tb)) (v : Value) (c : Int) (av : Value) (w' : World) : Prop := match R with
  | .ok l => c = 0 ∧ av = .slice none 0 0 ∧ RbOwn w' W.heap.size v l
  | .error x => v = .slice none 0 0 ∧ c = codE x.code ∧ ∃ fb, av = .slice (some ⟨fb, 0, none⟩) 1 1 ∧ Cel w' fb 3 #[.int .i64 (x.pos : Nat)]
theorem sizeFl : (Tryd.prog.info? 31).map (·.size) = some 2 := by kernel_rfl
theorem results_flt {fn : Func} {p u : Tmp} (h : fn.results = #[.tmp u, .cell p 31]) (tmps : Array Value) (w : World) (g : Nat) (cs : Array Value) (hp : tmps.getD p undef = .pointer (some ⟨g, 0, none⟩)) (hc : Cel w g 31 cs) (hz : cs.size = 2) :
    (results fn tmps).run Tryd.prog w = .ok (.tuple #[tmps.getD u undef, .agg cs]) w := by
  have hl := run_loadVar_row (P := Tryd.prog) w g 31 31 cs (0, 0) _ hc Tryd.underlying31 rfl (by rw [hz]; exact sizeFl)
  have hp' : tmps[p]?.getD undef = .pointer (some ⟨g, 0, none⟩) := by simpa using hp
  simp only [results, h]
  simp [Result.andThen, asAddr, hp', hl]
/-- Between two tokens. -/
structure Lsb (W1 : World) (v : Value) (K : List Tb) (wr : World) : Prop where
  tk : RbOwn wr W1.heap.size v K
  below : Below W1.heap.size W1 wr
/-- A token in the making. -/
abbrev mkC (k p n : Nat) (a : ByteArray) (g : Bool) : Array Value := #[.int .i64 (k : Nat), .int .i64 (p : Nat), .int .i64 (n : Nat), .string a, .bool g]
structure Mk (X : World) (tb : Nat) (k p n : Nat) (a : ByteArray) (g : Bool) (w : World) : Prop where
  eq : tb = X.heap.size
  cel : Cel w tb 55 (mkC k p n a g)
  below : Below tb X w
theorem Mk.new (X : World) (k p n : Nat) (a : ByteArray) (g : Bool) : Mk X X.heap.size k p n a g (X.alloc (.cells (mkC k p n a g) 55)) := ⟨rfl, Cel.new _ _ _, below_new _ _⟩
theorem Mk.drewN {X w : World} {tb k p n : Nat} {a : ByteArray} {g : Bool} (h : Mk X tb k p n a g w) (m : Nat) : Mk X tb k p n a g (w.drewN m) := ⟨h.eq, h.cel, h.below.os, h.below.tape, h.below.output, h.below.size, h.below.block⟩
theorem Mk.setK {X w : World} {tb k p n : Nat} {a : ByteArray} {g : Bool} (h : Mk X tb k p n a g w) (k' : Nat) {v : Int} (hv : v = (k' : Nat)) : Mk X tb k' p n a g (w.setCell ⟨tb, 0, none⟩ (.int .i64 v)) := by
  subst hv
  exact ⟨h.eq, h.cel.set (j := 0) _, h.below.setCell (p := ⟨tb, 0, none⟩) (Nat.le_refl _) _⟩
theorem Mk.setN {X w : World} {tb k p n : Nat} {a : ByteArray} {g : Bool} (h : Mk X tb k p n a g w) (n' : Nat) {v : Int} (hv : v = (n' : Nat)) : Mk X tb k p n' a g (w.setCell ⟨tb, 2, none⟩ (.int .i64 v)) := by
  subst hv
  exact ⟨h.eq, h.cel.set (j := 2) _, h.below.setCell (p := ⟨tb, 2, none⟩) (Nat.le_refl _) _⟩
theorem Mk.setS {X w : World} {tb k p n : Nat} {a : ByteArray} {g : Bool} (h : Mk X tb k p n a g w) (a' : ByteArray) : Mk X tb k p n a' g (w.setCell ⟨tb, 3, none⟩ (.string a')) :=
  ⟨h.eq, h.cel.set (j := 3) _, h.below.setCell (p := ⟨tb, 3, none⟩) (Nat.le_refl _) _⟩
theorem Mk.lt {X w : World} {tb k p n : Nat} {a : ByteArray} {g : Bool} (h : Mk X tb k p n a g w) : tb + 1 ≤ w.heap.size := h.cel.lt
/-- What was there ahead of the token is there still. -/
theorem Mk.lsb {W1 X w : World} {tb k p n : Nat} {a : ByteArray} {g : Bool} {v : Value} {K : List Tb} (h : Mk X tb k p n a g w) (hL : Lsb W1 v K X) : Lsb W1 v K w := by
  obtain ⟨rfl, h1, h2⟩ := h
  exact ⟨hL.tk.below h2, hL.below.trans (h2.mono hL.below.size)⟩
/-- A token more. -/
theorem Lsb.snoc {W1 X w w6 : World} {tb k p n : Nat} {a : ByteArray} {g : Bool} {v v6 : Value} {K : List Tb} {o : Obj} (hL : Lsb W1 v K X) (h : Mk X tb k p n a g w) (ho : w6.ownsRow W1.heap.size 55 5 v6 (K.length + 1) (tbCs K ++ tbC ⟨k, p, n, a.data.toList, g⟩)) (hg : (w.alloc o).grownBy w6 v.ownBlock) : Lsb W1 v6 (K ++ [⟨k, p, n, a.data.toList, g⟩]) w6 := by
  have hw := h.lsb hL
  refine ⟨?_, hw.below.trans (grown_own (by simp; exact Nat.le_trans hw.below.size (Nat.le_succ _)) ((Below.refl _ w).alloc hw.below.size o) (World.ownsRow.alloc hw.tk o) hg)⟩
  unfold RbOwn
  rw [tbCs_append, tbCs_one, List.length_append]
  exact ho
/-- A premise that the walk does not look into. -/
structure Cap (P : Prop) : Prop where
  out : P
/-- A part of a function's code. -/
def cL : Code → Code
  | .seq a _ => a
  | .cond _ a _ => a
  | .block _ c => c
  | .loop c => c
  | c => c
def cR : Code → Code
  | .seq _ b => b
  | .cond _ _ b => b
  | c => c
def enI (q : Nat) : Int := if q = 0 then -1 else (q : Nat)
theorem glue_is (s : ByteArray) (q p : Nat) (hq : q ≤ p) (hp : p ≤ s.size) : (enI q == (p : Int)) = glueB s.size (s.data.toList.drop q) (s.data.toList.drop p) := by
  unfold enI glueB
  rw [len_drop', len_drop']
  by_cases h0 : q = 0
  · rw [if_pos h0]
    subst h0
    rw [show decide (0 < s.size - (s.size - 0)) = false by simp]
    rw [Bool.false_and, beq_eq_false_iff_ne]
    omega
  · rw [if_neg h0, show decide (0 < s.size - (s.size - q)) = true by simp; omega, Bool.true_and, Bool.eq_iff_iff, beq_iff_eq, decide_eq_true_eq]
    omega
theorem bytes_snoc (a s : ByteArray) (j : Nat) (h : j < s.size) : (a ++ s.extract j (j + 1)).data.toList = a.data.toList ++ [s[j]] := by
  rw [show (a ++ s.extract j (j + 1)).data.toList = a.data.toList ++ (s.extract j (j + 1)).data.toList by simp, ext_list, show j + 1 - j = 1 by omega, drop_cons s j h]
  rfl
/-- What a round may come to. -/
def NextOk (Q : Exit → Act → World → Prop) (s : ByteArray) (b0 : Nat) (W1 : World) (T : List UInt8 → Except Er (Tb × List UInt8)) (R : Except Er (List Tb)) (p : Nat) (y1 y14 y15 y16 y17 y18 y19 y20 y21 y286 y287 y288 y289 y290 y291 y292 y293 y294 y295 y296 y297 y298 y299 y300 y301 : Value) : Prop := ∀ (q' p' g' : Nat) (en' pi' : Int) (K' : List Tb) (v' : Value) (w' : World), q' ≤ p' → p' ≤ s.size → s.size - q' < g' → K'.length ≤ q' → (0 < q' → 0 < K'.length) → p < p' → en' = enI q' → pi' = (p' : Nat) → over (s.data.toList.drop p') = over (s.data.toList.drop q') → Lsb W1 v' K' w' → R = preT K' (lexW T g' (s.data.toList.drop q')) → ∀ (z9 z10 z11 z12 z13 z22 z23 z24 z25 z26 z27 z28 z29 z30 z31 z32 z33 z34 z35 z36 z37 z38 z39 z40 z41 z42 z43 z44 z45 z46 z47 z48 z49 z50 z51 z52 z53 z54 z55 z56 z57 z58 z59 z60 z61 z62 z63 z64 z65 z66 z67 z68 z69 z70 z71 z72 z73 z74 z75 z76 z77 z78 z79 z80 z81 z82 z83 z84 z85 z86 z87 z88 z89 z90 z91 z92 z93 z94 z95 z96 z97 z98 z99 z100 z101 z102 z103 z104 z105 z106 z107 z108 z109 z110 z111 z112 z113 z114 z115 z116 z117 z118 z119 z120 z121 z122 z123 z124 z125 z126 z127 z128 z129 z130 z131 z132 z133 z134 z135 z136 z137 z138 z139 z140 z141 z142 z143 z144 z145 z146 z147 z148 z149 z150 z151 z152 z153 z154 z155 z156 z157 z158 z159 z160 z161 z162 z163 z164 z165 z166 z167 z168 z169 z170 z171 z172 z173 z174 z175 z176 z177 z178 z179 z180 z181 z182 z183 z184 z185 z186 z187 z188 z189 z190 z191 z192 z193 z194 z195 z196 z197 z198 z199 z200 z201 z202 z203 z204 z205 z206 z207 z208 z209 z210 z211 z212 z213 z214 z215 z216 z217 z218 z219 z220 z221 z222 z223 z224 z225 z226 z227 z228 z229 z230 z231 z232 z233 z234 z235 z236 z237 z238 z239 z240 z241 z242 z243 z244 z245 z246 z247 z248 z249 z250 z251 z252 z253 z254 z255 z256 z257 z258 z259 z260 z261 z262 z263 z264 z265 z266 z267 z268 z269 z270 z271 z272 z273 z274 z275 z276 z277 z278 z279 z280 z281 z282 z283 z284 z285 : Value), Q .normal ⟨#[.string s, y1, .slice none 0 0, .pointer (some ⟨b0, 0, none⟩), .slice (some ⟨b0 + 1, 0, none⟩) 17 17, .slice (some ⟨b0 + 2, 0, none⟩) 17 17, v', .int .i64 pi', .int .i64 en', z9, z10, z11, z12, z13, y14, y15, y16, y17, y18, y19, y20, y21, z22, z23, z24, z25, z26, z27, z28, z29, z30, z31, z32, z33, z34, z35, z36, z37, z38, z39, z40, z41, z42, z43, z44, z45, z46, z47, z48, z49, z50, z51, z52, z53, z54, z55, z56, z57, z58, z59, z60, z61, z62, z63, z64, z65, z66, z67, z68, z69, z70, z71, z72, z73, z74, z75, z76, z77, z78, z79, z80, z81, z82, z83, z84, z85, z86, z87, z88, z89, z90, z91, z92, z93, z94, z95, z96, z97, z98, z99, z100, z101, z102, z103, z104, z105, z106, z107, z108, z109, z110, z111, z112, z113, z114, z115, z116, z117, z118, z119, z120, z121, z122, z123, z124, z125, z126, z127, z128, z129, z130, z131, z132, z133, z134, z135, z136, z137, z138, z139, z140, z141, z142, z143, z144, z145, z146, z147, z148, z149, z150, z151, z152, z153, z154, z155, z156, z157, z158, z159, z160, z161, z162, z163, z164, z165, z166, z167, z168, z169, z170, z171, z172, z173, z174, z175, z176, z177, z178, z179, z180, z181, z182, z183, z184, z185, z186, z187, z188, z189, z190, z191, z192, z193, z194, z195, z196, z197, z198, z199, z200, z201, z202, z203, z204, z205, z206, z207, z208, z209, z210, z211, z212, z213, z214, z215, z216, z217, z218, z219, z220, z221, z222, z223, z224, z225, z226, z227, z228, z229, z230, z231, z232, z233, z234, z235, z236, z237, z238, z239, z240, z241, z242, z243, z244, z245, z246, z247, z248, z249, z250, z251, z252, z253, z254, z255, z256, z257, z258, z259, z260, z261, z262, z263, z264, z265, z266, z267, z268, z269, z270, z271, z272, z273, z274, z275, z276, z277, z278, z279, z280, z281, z282, z283, z284, z285, y286, y287, y288, y289, y290, y291, y292, y293, y294, y295, y296, y297, y298, y299, y300, y301], []⟩ w'
def RetOk (Q : Exit → Act → World → Prop) (s : ByteArray) (b0 : Nat) (W1 : World) (R : Except Er (List Tb)) (y1 y14 y15 y16 y17 y18 y19 y20 y21 y286 y287 y288 y289 y290 y291 y292 y293 y294 y295 y296 y297 y298 y299 y300 y301 : Value) : Prop := ∀ (x : Er) (fb : Nat) (w' : World), R = .error x → Cel w' b0 31 #[.int .i64 (codE x.code), .slice (some ⟨fb, 0, none⟩) 1 1] → Cel w' fb 3 #[.int .i64 (x.pos : Nat)] → Below b0 W1 w' → ∀ (z6 z7 z8 z9 z10 z11 z12 z13 z22 z23 z24 z25 z26 z27 z28 z29 z30 z31 z32 z33 z34 z35 z36 z37 z38 z39 z40 z41 z42 z43 z44 z45 z46 z47 z48 z49 z50 z51 z52 z53 z54 z55 z56 z57 z58 z59 z60 z61 z62 z63 z64 z65 z66 z67 z68 z69 z70 z71 z72 z73 z74 z75 z76 z77 z78 z79 z80 z81 z82 z83 z84 z85 z86 z87 z88 z89 z90 z91 z92 z93 z94 z95 z96 z97 z98 z99 z100 z101 z102 z103 z104 z105 z106 z107 z108 z109 z110 z111 z112 z113 z114 z115 z116 z117 z118 z119 z120 z121 z122 z123 z124 z125 z126 z127 z128 z129 z130 z131 z132 z133 z134 z135 z136 z137 z138 z139 z140 z141 z142 z143 z144 z145 z146 z147 z148 z149 z150 z151 z152 z153 z154 z155 z156 z157 z158 z159 z160 z161 z162 z163 z164 z165 z166 z167 z168 z169 z170 z171 z172 z173 z174 z175 z176 z177 z178 z179 z180 z181 z182 z183 z184 z185 z186 z187 z188 z189 z190 z191 z192 z193 z194 z195 z196 z197 z198 z199 z200 z201 z202 z203 z204 z205 z206 z207 z208 z209 z210 z211 z212 z213 z214 z215 z216 z217 z218 z219 z220 z221 z222 z223 z224 z225 z226 z227 z228 z229 z230 z231 z232 z233 z234 z235 z236 z237 z238 z239 z240 z241 z242 z243 z244 z245 z246 z247 z248 z249 z250 z251 z252 z253 z254 z255 z256 z257 z258 z259 z260 z261 z262 z263 z264 z265 z266 z267 z268 z269 z270 z271 z272 z273 z274 z275 z276 z277 z278 z279 z280 z281 z282 z283 z284 z285 : Value), Q .ret ⟨#[.string s, y1, .slice none 0 0, .pointer (some ⟨b0, 0, none⟩), .slice (some ⟨b0 + 1, 0, none⟩) 17 17, .slice (some ⟨b0 + 2, 0, none⟩) 17 17, z6, z7, z8, z9, z10, z11, z12, z13, y14, y15, y16, y17, y18, y19, y20, y21, z22, z23, z24, z25, z26, z27, z28, z29, z30, z31, z32, z33, z34, z35, z36, z37, z38, z39, z40, z41, z42, z43, z44, z45, z46, z47, z48, z49, z50, z51, z52, z53, z54, z55, z56, z57, z58, z59, z60, z61, z62, z63, z64, z65, z66, z67, z68, z69, z70, z71, z72, z73, z74, z75, z76, z77, z78, z79, z80, z81, z82, z83, z84, z85, z86, z87, z88, z89, z90, z91, z92, z93, z94, z95, z96, z97, z98, z99, z100, z101, z102, z103, z104, z105, z106, z107, z108, z109, z110, z111, z112, z113, z114, z115, z116, z117, z118, z119, z120, z121, z122, z123, z124, z125, z126, z127, z128, z129, z130, z131, z132, z133, z134, z135, z136, z137, z138, z139, z140, z141, z142, z143, z144, z145, z146, z147, z148, z149, z150, z151, z152, z153, z154, z155, z156, z157, z158, z159, z160, z161, z162, z163, z164, z165, z166, z167, z168, z169, z170, z171, z172, z173, z174, z175, z176, z177, z178, z179, z180, z181, z182, z183, z184, z185, z186, z187, z188, z189, z190, z191, z192, z193, z194, z195, z196, z197, z198, z199, z200, z201, z202, z203, z204, z205, z206, z207, z208, z209, z210, z211, z212, z213, z214, z215, z216, z217, z218, z219, z220, z221, z222, z223, z224, z225, z226, z227, z228, z229, z230, z231, z232, z233, z234, z235, z236, z237, z238, z239, z240, z241, z242, z243, z244, z245, z246, z247, z248, z249, z250, z251, z252, z253, z254, z255, z256, z257, z258, z259, z260, z261, z262, z263, z264, z265, z266, z267, z268, z269, z270, z271, z272, z273, z274, z275, z276, z277, z278, z279, z280, z281, z282, z283, z284, z285, y286, y287, y288, y289, y290, y291, y292, y293, y294, y295, y296, y297, y298, y299, y300, y301], []⟩ w'
end Go.Proofs.YtddekcohfbnmbaaDoor
