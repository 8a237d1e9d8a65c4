/-
  Texts of this claim: Fn, Tkq, Take, Shelf.
-/
import Derived.Test.YtigdmebijbaofaaGreatDoorCmdAM3
import Derived.Laws.ResultCell
import Derived.Test.YtigdmebijbaofaaGreatDoorCmdAM2
import Derived.Below
import Derived.Shelf.Strings.Builder1
import Derived.Shelf.Strings.Builder2
import Derived.Shelf.Strings.OnBuilder
import Derived.Shelf.Strings.BuilderF
import Derived.Shelf.Strings.BuilderK
import Derived.Shelf.Strings.Builder2Cap
import Derived.Shelf.Strconv.Itoa0
import Derived.Shelf.Strconv.Itoa1
import Derived.Shelf.LaysM
import Derived.Shelf.Strconv.Itoa2
import Derived.Shelf.Strconv.Itoa3
import Derived.Shelf.Strings.Search1
import Derived.Shelf.Strings.Search2
import Derived.Shelf.Strings.Cut
import Derived.Shelf.Strings.Shaped
import Derived.Shelf.Strings.Prefix
import Derived.Shelf.Strings.BuilderCap
import Derived.Test.YtigdmebijbaofaaGreatDoorProg

/-! ### Fn -/

namespace Go.Proofs.YtigdmebijbaofaaGreatDoor
open Go.RowKit

theorem opq {P : Program} {c : Code} {Q : Exit → Act → World → Prop} {a : Act} {w : World} (R : World → Prop) (hr : R w) (h : ∀ W, R W → Code.wp P c Q a W) : Code.wp P c Q a w := h w hr
theorem rx_ret2 {fn : Func} {p u : Tmp} (h : fn.results = #[.cell p 27, .tmp u]) (tmps : Array Value) (w : World) (S : Nat) (cs : Array Value) (x : Value) (hp : tmps.getD p undef = .pointer (some ⟨S, 0, none⟩)) (hu : tmps.getD u undef = x) (hA : w.heap[S]? = some (.cells cs 27)) (hc : cs.size = 9) : (results fn tmps).run Tryz.prog w = .ok (.tuple #[.agg cs, x]) w := by
 rw [results_cell_tmp h, hp, hu]
 have := run_loadVar_row (P := Tryz.prog) w S 27 27 cs (0, 0) _ hA Tryz.underlying27 rfl (by rw [hc]; kernel_rfl)
 simp [asAddr, Result.andThen, this]
/-- Two expressions of memory at once: the frame of a reader's call. -/
theorem Ks.new {P S : Nat} {a b c : World} (h : Ks P a b) (k : Ks S b c) (hS : a.heap.size ≤ S) (hP : P < a.heap.size) : Ks P a c := h.off k hS hP
theorem Ks.kpt {P : Nat} {a b c : World} (h : Ks P a b) (k : Kp b c) (hP : P < a.heap.size) : Ks P a c := h.kp k (Nat.le_trans (Nat.le_of_lt hP) h.size)

abbrev sgo (x y z : Nat) : Obj := .cells #[.int .i64 (x : Int), .int .u8 (y : Int), .int .i64 (z : Int)] 173
abbrev sgz : Obj := .cells #[.int .i64 0, .int .u8 0, .int .i64 0] 173

set_option maxRecDepth 100000 in
theorem oneOf_any (p : Nat → Bool) (w : World) : Calls Tryz.prog 230 #[sv p] w fun e w' => e = .returned (rxv 1 0 0 0 (W4.of p) (.slice none 0 0)) ∧ Kp w w' := by
 go_enter Tryz.func230, Tryz.ntmps230
 go_wp2_with fail
 exact bodyPost_ret (v := .agg _) (rx_ret rfl _ _ _ _ rfl (last_at _ _ _ (by simp)) rfl) rfl ⟨rfl, ((Kp.refl _).alloc _).alloc _⟩

set_option maxRecDepth 100000 in
theorem repeatable_any (k : Int) (w : World) : Calls Tryz.prog 189 #[.int .i64 k] w fun e w' => e = .returned (.bool (k == 1 || k == 5 || k == 6)) ∧ w' = w := by
 go_enter Tryz.func189, Tryz.ntmps189
 cases h1 : (k == 1)
 ·
  cases h2 : (k == 5)
  ·
   go_wp2
   go_ret
   exact ⟨by simp, rfl⟩
  ·
   go_wp2
   go_ret
   exact ⟨by simp, rfl⟩
 ·
  go_wp2
  go_ret
  exact ⟨by simp, rfl⟩
end Go.Proofs.YtigdmebijbaofaaGreatDoor

/-! ### Tkq -/

namespace Go.Proofs.YtigdmebijbaofaaGreatDoor
open Go Go.RowKit
section
variable {P : Program} {ops : Array Oper} {Q : Exit → Act → World → Prop} {md : Region.Mode} {S : World → Prop} {z : Nat}
theorem tk (i : Nat) (d : Option Tmp) (o : Op) (ty : TypeId) {p : String} {af : Array Edge} {g : Option (Nat × Bool)} {v : Value} {fuel : Nat} {listed : Array Bool} {a : Act} {w : World} (hi : ops[i]? = some { dst := d, op := o, type := ty, pos := p, after := af, guard := g })
  (hy : ∀ w, S w → (execOp a.eval { dst := d, op := o, type := ty, pos := p, after := af, guard := g }).run P w = .ok (.value v) w) (hS : S w) (h : wpAnyH P md ops Q S fuel (listed.setIfInBounds i true) (a.put d v) w)
  (hs : Region.noSelect ops = true := by kernel_rfl) (hf : Region.free md ops listed i = true := by kernel_rfl) (hr : (Region.ready md ops listed).contains i = true := by kernel_rfl)
  (hQ : ∀ c a w, Q (.panic c) (a.put d v) w → Q (.panic c) a w := by exact fun _ _ _ h => h) (hw : Region.wanted { dst := d, op := o, type := ty, pos := p, after := af, guard := g } (yielded ops a.tmps) = true := by rfl) : wpAnyH P md ops Q S (fuel + 1) listed a w :=
 wpAnyH_take hi hs hf hr hQ (Or.inl ⟨hw, hy⟩) hS h
theorem zk (z i : Nat) (ks : List Nat) (d : Option Tmp) (o : Op) (ty : TypeId) {p : String} {af : Array Edge} {g : Option (Nat × Bool)} {v : Value} {fuel : Nat} {listed : Array Bool} {a : Act} {w : World} (hi : ops[i]? = some { dst := d, op := o, type := ty, pos := p, after := af, guard := g })
  (hy : ∀ w, S w → (execOp a.eval { dst := d, op := o, type := ty, pos := p, after := af, guard := g }).run P w = .ok (.value v) w) (hS : S w) (h : anyZ P md ops Q S z fuel (listed.setIfInBounds i true) (a.put d v) w)
  (hs : Region.noSelect ops = true := by kernel_rfl) (hf : Region.free md ops listed i = true := by kernel_rfl) (hr : (Region.ready md ops listed).contains i = true := by kernel_rfl) (hp : pathB md ops z ks i = true := by kernel_rfl) (hz : shutB md ops listed = true := by kernel_rfl)
  (hQ : ∀ c a w, Q (.panic c) (a.put d v) w → Q (.panic c) a w := by exact fun _ _ _ h => h) (hw : Region.wanted { dst := d, op := o, type := ty, pos := p, after := af, guard := g } (yielded ops a.tmps) = true := by rfl) : anyZ P md ops Q S z (fuel + 1) listed a w :=
 anyZ_take hi hs hf hr hp hz hQ (Or.inl ⟨hw, hy⟩) hS h
theorem tn (i : Nat) (d : Option Tmp) (o : Op) (ty : TypeId) {p : String} {af : Array Edge} {g : Option (Nat × Bool)} {fuel : Nat} {listed : Array Bool} {a : Act} {w : World} (hi : ops[i]? = some { dst := d, op := o, type := ty, pos := p, after := af, guard := g }) (hS : S w) (h : wpAnyH P md ops Q S fuel (listed.setIfInBounds i true) (a.put d undef) w)
  (hs : Region.noSelect ops = true := by kernel_rfl) (hf : Region.free md ops listed i = true := by kernel_rfl) (hr : (Region.ready md ops listed).contains i = true := by kernel_rfl)
  (hQ : ∀ c a w, Q (.panic c) (a.put d undef) w → Q (.panic c) a w := by exact fun _ _ _ h => h) (hw : Region.wanted { dst := d, op := o, type := ty, pos := p, after := af, guard := g } (yielded ops a.tmps) = false := by rfl) : wpAnyH P md ops Q S (fuel + 1) listed a w :=
 wpAnyH_take hi hs hf hr hQ (Or.inr ⟨hw, rfl⟩) hS h
end
theorem ps : (∀ (a : Act) (d : Tmp) (v : Value), a.put (some d) v = { a with tmps := a.tmps.setIfInBounds d v }) ∧ (∀ (a : Act) (v : Value), a.put none v = a) ∧ (∀ (l : List Value) (i : Nat) (x : Value), l.toArray.setIfInBounds i x = (l.set i x).toArray) ∧ (∀ (l : List Bool) (i : Nat) (x : Bool), l.toArray.setIfInBounds i x = (l.set i x).toArray)
  ∧ (∀ (l : List Value) (y x : Value), (y :: l).set 0 x = x :: l) ∧ (∀ (l : List Value) (n : Nat) (y x : Value), (y :: l).set (n + 1) x = y :: l.set n x) ∧ (∀ (l : List Bool) (y x : Bool), (y :: l).set 0 x = x :: l) ∧ (∀ (l : List Bool) (n : Nat) (y x : Bool), (y :: l).set (n + 1) x = y :: l.set n x) :=
 ⟨fun _ _ _ => rfl, fun _ _ => rfl, fun _ _ _ => by simp, fun _ _ _ => by simp, fun _ _ _ => rfl, fun _ _ _ _ => rfl, fun _ _ _ => rfl, fun _ _ _ _ => rfl⟩
/-- A drawn region, S told by the law that pays it. -/
theorem hdrew {P : Program} {ops : Array Oper} {Q : Exit → Act → World → Prop} {R S : World → Prop} {id : Nat} {a : Act} {w : World} (mk : Hid (∀ W, R W → S W)) (q0 : R w.drew)
  (h : S w.drew → wpAnyH P .any ops Q S ops.size (Array.replicate ops.size false) a w.drew) (hm : P.follows .mixedOrders = true := by kernel_rfl) : (Code.region id ops true).wp P Q a w :=
 wp_region_held_drew hm (mk.out _ q0) h
theorem hdrewZ {P : Program} {ops : Array Oper} {Q : Exit → Act → World → Prop} {R S : World → Prop} (z : Nat) {id : Nat} {a : Act} {w : World} (mk : Hid (∀ W, R W → S W)) (q0 : R w.drew)
  (h : S w.drew → anyZ P .any ops Q S z ops.size (Array.replicate ops.size false) a w.drew) (hm : P.follows .mixedOrders = true := by kernel_rfl) : (Code.region id ops true).wp P Q a w :=
 region_Z hm (mk.out _ q0) h
theorem hidT {p : Prop} (h : p) : Hid p := h
theorem cells3 {w : World} {B : Nat} {a0 a1 a2 : Value} {l : List Value} {t : TypeId} (h : w.heap[B]? = some (.cells (a0 :: a1 :: a2 :: l).toArray t)) : w.cell? ⟨B, 0, none⟩ = some a0 ∧ w.cell? ⟨B, 1, none⟩ = some a1 ∧ w.cell? ⟨B, 2, none⟩ = some a2 := ⟨bl_cell h 0 _ rfl, bl_cell h 1 _ rfl, bl_cell h 2 _ rfl⟩
theorem cellf3 {w : World} {B : Nat} {a0 a1 a2 : Value} {l : List Value} {t : TypeId} (h : w.heap[B]? = some (.cells (a0 :: a1 :: a2 :: l).toArray t)) : w.cell? ⟨B, 0, none⟩ = some a0 ∧ w.frozen? ⟨B, 0, none⟩ = false ∧ w.cell? ⟨B, 1, none⟩ = some a1 ∧ w.frozen? ⟨B, 1, none⟩ = false ∧ w.cell? ⟨B, 2, none⟩ = some a2 ∧ w.frozen? ⟨B, 2, none⟩ = false := ⟨bl_cell h 0 _ rfl, bl_frozen h 0, bl_cell h 1 _ rfl, bl_frozen h 1, bl_cell h 2 _ rfl, bl_frozen h 2⟩
theorem cells4 {w : World} {B : Nat} {a0 a1 a2 a3 : Value} {l : List Value} {t : TypeId} (h : w.heap[B]? = some (.cells (a0 :: a1 :: a2 :: a3 :: l).toArray t)) : w.cell? ⟨B, 0, none⟩ = some a0 ∧ w.cell? ⟨B, 1, none⟩ = some a1 ∧ w.cell? ⟨B, 2, none⟩ = some a2 ∧ w.cell? ⟨B, 3, none⟩ = some a3 := ⟨bl_cell h 0 _ rfl, bl_cell h 1 _ rfl, bl_cell h 2 _ rfl, bl_cell h 3 _ rfl⟩
theorem cells6 {w : World} {B : Nat} {a0 a1 a2 a3 a4 a5 : Value} {l : List Value} {t : TypeId} (h : w.heap[B]? = some (.cells (a0 :: a1 :: a2 :: a3 :: a4 :: a5 :: l).toArray t)) : w.cell? ⟨B, 0, none⟩ = some a0 ∧ w.cell? ⟨B, 1, none⟩ = some a1 ∧ w.cell? ⟨B, 2, none⟩ = some a2 ∧ w.cell? ⟨B, 3, none⟩ = some a3 ∧ w.cell? ⟨B, 4, none⟩ = some a4 ∧ w.cell? ⟨B, 5, none⟩ = some a5 := ⟨bl_cell h 0 _ rfl, bl_cell h 1 _ rfl, bl_cell h 2 _ rfl, bl_cell h 3 _ rfl, bl_cell h 4 _ rfl, bl_cell h 5 _ rfl⟩
theorem cells9 {w : World} {B : Nat} {a0 a1 a2 a3 a4 a5 a6 a7 a8 : Value} {l : List Value} {t : TypeId} (h : w.heap[B]? = some (.cells (a0 :: a1 :: a2 :: a3 :: a4 :: a5 :: a6 :: a7 :: a8 :: l).toArray t)) : w.cell? ⟨B, 0, none⟩ = some a0 ∧ w.cell? ⟨B, 1, none⟩ = some a1 ∧ w.cell? ⟨B, 2, none⟩ = some a2 ∧ w.cell? ⟨B, 3, none⟩ = some a3 ∧ w.cell? ⟨B, 4, none⟩ = some a4 ∧ w.cell? ⟨B, 5, none⟩ = some a5 ∧ w.cell? ⟨B, 6, none⟩ = some a6 ∧ w.cell? ⟨B, 7, none⟩ = some a7 ∧ w.cell? ⟨B, 8, none⟩ = some a8 := ⟨bl_cell h 0 _ rfl, bl_cell h 1 _ rfl, bl_cell h 2 _ rfl, bl_cell h 3 _ rfl, bl_cell h 4 _ rfl, bl_cell h 5 _ rfl, bl_cell h 6 _ rfl, bl_cell h 7 _ rfl, bl_cell h 8 _ rfl⟩
theorem cellf9 {w : World} {B : Nat} {a0 a1 a2 a3 a4 a5 a6 a7 a8 : Value} {l : List Value} {t : TypeId} (h : w.heap[B]? = some (.cells (a0 :: a1 :: a2 :: a3 :: a4 :: a5 :: a6 :: a7 :: a8 :: l).toArray t)) : w.cell? ⟨B, 0, none⟩ = some a0 ∧ w.frozen? ⟨B, 0, none⟩ = false ∧ w.cell? ⟨B, 1, none⟩ = some a1 ∧ w.frozen? ⟨B, 1, none⟩ = false ∧ w.cell? ⟨B, 2, none⟩ = some a2 ∧ w.frozen? ⟨B, 2, none⟩ = false ∧ w.cell? ⟨B, 3, none⟩ = some a3 ∧ w.frozen? ⟨B, 3, none⟩ = false ∧ w.cell? ⟨B, 4, none⟩ = some a4 ∧ w.frozen? ⟨B, 4, none⟩ = false ∧ w.cell? ⟨B, 5, none⟩ = some a5 ∧ w.frozen? ⟨B, 5, none⟩ = false ∧ w.cell? ⟨B, 6, none⟩ = some a6 ∧ w.frozen? ⟨B, 6, none⟩ = false ∧ w.cell? ⟨B, 7, none⟩ = some a7 ∧ w.frozen? ⟨B, 7, none⟩ = false ∧ w.cell? ⟨B, 8, none⟩ = some a8 ∧ w.frozen? ⟨B, 8, none⟩ = false := ⟨bl_cell h 0 _ rfl, bl_frozen h 0, bl_cell h 1 _ rfl, bl_frozen h 1, bl_cell h 2 _ rfl, bl_frozen h 2, bl_cell h 3 _ rfl, bl_frozen h 3, bl_cell h 4 _ rfl, bl_frozen h 4, bl_cell h 5 _ rfl, bl_frozen h 5, bl_cell h 6 _ rfl, bl_frozen h 6, bl_cell h 7 _ rfl, bl_frozen h 7, bl_cell h 8 _ rfl, bl_frozen h 8⟩
theorem kpt {w w2 : World} (h : Kp w w2 := by repeat (first | exact Kp.refl _ | refine Kp.alloc ?_ _ | refine Kp.drew ?_ | refine Kp.drewN _ ?_)) : Kp w w2 := h
end Go.Proofs.YtigdmebijbaofaaGreatDoor

/-! ### Take -/

namespace Go.Proofs.YtigdmebijbaofaaGreatDoor
set_option maxHeartbeats 2000000
set_option maxRecDepth 100000
open Go.RowKit

theorem take_any (x y z : Nat) (k mn mx m : Int) (t : W4) (ad : Option Addr) (l c : Nat) (s : ByteArray) (ere : Bool) (i n g d P : Nat) (w : World) (h : Rd w P s ere i n g d) (hi : i ≤ 1000000000) (hz : z ≤ 100) (hn : n ≤ 1000000000) :
  Calls Tryz.prog 229 #[.pointer (some ⟨P, 0, none⟩), .agg #[.int .i64 (x : Int), .int .u8 (y : Int), .int .i64 (z : Int)], rxv k mn mx m t (.slice ad l c)] w fun e w' => e = .returned (.tuple #[rxv k mn mx m t (.slice ad l c), .int .i64 0]) ∧ Rd w' P s ere (i + z) (n + 1) g d ∧ Ks P w w' := by
 have R : Hid (Rd w P s ere i n g d) := h
 have hP : P < w.heap.size := h.lt
 clear h
 have gw : IntKind.i64.wrap ((i : Int) + (z : Int)) = (i : Int) + (z : Int) := by rw [IntKind.wrap_i64]; omega
 go_enter Tryz.func229, Tryz.ntmps229
 go_upto_region 1 with fail
 refine opq (fun W0 => Rd W0 P s ere i n g d ∧ W0.heap[w.heap.size]? = some (sgo x y z) ∧ W0.heap[(w.heap.size + 1)]? = some (rxo k mn mx m t (.slice ad l c)) ∧ W0.heap[(w.heap.size + 2)]? = some rzo ∧ Kp w W0) ⟨by exact R.out.kp kpt, by (first | exact last_at _ _ _ (by simp) | (refine bl_alloc ?_ _; first | exact last_at _ _ _ (by simp) | (refine bl_alloc ?_ _; first | exact last_at _ _ _ (by simp) | (refine bl_alloc ?_ _; exact last_at _ _ _ (by simp))))), by (first | exact last_at _ _ _ (by simp) | (refine bl_alloc ?_ _; first | exact last_at _ _ _ (by simp) | (refine bl_alloc ?_ _; first | exact last_at _ _ _ (by simp) | (refine bl_alloc ?_ _; exact last_at _ _ _ (by simp))))), by (first | exact last_at _ _ _ (by simp) | (refine bl_alloc ?_ _; first | exact last_at _ _ _ (by simp) | (refine bl_alloc ?_ _; first | exact last_at _ _ _ (by simp) | (refine bl_alloc ?_ _; exact last_at _ _ _ (by simp))))), by exact kpt⟩ ?_
 rintro W0 ⟨xR0, xG0, xA0, xB0, xK0⟩
 have R0 := hidT xR0
 have G0 := hidT xG0
 have A0 := hidT xA0
 have B0 := hidT xB0
 have K0 := hidT xK0
 clear xR0 xG0 xA0 xB0 xK0
 have ks0 : Hid (Ks P w W0) := K0.out.ks (Nat.le_of_lt hP)
 have fp2 := bl_frozen R0.out.b 2
 clear K0
 have Q0 : Kp W0 W0.drew := (Kp.refl _).drew
 have MK : Hid (∀ W, Kp W0 W → W.cell? ⟨P, 2, none⟩ = some (.int .i64 (i : Int)) ∧ W.cell? ⟨w.heap.size, 2, none⟩ = some (.int .i64 (z : Int)) ∧ Hid (Kp W0 W)) := fun W k => ⟨(R0.out.kp k).cells.2.2.1, bl_cell (bl_kp G0.out k) 2 _ rfl, k⟩
 refine wp_region_noPanic ?_
 refine hdrewZ 9 MK Q0 (fun hH => ?_)
 have KQ := Q0
 refine zk 9 0 [] (some 8) (Op.move (Operand.tmp 0)) 142 (v := ?v0a1) rfl ?h0a1 hH ?_
 case h0a1 => intro _ _; go_simp; try with_reducible rfl
 try simp only [ps]
 refine zk 9 1 [] (some 9) (Op.nilCheck (Operand.tmp 8)) 0 (v := ?v1a2) rfl ?h1a2 hH ?_
 case h1a2 => intro _ _; go_simp; try with_reducible rfl
 try simp only [ps]
 refine zk 9 2 [] (some 10) (Op.fieldAddr 99 (Operand.tmp 9) 2) 0 (v := ?v2a3) rfl ?h2a3 hH ?_
 case h2a3 => intro _ _; go_simp; try with_reducible rfl
 try simp only [ps]
 refine zk 9 3 [] (some 11) (Op.load 3 (Operand.tmp 10)) 3 (v := ?v3a4) rfl ?h3a4 hH ?_
 case h3a4 => intro _ _; go_simp; try with_reducible rfl
 try simp only [ps]
 refine zk 9 4 [] (some 12) (Op.fieldAddr 173 (Operand.tmp 4) 2) 0 (v := ?v4a5) rfl ?h4a5 hH ?_
 case h4a5 => intro _ _; go_simp; try with_reducible rfl
 try simp only [ps]
 refine zk 9 5 [] (some 13) (Op.load 3 (Operand.tmp 12)) 3 (v := ?v5a6) rfl ?h5a6 hH ?_
 case h5a6 => intro _ _; go_simp; try with_reducible rfl
 try simp only [ps]
 refine zk 9 6 [] (some 14) (Op.binOp BinOp.add 3 (Operand.tmp 11) (Operand.tmp 13) 3) 3 (v := ?v6a7) rfl ?h6a7 hH ?_
 case h6a7 => intro _ _; go_simp; try with_reducible rfl
 try simp only [ps]
 refine zk 9 7 [8] (some 15) (Op.nilCheck (Operand.tmp 8)) 0 (v := ?v7a8) rfl ?h7a8 hH ?_
 case h7a8 => intro _ _; go_simp; try with_reducible rfl
 try simp only [ps]
 refine zk 9 8 [] (some 16) (Op.fieldAddr 99 (Operand.tmp 15) 2) 0 (v := ?v8a9) rfl ?h8a9 hH ?_
 case h8a9 => intro _ _; go_simp; try with_reducible rfl
 try simp only [ps]
 refine anyZ_ready (rs := [9]) (by kernel_rfl) (by simp) ?_
 refine AllZ.last (o := { dst := none, op := Op.store 3 (Operand.tmp 16) (Operand.tmp 14), type := 0, pos := "parse.go:139", after := #[{ on := 8, ground := Ground.data }, { on := 6, ground := Ground.data }, { on := 0, ground := Ground.phase }, { on := 1, ground := Ground.phase }, { on := 2, ground := Ground.phase }, { on := 3, ground := Ground.phase }, { on := 4, ground := Ground.phase }, { on := 5, ground := Ground.phase }, { on := 6, ground := Ground.phase }], guard := none }) rfl (Or.inl rfl) (fun K hKq => ?_) AllZ.nil
 have fq2 := bl_frozen (R0.out.kp KQ).b 2
 have cq2 := (R0.out.kp KQ).cells.2.2.1
 go_simp
 refine hKq.out _ _ ?_
 clear fq2 cq2
 clear hKq K
 try simp only [ps]
 refine anyZ_done (by kernel_rfl) ?_ _
 refine NoPanic.normal ?_
 go_upto_region 2 with fail
 refine opq (fun W1 => Rd W1 P s ere (i + z) n g d ∧ W1.heap[(w.heap.size + 1)]? = some (rxo k mn mx m t (.slice ad l c)) ∧ W1.heap[(w.heap.size + 2)]? = some rzo ∧ Ks P w W1) ⟨by exact (R0.out.kp KQ).at (i + z), by exact bl_set (bl_kp A0.out KQ) (by omega) _, by exact bl_set (bl_kp B0.out KQ) (by omega) _, by exact (ks0.out.kpt KQ hP).set 2 _⟩ ?_
 rintro W1 ⟨xR1, xA1, xB1, xK1⟩
 have R1 := hidT xR1
 have A1 := hidT xA1
 have B1 := hidT xB1
 have K1 := hidT xK1
 clear xR1 xA1 xB1 xK1
 clear hH KQ Q0 MK R0 G0 A0 B0 ks0 fp2
 obtain ⟨a0, a1, a2, a3, a4, a5, a6, a7, a8⟩ := cells9 (A1.out)
 go_wp2_with fail
 refine (node_any k mn mx m t ad l c s ere (i + z) n g d P _ R1.out hn).mono ?_
 rintro e w2 ⟨rfl, r2, k2⟩
 have hs1 := K1.out.size
 have R2 : Hid (Rd w2 P s ere (i + z) (n + 1) g d) := r2
 have B2 : Hid (w2.heap[w.heap.size + 2]? = some rzo) := bl_ks B1.out (by omega) k2
 have K2 : Hid (Ks P w w2) := K1.out.trans k2
 clear r2 k2 K1 R1 A1 B1
 clear a0 a1 a2 a3 a4 a5 a6 a7 a8
 obtain ⟨b0, fb0, b1, fb1, b2, fb2, b3, fb3, b4, fb4, b5, fb5, b6, fb6, b7, fb7, b8, fb8⟩ := cellf9 (B2.out)
 go_wp2_with fail
 refine bodyPost_ret (v := .tuple #[.agg _, _]) (rx_ret2 rfl _ _ _ _ _ rfl rfl (bl_set9 B2.out _ _ _ _ _ _ _ _ _) rfl) rfl ⟨rfl, ?_, ?_⟩
 ·
  exact R2.out.ks (ks_set9 _ _ _ _ _ _ _ _ _) (by omega) (by omega)
 ·
  exact K2.out.off (ks_set9 _ _ _ _ _ _ _ _ _) (by omega) hP

end Go.Proofs.YtigdmebijbaofaaGreatDoor

/-! ### Shelf -/

namespace Go.Proofs
open Go.Shelf Go.RowKit
def Tryz.lays156_ren : Go.Shelf.Ren := ⟨fun | 156 => 116 | 165 => 159 | 166 => 84 | 169 => 86 | 240 => 123 | 241 => 193 | 276 => 166 | 277 => 222 | n => n, fun | 31 => 87 | 9 => 9 | 3 => 3 | 4 => 4 | 0 => 0 | 20 => 20 | 72 => 128 | 76 => 131 | 70 => 126 | 37 => 59 | 75 => 130 | 127 => 165 | 164 => 200 | 5 => 5 | 80 => 134 | n => n, fun | n => n⟩
theorem Tryz.lays156 : Go.Proofs.Lays.n156 Tryz.prog Tryz.lays156_ren := {
 mixed := by kernel_rfl
 f156 := Tryz.func116.trans (congrArg some (by kernel_rfl))
 f165 := Tryz.func159.trans (congrArg some (by kernel_rfl))
 f166 := Tryz.func84.trans (congrArg some (by kernel_rfl))
 f169 := Tryz.func86.trans (congrArg some (by kernel_rfl))
 f240 := Tryz.func123.trans (congrArg some (by kernel_rfl))
 f241 := Tryz.func193.trans (congrArg some (by kernel_rfl))
 f276 := Tryz.func166.trans (congrArg some (by kernel_rfl))
 f277 := Tryz.func222.trans (congrArg some (by kernel_rfl))
 t0 := Tryz.underlying0
 a0 := Tryz.isAgg0
 z0 := Tryz.sizeOf0
 v0 := Tryz.zeroValue0
 t3 := Tryz.underlying3
 a3 := Tryz.isAgg3
 z3 := Tryz.sizeOf3
 v3 := Tryz.zeroValue3
 t4 := Tryz.underlying4
 a4 := Tryz.isAgg4
 z4 := Tryz.sizeOf4
 v4 := Tryz.zeroValue4
 t9 := Tryz.underlying9
 a9 := Tryz.isAgg9
 z9 := Tryz.sizeOf9
 v9 := Tryz.zeroValue9
 t20 := Tryz.underlying20
 a20 := Tryz.isAgg20
 z20 := Tryz.sizeOf20
 v20 := Tryz.zeroValue20
 t31 := Tryz.underlying87
 a31 := Tryz.isAgg87
 z31 := Tryz.sizeOf87
 v31 := Tryz.zeroValue87
 t37 := Tryz.underlying59
 a37 := Tryz.isAgg59
 z37 := Tryz.sizeOf59
 v37 := Tryz.zeroValue59
 t70 := Tryz.underlying126
 a70 := Tryz.isAgg126
 z70 := Tryz.sizeOf126
 v70 := Tryz.zeroValue126
 t72 := Tryz.underlying128
 a72 := Tryz.isAgg128
 z72 := Tryz.sizeOf128
 v72 := Tryz.zeroValue128
 t75 := Tryz.underlying130
 a75 := Tryz.isAgg130
 z75 := Tryz.sizeOf130
 v75 := Tryz.zeroValue130
 t76 := Tryz.underlying131
 a76 := Tryz.isAgg131
 z76 := Tryz.sizeOf131
 v76 := Tryz.zeroValue131
 t127 := Tryz.underlying165
 a127 := Tryz.isAgg165
 z127 := Tryz.sizeOf165
 v127 := Tryz.zeroValue165
 t164 := Tryz.underlying200
 a164 := Tryz.isAgg200
 z164 := Tryz.sizeOf200
 v164 := Tryz.zeroValue200 }
theorem Tryz.Builder_Extra_156 : Builder.Extra Tryz.prog Tryz.lays156_ren := {
 sizeBuilder := by kernel_rfl
 liesBuilder := by kernel_rfl
 t5 := Tryz.underlying5
 a5 := Tryz.isAgg5
 z5 := Tryz.sizeOf5
 v5 := Tryz.zeroValue5
 infoByte := by kernel_rfl
 cellsByte := by kernel_rfl
 sizeByte := by kernel_rfl
 neB5 := by decide }
theorem Tryz.strings_Join_none (a : Option Addr) (c : Nat) (sep : ByteArray) (w : World) :
  Calls Tryz.prog 116 #[.slice a 0 c, .string sep] w fun e w' => e = .returned (.string ⟨#[]⟩) ∧ w' = w := Any.strings_Join_none Tryz.lays156 Tryz.Builder_Extra_156 a c sep w
theorem Tryz.strings_Join (bk o c : Nat) (xs : List ByteArray) (sep : ByteArray) (w : World) (hcells : ∀ (j : Nat) x, xs[j]? = some x → w.cell? ⟨bk, o + j, none⟩ = some (.string x)) (hbk : bk < w.heap.size) (hN : xs.length ≤ 140737488355328) (hcap : xs.length ≤ c) (hlen : (Lib.join (xs.map (·.data.toList)) sep.data.toList).length ≤ 140737488355328) :
  Calls Tryz.prog 116 #[.slice (some ⟨bk, o, none⟩) xs.length c, .string sep] w fun e w' => e = .returned (.string ⟨(Lib.join (xs.map (·.data.toList)) sep.data.toList).toArray⟩) ∧ Below w.heap.size w w' := Any.strings_Join Tryz.lays156 Tryz.Builder_Extra_156 bk o c xs sep w hcells hbk hN hcap hlen
def Tryz.lays171_ren : Go.Shelf.Ren := ⟨fun | 171 => 76 | 243 => 111 | 246 => 147 | 283 => 179 | 284 => 180 | 285 => 181 | 286 => 182 | 129 => 213 | 317 => 212 | 318 => 214 | 319 => 215 | 320 => 216 | 337 => 238 | 338 => 239 | n => n, fun | 3 => 3 | 9 => 9 | 2 => 2 | 4 => 4 | 171 => 209 | 0 => 0 | 53 => 22 | 37 => 59 | 5 => 5 | 173 => 212 | 212 => 231 | 51 => 232 | 20 => 20 | 213 => 233 | 46 => 234 | 232 => 262 | 233 => 263 | n => n, fun | 17 => 0 | 18 => 2 | 19 => 3 | n => n⟩
theorem Tryz.lays171 : Go.Proofs.Lays.n171 Tryz.prog Tryz.lays171_ren := {
 mixed := by kernel_rfl
 f129 := Tryz.func213.trans (congrArg some (by kernel_rfl))
 f171 := Tryz.func76.trans (congrArg some (by kernel_rfl))
 f243 := Tryz.func111.trans (congrArg some (by kernel_rfl))
 f246 := Tryz.func147.trans (congrArg some (by kernel_rfl))
 f283 := Tryz.func179.trans (congrArg some (by kernel_rfl))
 f284 := Tryz.func180.trans (congrArg some (by kernel_rfl))
 f285 := Tryz.func181.trans (congrArg some (by kernel_rfl))
 f286 := Tryz.func182.trans (congrArg some (by kernel_rfl))
 f317 := Tryz.func212.trans (congrArg some (by kernel_rfl))
 f318 := Tryz.func214.trans (congrArg some (by kernel_rfl))
 f319 := Tryz.func215.trans (congrArg some (by kernel_rfl))
 f320 := Tryz.func216.trans (congrArg some (by kernel_rfl))
 f337 := Tryz.func238.trans (congrArg some (by kernel_rfl))
 f338 := Tryz.func239.trans (congrArg some (by kernel_rfl))
 t0 := Tryz.underlying0
 a0 := Tryz.isAgg0
 z0 := Tryz.sizeOf0
 v0 := Tryz.zeroValue0
 t2 := Tryz.underlying2
 a2 := Tryz.isAgg2
 z2 := Tryz.sizeOf2
 v2 := Tryz.zeroValue2
 t3 := Tryz.underlying3
 a3 := Tryz.isAgg3
 z3 := Tryz.sizeOf3
 v3 := Tryz.zeroValue3
 t4 := Tryz.underlying4
 a4 := Tryz.isAgg4
 z4 := Tryz.sizeOf4
 v4 := Tryz.zeroValue4
 t5 := Tryz.underlying5
 a5 := Tryz.isAgg5
 z5 := Tryz.sizeOf5
 v5 := Tryz.zeroValue5
 t9 := Tryz.underlying9
 a9 := Tryz.isAgg9
 z9 := Tryz.sizeOf9
 v9 := Tryz.zeroValue9
 t20 := Tryz.underlying20
 a20 := Tryz.isAgg20
 z20 := Tryz.sizeOf20
 v20 := Tryz.zeroValue20
 t37 := Tryz.underlying59
 a37 := Tryz.isAgg59
 z37 := Tryz.sizeOf59
 v37 := Tryz.zeroValue59
 t46 := Tryz.underlying234
 a46 := Tryz.isAgg234
 z46 := Tryz.sizeOf234
 v46 := Tryz.zeroValue234
 t51 := Tryz.underlying232
 a51 := Tryz.isAgg232
 z51 := Tryz.sizeOf232
 v51 := Tryz.zeroValue232
 t53 := Tryz.underlying22
 a53 := Tryz.isAgg22
 z53 := Tryz.sizeOf22
 v53 := Tryz.zeroValue22
 t171 := Tryz.underlying209
 a171 := Tryz.isAgg209
 z171 := Tryz.sizeOf209
 v171 := Tryz.zeroValue209
 t173 := Tryz.underlying212
 a173 := Tryz.isAgg212
 z173 := Tryz.sizeOf212
 v173 := Tryz.zeroValue212
 t212 := Tryz.underlying231
 a212 := Tryz.isAgg231
 z212 := Tryz.sizeOf231
 v212 := Tryz.zeroValue231
 t213 := Tryz.underlying233
 a213 := Tryz.isAgg233
 z213 := Tryz.sizeOf233
 t232 := Tryz.underlying262
 a232 := Tryz.isAgg262
 z232 := Tryz.sizeOf262
 v232 := Tryz.zeroValue262
 t233 := Tryz.underlying263
 a233 := Tryz.isAgg263
 z233 := Tryz.sizeOf263
 v233 := Tryz.zeroValue263
 g17 := by kernel_rfl
 g18 := by kernel_rfl
 g19 := by kernel_rfl }
theorem Tryz.strconv_Itoa_small (i : Nat) (hi : i < 100) (w : World) :
  Calls Tryz.prog 76 #[.int .i64 i] w fun e w' => e = .returned (.string ⟨(Lib.decDigits i).toArray⟩) ∧ w' = w := Any.strconv_Itoa_small Tryz.lays171 i hi w
def Tryz.lays145_ren : Go.Shelf.Ren := ⟨fun | 145 => 264 | 220 => 267 | 219 => 273 | 217 => 178 | 225 => 274 | 224 => 275 | 267 => 276 | 266 => 211 | 314 => 277 | n => n, fun | 9 => 9 | 4 => 4 | 59 => 272 | 3 => 3 | 5 => 5 | 46 => 234 | 146 => 279 | 51 => 232 | n => n, fun | 1 => 1 | n => n⟩
theorem Tryz.lays145 : Go.Proofs.Lays.n145 Tryz.prog Tryz.lays145_ren := {
 mixed := by kernel_rfl
 f145 := Tryz.func264.trans (congrArg some (by kernel_rfl))
 f217 := Tryz.func178.trans (congrArg some (by kernel_rfl))
 f219 := Tryz.func273.trans (congrArg some (by kernel_rfl))
 f220 := Tryz.func267.trans (congrArg some (by kernel_rfl))
 f224 := Tryz.func275.trans (congrArg some (by kernel_rfl))
 f225 := Tryz.func274.trans (congrArg some (by kernel_rfl))
 f266 := Tryz.func211.trans (congrArg some (by kernel_rfl))
 f267 := Tryz.func276.trans (congrArg some (by kernel_rfl))
 f314 := Tryz.func277.trans (congrArg some (by kernel_rfl))
 t3 := Tryz.underlying3
 a3 := Tryz.isAgg3
 z3 := Tryz.sizeOf3
 v3 := Tryz.zeroValue3
 t4 := Tryz.underlying4
 a4 := Tryz.isAgg4
 z4 := Tryz.sizeOf4
 v4 := Tryz.zeroValue4
 t5 := Tryz.underlying5
 a5 := Tryz.isAgg5
 z5 := Tryz.sizeOf5
 v5 := Tryz.zeroValue5
 t9 := Tryz.underlying9
 a9 := Tryz.isAgg9
 z9 := Tryz.sizeOf9
 v9 := Tryz.zeroValue9
 t46 := Tryz.underlying234
 a46 := Tryz.isAgg234
 z46 := Tryz.sizeOf234
 v46 := Tryz.zeroValue234
 t51 := Tryz.underlying232
 a51 := Tryz.isAgg232
 z51 := Tryz.sizeOf232
 v51 := Tryz.zeroValue232
 t59 := Tryz.underlying272
 a59 := Tryz.isAgg272
 z59 := Tryz.sizeOf272
 v59 := Tryz.zeroValue272
 t146 := Tryz.underlying279
 a146 := Tryz.isAgg279
 z146 := Tryz.sizeOf279
 v146 := Tryz.zeroValue279
 g1 := by kernel_rfl }
theorem Tryz.strings_Cut (s sep : ByteArray) (m : Int) (w : World) (hs : s.size < 4294967281) (hm : w.cell? ⟨1, 0, none⟩ = some (.int .i64 m)) :
  Calls Tryz.prog 264 #[.string s, .string sep] w fun e w' => e = .returned (.tuple #[.string ⟨(Lib.cut s.data.toList sep.data.toList).1.toArray⟩, .string ⟨(Lib.cut s.data.toList sep.data.toList).2.1.toArray⟩, .bool (Lib.cut s.data.toList sep.data.toList).2.2]) ∧ ∃ n, w' = w.drewN n := Any.strings_Cut Tryz.lays145 s sep m w hs hm
def Tryz.lays99_ren : Go.Shelf.Ren := ⟨fun | 99 => 256 | 206 => 263 | n => n, fun | 9 => 9 | 4 => 4 | 3 => 3 | n => n, fun | n => n⟩
theorem Tryz.lays99 : Go.Proofs.Lays.n99 Tryz.prog Tryz.lays99_ren := {
 mixed := by kernel_rfl
 f99 := Tryz.func256.trans (congrArg some (by kernel_rfl))
 f206 := Tryz.func263.trans (congrArg some (by kernel_rfl))
 t3 := Tryz.underlying3
 a3 := Tryz.isAgg3
 z3 := Tryz.sizeOf3
 v3 := Tryz.zeroValue3
 t4 := Tryz.underlying4
 a4 := Tryz.isAgg4
 z4 := Tryz.sizeOf4
 v4 := Tryz.zeroValue4
 t9 := Tryz.underlying9
 a9 := Tryz.isAgg9
 z9 := Tryz.sizeOf9
 v9 := Tryz.zeroValue9 }
theorem Tryz.strings_HasPrefix (s p : ByteArray) (w : World) :
  Calls Tryz.prog 256 #[.string s, .string p] w fun e w' => e = .returned (.bool (Lib.hasPrefix s.data.toList p.data.toList)) ∧ w' = w := Any.strings_HasPrefix Tryz.lays99 s p w
end Go.Proofs
