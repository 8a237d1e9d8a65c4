/-
  Texts of this claim: Wp, MapW, Wm, Used, InRow.
-/
import Derived.Test.YtnajcnhgeggngaaGreatM11
import Derived.Test.YtnajcnhgeggngaaGreatM10

/-! ### Wp -/

namespace Go.Proofs.YtnajcnhgeggngaaGreat.Way
open Go Go.Proofs.YtnajcnhgeggngaaGreat

inductive Pt where
 | mk (k low high n : Int) (set : W4) (P : Nat) (kn so : Option Nat) (rd st hd : Nat) (kids : List Pt)
def Pt.k : Pt → Int | .mk k _ _ _ _ _ _ _ _ _ _ _ => k
def Pt.P : Pt → Nat | .mk _ _ _ _ _ P _ _ _ _ _ _ => P
def Pt.rd : Pt → Nat | .mk _ _ _ _ _ _ _ _ r _ _ _ => r
def Pt.st : Pt → Nat | .mk _ _ _ _ _ _ _ _ _ s _ _ => s
def Pt.hd : Pt → Nat | .mk _ _ _ _ _ _ _ _ _ _ h _ => h
def Pt.kids : Pt → List Pt | .mk _ _ _ _ _ _ _ _ _ _ _ ks => ks
def leafK (k : Int) : Bool := !(k == 2 || k == 3 || k == 5 || k == 4)
def Sp.span (n : Int) (x : Sp) : Int × Int := if n = 1 then (x.f0, x.t0) else if n = 2 then (x.f1, x.t1) else (x.f2, x.t2)
def Sp.put (n f t : Int) (x : Sp) : Sp := if n = 1 then ⟨x.a, f, t, x.f1, x.t1, x.f2, x.t2⟩ else if n = 2 then ⟨x.a, x.f0, x.t0, f, t, x.f2, x.t2⟩ else ⟨x.a, x.f0, x.t0, x.f1, x.t1, f, t⟩
def stepP (L : List UInt8) (bol : Bool) (k n : Int) (set : W4) (x : Sp) : Option Int :=
 if k = 1 then (match L[x.a.toNat]? with | some c => if W4.bit set c.toNat then some 1 else none | none => none)
 else if k = 7 then (if x.a = 0 ∧ bol = true then some 0 else none)
 else if k = 8 then (if x.a.toNat = L.length then some 0 else none)
 else if (x.span n).1 < 0 then none
 else if ((L.drop (x.span n).1.toNat).take ((x.span n).2 - (x.span n).1).toNat).isPrefixOf (L.drop x.a.toNat) then some ((x.span n).2 - (x.span n).1) else none
def leafP (L : List UInt8) (bol : Bool) (k n : Int) (set : W4) (x : Sp) : List Sp :=
 match stepP L bol k n set x with
 | some m => [x.moved m]
 | none => []
def addL (h : Nat) (l : List Sp) (x : Sp) : List Sp := if l.any (fun y => y.only h == x.only h) then l else l ++ [x]
def walkF (W : Sp → List Sp) (rd h : Nat) (acc : List Sp) (y : Sp) : List Sp := (W (y.only rd)).foldl (fun a z => addL h a (z.behind y)) acc
structure Turn where
 n : Int
 lv : Nat
 x : Sp
deriving DecidableEq
def cls (hd : Nat) (y : Sp) : Nat := y.lacks &&& hd
def begS (rdp : Nat) (all : List Sp) (hd : Nat) (n : Int) (x : Sp) (st : List Nat × List Turn) (i : Nat) : List Nat × List Turn :=
 if all.any (fun y => cls hd y == i) then (if st.2.contains ⟨n, i, x.only (i ||| rdp)⟩ then st else (st.1 ++ [i], st.2 ++ [⟨n, i, x.only (i ||| rdp)⟩])) else st
def newCls (rdp : Nat) (all : List Sp) (hd : Nat) (n : Int) (x : Sp) (bg : List Turn) : List Nat × List Turn := (List.range 8).foldl (begS rdp all hd n x) ([], bg)
def nextP (leaf : Bool) (W : Sp → List Sp) (krd khd rdp : Nat) (low high : Int) (n : Int) (x : Sp) (bg : List Turn) : List Sp × List Turn :=
 if n = high then ([], bg)
 else if leaf then (W x, bg)
 else (((W (x.only krd)).filter (fun y => (newCls rdp (W (x.only krd)) khd (if high < 0 then min n low else n) x bg).1.contains (cls khd y))).map (fun y => y.behind x), (newCls rdp (W (x.only krd)) khd (if high < 0 then min n low else n) x bg).2)
def behindP (NX : Int → Sp → List Turn → List Sp × List Turn) (low : Int) (h : Nat) : Nat → Int → Sp → List Turn × List Sp → List Turn × List Sp
 | 0, _, _, st => st
 | f + 1, n, x, st =>
  let r := NX n x st.1
  let s := r.1.foldl (fun s y => if n < low ∨ ¬ y.a = x.a then behindP NX low h f (n + 1) y s else s) (r.2, st.2)
  if n < low then s else (s.1, addL h s.2 x)
def repP (leaf : Bool) (W : Sp → List Sp) (krd khd rdp : Nat) (low high : Int) (h : Nat) (x : Sp) : List Sp :=
 (behindP (nextP leaf W krd khd rdp low high) low h 90 0 x ([], [])).2
def fstK : List Pt → Int | [] => 0 | p :: _ => p.k
def fstR : List Pt → Nat | [] => 0 | p :: _ => p.rd
def fstH : List Pt → Nat | [] => 0 | p :: _ => p.hd
mutual
def ways (L : List UInt8) (bol : Bool) : Pt → Sp → List Sp
 | .mk k low high n set _ _ _ rd _ hd kids, x =>
  if k = 2 then catW L bol kids [x]
  else if k = 3 then altW L bol hd kids x []
  else if k = 5 then (fstW L bol kids x).map (fun y => y.put n x.a y.a)
  else if k = 4 then repP (leafK (fstK kids)) (fstW L bol kids) (fstR kids) (fstH kids) rd low high hd x
  else leafP L bol k n set x
def fstW (L : List UInt8) (bol : Bool) : List Pt → Sp → List Sp
 | [], _ => []
 | p :: _, x => ways L bol p x
def catW (L : List UInt8) (bol : Bool) : List Pt → List Sp → List Sp
 | [], l => l
 | p :: ps, l => catW L bol ps (l.foldl (walkF (ways L bol p) p.rd p.hd) [])
def altW (L : List UInt8) (bol : Bool) (h : Nat) : List Pt → Sp → List Sp → List Sp
 | [], _, acc => acc
 | p :: ps, x, acc => altW L bol h ps x (walkF (ways L bol p) p.rd h acc x)
end
def inRowF (u : Nat × Nat) (p : Pt) : Nat × Nat := (u.1 ||| (p.rd &&& (7 - u.2)), u.2 ||| p.st)
def inAltF (u : Nat × Nat) (p : Pt) : Nat × Nat := (u.1 ||| p.rd, u.2 &&& p.st)
def grpB (n : Int) : Nat := if n = 1 then 1 else if n = 2 then 2 else 4
def usedP (k low n : Int) (kids : List Pt) : Nat × Nat :=
 if k = 6 then (grpB n, 0)
 else if k = 5 then (match kids with | [] => (0, 0) | p :: _ => (p.rd, p.st ||| grpB n))
 else if k = 2 then kids.foldl inRowF (0, 0)
 else if k = 3 then kids.foldl inAltF (0, 7)
 else if k = 4 then (match kids with | [] => (0, 0) | p :: _ => (p.rd, if low = 0 then 0 else p.st))
 else (0, 0)
def heedG (g : Nat) (p : Pt) : Nat := (g &&& (7 - p.st)) ||| p.rd
mutual
def heed : Nat → Pt → Pt
 | g, .mk k low high n set P kn so rd st _ kids =>
  .mk k low high n set P kn so rd st g (if k = 2 then (heedR g kids).1 else if k = 3 then heedA g kids else if k = 5 then heedA (g &&& (7 - grpB n)) kids else if k = 4 then heedA (g ||| rd) kids else kids)
def heedR : Nat → List Pt → List Pt × Nat
 | g, [] => ([], g)
 | g, p :: ps => (heed (heedR g ps).2 p :: (heedR g ps).1, heedG (heedR g ps).2 p)
def heedA : Nat → List Pt → List Pt
 | _, [] => []
 | g, p :: ps => heed g p :: heedA g ps
end
end Go.Proofs.YtnajcnhgeggngaaGreat.Way

/-! ### MapW -/

namespace Go.Proofs.YtnajcnhgeggngaaGreat.Way
open Go.RowKit Go.Proofs.YtnajcnhgeggngaaGreat Go.Maps Go.WideElems Go.ChangeMaps Go.MapKept

theorem nodup_lt : ∀ (N : Nat) (l : List Nat), l.Nodup → (∀ a ∈ l, a < N) → l.length ≤ N
 | 0, [], _, _ => Nat.le_refl _
 | 0, a :: l, _, h => absurd (h a List.mem_cons_self) (by omega)
 | N + 1, l, hd, h => by
  by_cases hm : N ∈ l
  ·
   have h1 := nodup_lt N (l.erase N) (hd.erase N) (fun a ha => by
    have h2 := (hd.mem_erase_iff).1 ha
    have := h a h2.2
    omega)
   have h3 := List.length_erase_of_mem hm
   omega
  ·
   have h1 := nodup_lt N l hd (fun a ha => by
    have := h a ha
    have : a ≠ N := fun e => hm (e ▸ ha)
    omega)
   omega
theorem pairwise_map_inj {α : Type} (f : α → Nat) (l : List α) (h : l.Pairwise (fun a b => f a ≠ f b)) : (l.map f).Nodup := by
 unfold List.Nodup
 rw [List.pairwise_map]
 exact h
def Sp.code (x : Sp) : Nat := (x.a + 1).toNat + 64 * ((x.f0 + 1).toNat + 64 * ((x.t0 + 1).toNat + 64 * ((x.f1 + 1).toNat + 64 * ((x.t1 + 1).toNat + 64 * ((x.f2 + 1).toNat + 64 * (x.t2 + 1).toNat)))))
theorem Sp.Ok.rng {x : Sp} (h : x.Ok) : (-1 ≤ x.a ∧ x.a ≤ 60) ∧ (-1 ≤ x.f0 ∧ x.f0 ≤ 60) ∧ (-1 ≤ x.t0 ∧ x.t0 ≤ 60) ∧ (-1 ≤ x.f1 ∧ x.f1 ≤ 60) ∧ (-1 ≤ x.t1 ∧ x.t1 ≤ 60) ∧ (-1 ≤ x.f2 ∧ x.f2 ≤ 60) ∧ (-1 ≤ x.t2 ∧ x.t2 ≤ 60) := by
 have h0 := h.a0
 have h1 := h.a1
 have s0 := h.s0
 have s1 := h.s1
 have s2 := h.s2
 unfold Spn at s0 s1 s2
 omega
theorem Sp.code_lt {x : Sp} (h : x.Ok) : x.code < 4398046511104 := by
 have := h.rng
 unfold Sp.code
 omega
theorem dig {n m n' m' : Nat} (h : n + 64 * m = n' + 64 * m') (a : n < 64) (b : n' < 64) : n = n' ∧ m = m' := by omega
theorem comp {a b : Int} (h : (a + 1).toNat = (b + 1).toNat) (ha : -1 ≤ a) (hb : -1 ≤ b) : a = b := by omega
theorem lt64 {a : Int} (h : -1 ≤ a ∧ a ≤ 60) : (a + 1).toNat < 64 := by omega
theorem Sp.code_inj {x y : Sp} (h : x.Ok) (k : y.Ok) (e : x.code = y.code) : x = y := by
 obtain ⟨h0, h1, h2, h3, h4, h5, h6⟩ := h.rng
 obtain ⟨k0, k1, k2, k3, k4, k5, k6⟩ := k.rng
 clear h k
 unfold Sp.code at e
 obtain ⟨e0, e⟩ := dig e (lt64 h0) (lt64 k0)
 obtain ⟨e1, e⟩ := dig e (lt64 h1) (lt64 k1)
 obtain ⟨e2, e⟩ := dig e (lt64 h2) (lt64 k2)
 obtain ⟨e3, e⟩ := dig e (lt64 h3) (lt64 k3)
 obtain ⟨e4, e⟩ := dig e (lt64 h4) (lt64 k4)
 obtain ⟨e5, e6⟩ := dig e (lt64 h5) (lt64 k5)
 have g0 := comp e0 h0.1 k0.1
 have g1 := comp e1 h1.1 k1.1
 have g2 := comp e2 h2.1 k2.1
 have g3 := comp e3 h3.1 k3.1
 have g4 := comp e4 h4.1 k4.1
 have g5 := comp e5 h5.1 k5.1
 have g6 := comp e6 h6.1 k6.1
 cases x
 cases y
 simp only at g0 g1 g2 g3 g4 g5 g6
 subst g0 g1 g2 g3 g4 g5 g6
 rfl
theorem few_entries {es : Array MapEntry} {clock : Nat} (hs : Stamped es clock) (h : ∀ e ∈ es.toList, ∃ x : Sp, x.Ok ∧ e.key = spv x) : es.size ≤ 4398046511104 := by
 have hp := ((stamped_iff es clock).1 hs).2.2
 let dec : MapEntry → Nat := fun e => match e.key with
  | .agg ⟨[.int _ a, .int _ b, .int _ c, .int _ d, .int _ f, .int _ g, .int _ i]⟩ => Sp.code ⟨a, b, c, d, f, g, i⟩
  | _ => 0
 have hdec : ∀ e x, e.key = spv x → dec e = x.code := fun e x he => by
  show (match e.key with
  | .agg ⟨[.int _ a, .int _ b, .int _ c, .int _ d, .int _ f, .int _ g, .int _ i]⟩ => Sp.code ⟨a, b, c, d, f, g, i⟩
  | _ => 0) = _
  rw [he]
 have h1 : (es.toList.map dec).Nodup := by
  refine pairwise_map_inj dec _ (hp.imp_of_mem (fun {a b} ha hb hne he => ?_))
  obtain ⟨x, hx, kx⟩ := h a ha
  obtain ⟨y, hy, ky⟩ := h b hb
  rw [hdec a x kx, hdec b y ky] at he
  exact hne (by rw [kx, ky, Sp.code_inj hx hy he])
 have h2 := nodup_lt 4398046511104 (es.toList.map dec) h1 (fun a ha => by
  obtain ⟨e, he, rfl⟩ := List.mem_map.1 ha
  obtain ⟨x, hx, kx⟩ := h e he
  rw [hdec e x kx]
  exact Sp.code_lt hx)
 simpa using h2
def RV (v : Value) : Option (DataW Value × List MemPlace) := some (.held v, [])
structure MapAt (w : World) (b : Nat) (G : Sp → Value → Prop) : Prop where
 ex : ∃ es clock, w.heap[b]? = some (.map es clock) ∧ Stamped es clock ∧ ∀ e ∈ es.toList, ∃ x : Sp, x.Ok ∧ e.key = spv x ∧ G x e.val
theorem MapAt.lt {w : World} {b : Nat} {G : Sp → Value → Prop} (h : MapAt w b G) : b < w.heap.size := by
 obtain ⟨es, clock, hb, _⟩ := h.ex
 exact bl_lt hb
theorem MapAt.imp {w w' : World} {b : Nat} {G G' : Sp → Value → Prop} (h : MapAt w b G) (hb : w'.heap[b]? = w.heap[b]?) (hg : ∀ x v, G x v → G' x v) : MapAt w' b G' := by
 obtain ⟨es, clock, h1, h2, h3⟩ := h.ex
 exact ⟨es, clock, hb.trans h1, h2, fun e he => by
  obtain ⟨x, a1, a2, a3⟩ := h3 e he
  exact ⟨x, a1, a2, hg _ _ a3⟩⟩
theorem fit_of {es : Array MapEntry} {clock : Nat} (hs : Stamped es clock) (h : ∀ e ∈ es.toList, ∃ x : Sp, x.Ok ∧ e.key = spv x) : Fit (H := Value) Tryz.prog 83 RV es clock ∧ es.size < maxLen := by
 have := few_entries hs h
 refine ⟨⟨by unfold maxLen; omega, hs, fun e he => ?_⟩, by unfold maxLen; omega⟩
 obtain ⟨x, hx, kx⟩ := h e he
 obtain ⟨kl, hk⟩ := key_sp x hx
 exact ⟨(kl, .held e.val), by unfold WideElems.rd; rw [kx, hk]; rfl⟩
theorem spv_inj {x y : Sp} (h : spv x = spv y) : x = y := by
 obtain ⟨a, b, c, d, f, g, i⟩ := x
 obtain ⟨a', b', c', d', f', g', i'⟩ := y
 simp [spv] at h
 obtain ⟨rfl, rfl, rfl, rfl, rfl, rfl, rfl⟩ := h
 rfl
theorem MapAt.look {w : World} {b : Nat} {G : Sp → Value → Prop} (h : MapAt w b G) {t e : TypeId} (ht : Tryz.prog.underlying t = some (.map 83 e)) {z : Value} (hz : (zeroValue e).run Tryz.prog w = .ok z w) (x : Sp) (hx : x.Ok) :
  (Instr.lookup t (.map (some b)) (spv x) true).run Tryz.prog w = .ok (.tuple #[z, .bool false]) w ∨ ∃ v, (Instr.lookup t (.map (some b)) (spv x) true).run Tryz.prog w = .ok (.tuple #[v, .bool true]) w ∧ G x v := by
 obtain ⟨es, clock, h1, h2, h3⟩ := h.ex
 obtain ⟨F, _⟩ := fit_of h2 (fun e he => by obtain ⟨x, a1, a2, _⟩ := h3 e he; exact ⟨x, a1, a2⟩)
 obtain ⟨kl, hk⟩ := key_sp x hx
 rcases fit_look true keyed83 ht hz h1 F hk with ⟨g1, _, _⟩ | ⟨e0, y, g1, g2, g3, _⟩
 ·
  exact Or.inl g1
 ·
  refine Or.inr ⟨e0.val, g3, ?_⟩
  obtain ⟨x', _, a2, a3⟩ := h3 e0 g1
  obtain rfl := spv_inj (g2.symm.trans a2)
  exact a3
theorem MapAt.put {w : World} {b : Nat} {G : Sp → Value → Prop} (h : MapAt w b G) {t e : TypeId} (ht : Tryz.prog.underlying t = some (.map 83 e)) (x : Sp) (hx : x.Ok) (v : Value) (hv : G x v) :
  ∃ w', (Instr.mapUpdate t (.map (some b)) (spv x) v).run Tryz.prog w = .ok () w' ∧ MapAt w' b G ∧ w.grownBy w' (some b) := by
 obtain ⟨es, clock, h1, h2, h3⟩ := h.ex
 obtain ⟨F, hroom⟩ := fit_of h2 (fun e he => by obtain ⟨x, a1, a2, _⟩ := h3 e he; exact ⟨x, a1, a2⟩)
 obtain ⟨kl, hk⟩ := key_sp x hx
 obtain ⟨es', clock', hrun, F', _, _, _, hent⟩ := fit_store (R' := RV) keyed83 ht h1 F hroom (fun _ _ _ _ hz => hz) hk (val := v) (yv := (.held v, [])) rfl
 refine ⟨_, hrun, ⟨es', clock', heap_setBlock_same h1 _, F'.stamped, fun e he => ?_⟩, ⟨rfl, rfl, rfl, by simp [setBlock], fun i _ hi => heap_setBlock_other h1 _ (fun e => hi (by rw [e]))⟩⟩
 rcases hent e he with ⟨a1, _⟩ | ⟨a1, a2⟩
 ·
  exact h3 e a1
 ·
  exact ⟨x, hx, a1, a2 ▸ hv⟩
theorem MapAt.made (w : World) (G : Sp → Value → Prop) : MapAt (w.alloc (.map #[] 0)) w.heap.size G := ⟨#[], 0, last_of _ _, stamped_empty 0, fun e he => by simp at he⟩
end Go.Proofs.YtnajcnhgeggngaaGreat.Way

/-! ### Wm -/

namespace Go.Proofs.YtnajcnhgeggngaaGreat.Way
open Go.RowKit Go.Proofs.YtnajcnhgeggngaaGreat

structure Kx (S : Nat → Prop) (w w' : World) : Prop where
 lo : Below 0 w w'
 block : ∀ k, k < w.heap.size → ¬ S k → w'.heap[k]? = w.heap[k]?
theorem Kx.refl (S : Nat → Prop) (w : World) : Kx S w w := ⟨Below.refl _ _, fun _ _ _ => rfl⟩
theorem Kx.size {S : Nat → Prop} {a b : World} (h : Kx S a b) : a.heap.size ≤ b.heap.size := h.lo.size
theorem Kx.trans {S : Nat → Prop} {a b c : World} (h : Kx S a b) (g : Kx S b c) : Kx S a c := ⟨h.lo.trans g.lo, fun k hk hn => (g.block k (Nat.lt_of_lt_of_le hk h.size) hn).trans (h.block k hk hn)⟩
theorem Kx.mono {S S' : Nat → Prop} {a b : World} (h : Kx S a b) (hs : ∀ k, k < a.heap.size → S k → S' k) : Kx S' a b := ⟨h.lo, fun k hk hn => h.block k hk (fun q => hn (hs k hk q))⟩
theorem Kp.kx {S : Nat → Prop} {a b : World} (h : Kp a b) : Kx S a b := ⟨Below.mono h (Nat.zero_le _), fun k hk _ => h.block k hk⟩
theorem Kx.kp {a b : World} (h : Kx (fun _ => False) a b) : Kp a b := ⟨h.lo.os, h.lo.tape, h.lo.output, h.size, fun k hk => h.block k hk (fun q => q)⟩
theorem Kx.then {S : Nat → Prop} {a b c : World} (h : Kx S a b) (g : Kp b c) : Kx S a c := h.trans (Kp.kx g)
theorem Kx.alloc {S : Nat → Prop} {a b : World} (h : Kx S a b) (o : Obj) : Kx S a (b.alloc o) := h.then ((Kp.refl _).alloc _)
theorem Kx.drew {S : Nat → Prop} {a b : World} (h : Kx S a b) : Kx S a b.drew := h.then ((Kp.refl _).drew)
theorem Kx.set {S : Nat → Prop} {a b : World} (h : Kx S a b) {P : Nat} (hP : P < a.heap.size → S P) (j : Nat) (u : Value) : Kx S a (b.setCell ⟨P, j, none⟩ u) := by
 refine ⟨h.lo.setCell (Nat.zero_le _) u, fun k hk hn => ?_⟩
 have hne : k ≠ P := fun e => hn (e ▸ hP (e ▸ hk))
 exact (Below.heap_setCell b ⟨P, j, none⟩ u k hne).trans (h.block k hk hn)
theorem Kx.grown {S : Nat → Prop} {a b c : World} {row : Option Nat} (h : Kx S a b) (g : b.grownBy c row) (hr : ∀ k, row = some k → k < a.heap.size → S k) : Kx S a c := by
 refine ⟨⟨g.os.trans h.lo.os, g.tape.trans h.lo.tape, g.output.trans h.lo.output, Nat.le_trans h.size g.size, fun k hk => absurd hk (Nat.not_lt_zero _)⟩, fun k hk hn => ?_⟩
 exact (g.block k (Nat.lt_of_lt_of_le hk h.size) (fun e => hn (hr k e.symm hk))).trans (h.block k hk hn)
theorem bl_kx {S : Nat → Prop} {a b : World} {B : Nat} {o : Obj} (h : a.heap[B]? = some o) (hk : Kx S a b) (hn : ¬ S B) : b.heap[B]? = some o := (hk.block B (bl_lt h) hn).trans h

structure SpAt (w : World) (b o : Nat) (x : Sp) : Prop where
 c0 : w.cell? ⟨b, o, none⟩ = some (.int .i8 x.a)
 c1 : w.cell? ⟨b, o + 1, none⟩ = some (.int .i8 x.f0)
 c2 : w.cell? ⟨b, o + 2, none⟩ = some (.int .i8 x.t0)
 c3 : w.cell? ⟨b, o + 3, none⟩ = some (.int .i8 x.f1)
 c4 : w.cell? ⟨b, o + 4, none⟩ = some (.int .i8 x.t1)
 c5 : w.cell? ⟨b, o + 5, none⟩ = some (.int .i8 x.f2)
 c6 : w.cell? ⟨b, o + 6, none⟩ = some (.int .i8 x.t2)
theorem cell_same {w w' : World} {b : Nat} (h : w'.heap[b]? = w.heap[b]?) (o : Nat) : w'.cell? ⟨b, o, none⟩ = w.cell? ⟨b, o, none⟩ := by
 simp [World.cell?, h]
theorem SpAt.same {w w' : World} {b o : Nat} {x : Sp} (h : SpAt w b o x) (e : w'.heap[b]? = w.heap[b]?) : SpAt w' b o x :=
 ⟨(cell_same e _).trans h.c0, (cell_same e _).trans h.c1, (cell_same e _).trans h.c2, (cell_same e _).trans h.c3, (cell_same e _).trans h.c4, (cell_same e _).trans h.c5, (cell_same e _).trans h.c6⟩
structure SpL (w : World) (ok : Nat → Prop) (v : Value) (xs : List Sp) : Prop where
 good : ∀ x ∈ xs, x.Ok
 ex : ∃ ad c, v = .slice ad xs.length c ∧ xs.length ≤ c ∧ (0 < xs.length → ∃ b, ad = some ⟨b, 0, none⟩ ∧ ok b ∧ b < w.heap.size ∧ ∀ (j : Nat) x, xs[j]? = some x → SpAt w b (j * 7) x)
theorem SpL.keep {w w' : World} {ok ok' : Nat → Prop} {v : Value} {xs : List Sp} (h : SpL w ok v xs) (hs : w.heap.size ≤ w'.heap.size) (hk : ∀ b, ok b → b < w.heap.size → ok' b ∧ w'.heap[b]? = w.heap[b]?) : SpL w' ok' v xs := by
 obtain ⟨ad, c, h1, h2, h3⟩ := h.ex
 refine ⟨h.good, ad, c, h1, h2, fun hl => ?_⟩
 obtain ⟨b, e, hb, hlt, hc⟩ := h3 hl
 exact ⟨b, e, (hk b hb hlt).1, by omega, fun j x hj => (hc j x hj).same (hk b hb hlt).2⟩
structure NuL (w : World) (ok : Nat → Prop) (v : Value) (xs : List Nat) : Prop where
 ex : ∃ ad c, v = .slice ad xs.length c ∧ xs.length ≤ c ∧ (0 < xs.length → ∃ b, ad = some ⟨b, 0, none⟩ ∧ ok b ∧ b < w.heap.size ∧ ∀ (j : Nat) x, xs[j]? = some x → w.cell? ⟨b, j, none⟩ = some (.int .i64 (x : Int)))
theorem NuL.keep {w w' : World} {ok ok' : Nat → Prop} {v : Value} {xs : List Nat} (h : NuL w ok v xs) (hs : w.heap.size ≤ w'.heap.size) (hk : ∀ b, ok b → b < w.heap.size → ok' b ∧ w'.heap[b]? = w.heap[b]?) : NuL w' ok' v xs := by
 obtain ⟨ad, c, h1, h2, h3⟩ := h.ex
 refine ⟨ad, c, h1, h2, fun hl => ?_⟩
 obtain ⟨b, e, hb, hlt, hc⟩ := h3 hl
 exact ⟨b, e, (hk b hb hlt).1, by omega, fun j x hj => (cell_same (hk b hb hlt).2 _).trans (hc j x hj)⟩
def placesOf (hd : Nat) (all : List Sp) (i : Nat) : List Nat := (List.range all.length).filter (fun j => match all[j]? with | some y => cls hd y == i | none => false)
structure SoAt (w : World) (ok : Nat → Prop) (v : Value) (hd : Nat) (all : List Sp) : Prop where
 ex : ∃ S lv p0 p1 p2 p3 p4 p5 p6 p7, v = .pointer (some ⟨S, 0, none⟩) ∧ ok S ∧ w.heap[S]? = some (.cells #[lv, p0, p1, p2, p3, p4, p5, p6, p7] 212) ∧ SpL w ok lv all ∧
  (NuL w ok p0 (placesOf hd all 0) ∧ NuL w ok p1 (placesOf hd all 1) ∧ NuL w ok p2 (placesOf hd all 2) ∧ NuL w ok p3 (placesOf hd all 3)) ∧ NuL w ok p4 (placesOf hd all 4) ∧ NuL w ok p5 (placesOf hd all 5) ∧ NuL w ok p6 (placesOf hd all 6) ∧ NuL w ok p7 (placesOf hd all 7)
theorem SoAt.keep {w w' : World} {ok ok' : Nat → Prop} {v : Value} {hd : Nat} {all : List Sp} (h : SoAt w ok v hd all) (hs : w.heap.size ≤ w'.heap.size) (hk : ∀ b, ok b → b < w.heap.size → ok' b ∧ w'.heap[b]? = w.heap[b]?) : SoAt w' ok' v hd all := by
 obtain ⟨S, lv, p0, p1, p2, p3, p4, p5, p6, p7, h1, h2, h3, h4, ⟨a0, a1, a2, a3⟩, a4, a5, a6, a7⟩ := h.ex
 have hS := hk S h2 (bl_lt h3)
 exact ⟨S, lv, p0, p1, p2, p3, p4, p5, p6, p7, h1, hS.1, hS.2.trans h3, h4.keep hs hk, ⟨a0.keep hs hk, a1.keep hs hk, a2.keep hs hk, a3.keep hs hk⟩, a4.keep hs hk, a5.keep hs hk, a6.keep hs hk, a7.keep hs hk⟩
inductive Memo where
 | kn (W : Sp → List Sp)
 | so (W : Sp → List Sp) (hd : Nat)
abbrev okB (M : Nat → Option Memo) (O : Nat → Prop) (b : Nat) : Prop := ¬ O b ∧ M b = none
def MemoAt (w : World) (ok : Nat → Prop) (b : Nat) : Memo → Prop
 | .kn W => MapAt w b (fun x v => SpL w ok v (W x))
 | .so W hd => MapAt w b (fun x v => SoAt w ok v hd (W x))
theorem MemoAt.keep {w w' : World} {ok ok' : Nat → Prop} {b : Nat} {m : Memo} (h : MemoAt w ok b m) (hb : w'.heap[b]? = w.heap[b]?) (hs : w.heap.size ≤ w'.heap.size) (hk : ∀ b, ok b → b < w.heap.size → ok' b ∧ w'.heap[b]? = w.heap[b]?) : MemoAt w' ok' b m := by
 cases m with
 | kn W => exact MapAt.imp h hb (fun x v q => q.keep hs hk)
 | so W hd => exact MapAt.imp h hb (fun x v q => q.keep hs hk)
theorem MemoAt.lt {w : World} {ok : Nat → Prop} {b : Nat} {m : Memo} (h : MemoAt w ok b m) : b < w.heap.size := by
 cases m with
 | kn W => exact MapAt.lt h
 | so W hd => exact MapAt.lt h
structure MemOk (M : Nat → Option Memo) (O : Nat → Prop) (w : World) : Prop where
 at_ : ∀ b m, M b = some m → MemoAt w (okB M O) b m
 own : ∀ b, O b → M b = none
theorem MemOk.lt {M : Nat → Option Memo} {O : Nat → Prop} {w : World} (h : MemOk M O w) {b : Nat} (hb : w.heap.size ≤ b) : M b = none := by
 cases hm : M b with
 | none => rfl
 | some m => exact absurd (h.at_ b m hm).lt (by omega)
theorem MemOk.keep {M : Nat → Option Memo} {O O' S : Nat → Prop} {w w' : World} (h : MemOk M O w) (k : Kx S w w') (hS : ∀ b, b < w.heap.size → S b → O b) (hO : ∀ b, b < w.heap.size → O' b → O b) (hN : ∀ b, O' b → M b = none) : MemOk M O' w' := by
 refine ⟨fun b m hm => ?_, hN⟩
 have hat := h.at_ b m hm
 have hlt := hat.lt
 have hnS : ¬ S b := fun q => by have := h.own b (hS b hlt q); rw [hm] at this; cases this
 exact hat.keep (k.block b hlt hnS) k.size (fun c hc hl => ⟨⟨fun q => hc.1 (hO c hl q), hc.2⟩, k.block c hl (fun q => hc.1 (hS c hl q))⟩)
theorem MemOk.more {M : Nat → Option Memo} {O O' : Nat → Prop} {w : World} (h : MemOk M O w) (hO : ∀ b, b < w.heap.size → O' b → O b) (hN : ∀ b, O' b → M b = none) : MemOk M O' w := h.keep (Kx.refl (fun _ => False) w) (fun _ _ q => q.elim) hO hN
abbrev ptv (P : Nat) : Value := .pointer (some ⟨P, 0, none⟩)
abbrev pto (k low high n : Int) (t : W4) (ks : Value) (rd st hd : Nat) (kn so : Option Nat) : Obj := .cells #[.int .i64 k, .int .i64 low, .int .i64 high, .int .i64 n, .int .u64 (t.a : Int), .int .u64 (t.b : Int), .int .u64 (t.c : Int), .int .u64 (t.d : Int), ks, .int .u8 (rd : Int), .int .u8 (st : Int), .int .u8 (hd : Int), .map kn, .map so] 130
mutual
def PtAt (w : World) (ok : Nat → Prop) : Pt → Prop
 | .mk k low high n t P kn so rd st hd kids => ok P ∧ (∃ ad c, w.heap[P]? = some (pto k low high n t (.slice ad kids.length c) rd st hd kn so) ∧ kids.length ≤ c ∧ (0 < kids.length → ∃ b, ad = some ⟨b, 0, none⟩ ∧ ok b ∧ b < w.heap.size ∧ ∀ (j : Nat) q, kids[j]? = some q → w.cell? ⟨b, j, none⟩ = some (ptv q.P))) ∧ PtsAt w ok kids
def PtsAt (w : World) (ok : Nat → Prop) : List Pt → Prop
 | [] => True
 | p :: ps => PtAt w ok p ∧ PtsAt w ok ps
end
mutual
theorem PtAt.keep {w w' : World} {ok ok' : Nat → Prop} (hs : w.heap.size ≤ w'.heap.size) (hk : ∀ b, ok b → b < w.heap.size → ok' b ∧ w'.heap[b]? = w.heap[b]?) : ∀ (p : Pt), PtAt w ok p → PtAt w' ok' p
 | .mk k low high n t P kn so rd st hd kids, h => by
  unfold PtAt at h ⊢
  obtain ⟨h1, ⟨ad, c, h2, h3, h4⟩, h5⟩ := h
  have hP := hk P h1 (bl_lt h2)
  refine ⟨hP.1, ⟨ad, c, hP.2.trans h2, h3, fun hl => ?_⟩, PtsAt.keep hs hk kids h5⟩
  obtain ⟨b, e, hb, hlt, hc⟩ := h4 hl
  exact ⟨b, e, (hk b hb hlt).1, by omega, fun j q hj => (cell_same (hk b hb hlt).2 _).trans (hc j q hj)⟩
theorem PtsAt.keep {w w' : World} {ok ok' : Nat → Prop} (hs : w.heap.size ≤ w'.heap.size) (hk : ∀ b, ok b → b < w.heap.size → ok' b ∧ w'.heap[b]? = w.heap[b]?) : ∀ (ps : List Pt), PtsAt w ok ps → PtsAt w' ok' ps
 | [], _ => by unfold PtsAt; trivial
 | p :: ps, h => by
  unfold PtsAt at h ⊢
  exact ⟨PtAt.keep hs hk p h.1, PtsAt.keep hs hk ps h.2⟩
end
theorem PtsAt.get {w : World} {ok : Nat → Prop} : ∀ {ps : List Pt}, PtsAt w ok ps → ∀ (j : Nat) p, ps[j]? = some p → PtAt w ok p
 | [], _, j, p, hj => by simp at hj
 | q :: qs, h, 0, p, hj => by
  unfold PtsAt at h
  simp at hj
  subst hj
  exact h.1
 | q :: qs, h, j + 1, p, hj => by
  unfold PtsAt at h
  simp at hj
  exact h.2.get j p hj
end Go.Proofs.YtnajcnhgeggngaaGreat.Way

/-! ### Used -/

namespace Go.Proofs.YtnajcnhgeggngaaGreat.Way
open Go.RowKit Go.Proofs.YtnajcnhgeggngaaGreat

abbrev uso (r s : Nat) : Obj := .cells #[.int .u8 (r : Int), .int .u8 (s : Int)] 126
theorem u8_or (a b : Nat) (ha : a < 8) (hb : b < 8) : bits .or .u8 (a : Int) (b : Int) = ((a ||| b : Nat) : Int) := by
 have h : ∀ x : Fin 8, ∀ y : Fin 8, bits .or .u8 (x.val : Int) (y.val : Int) = ((x.val ||| y.val : Nat) : Int) := by decide
 exact h ⟨a, ha⟩ ⟨b, hb⟩
theorem u8_and (a b : Nat) (ha : a < 8) (hb : b < 8) : bits .and .u8 (a : Int) (b : Int) = ((a &&& b : Nat) : Int) := by
 have h : ∀ x : Fin 8, ∀ y : Fin 8, bits .and .u8 (x.val : Int) (y.val : Int) = ((x.val &&& y.val : Nat) : Int) := by decide
 exact h ⟨a, ha⟩ ⟨b, hb⟩
theorem u8_not (a b : Nat) (ha : a < 8) (hb : b < 8) : bits .andNot .u8 (a : Int) (b : Int) = ((a &&& (7 - b) : Nat) : Int) := by
 have h : ∀ x : Fin 8, ∀ y : Fin 8, bits .andNot .u8 (x.val : Int) (y.val : Int) = ((x.val &&& (7 - y.val) : Nat) : Int) := by decide
 exact h ⟨a, ha⟩ ⟨b, hb⟩
theorem or8 (a b : Nat) (ha : a < 8) (hb : b < 8) : a ||| b < 8 := Nat.or_lt_two_pow (n := 3) ha hb
theorem and8 (a b : Nat) (ha : a < 8) : a &&& b < 8 := Nat.lt_of_le_of_lt Nat.and_le_left ha
structure KidS (w : World) (ok : Nat → Prop) (ad : Option Addr) (c : Nat) (kids : List Pt) : Prop where
 cap : kids.length ≤ c
 at_ : 0 < kids.length → ∃ b, ad = some ⟨b, 0, none⟩ ∧ ok b ∧ b < w.heap.size ∧ ∀ (j : Nat) q, kids[j]? = some q → w.cell? ⟨b, j, none⟩ = some (ptv q.P)
theorem KidS.keep {w w' : World} {ok ok' : Nat → Prop} {ad : Option Addr} {c : Nat} {kids : List Pt} (h : KidS w ok ad c kids) (hs : w.heap.size ≤ w'.heap.size) (hk : ∀ b, ok b → b < w.heap.size → ok' b ∧ w'.heap[b]? = w.heap[b]?) : KidS w' ok' ad c kids := by
 refine ⟨h.cap, fun hl => ?_⟩
 obtain ⟨b, e, hb, hlt, hc⟩ := h.at_ hl
 exact ⟨b, e, (hk b hb hlt).1, by omega, fun j q hj => (cell_same (hk b hb hlt).2 _).trans (hc j q hj)⟩
theorem KidS.kp {w w' : World} {ok : Nat → Prop} {ad : Option Addr} {c : Nat} {kids : List Pt} (h : KidS w ok ad c kids) (k : Kp w w') : KidS w' ok ad c kids := h.keep k.size (fun b hb hl => ⟨hb, k.block b hl⟩)
theorem PtAt.kp {w w' : World} {ok : Nat → Prop} {p : Pt} (h : PtAt w ok p) (k : Kp w w') : PtAt w' ok p := PtAt.keep k.size (fun b hb hl => ⟨hb, k.block b hl⟩) p h
theorem PtsAt.kp {w w' : World} {ok : Nat → Prop} {ps : List Pt} (h : PtsAt w ok ps) (k : Kp w w') : PtsAt w' ok ps := PtsAt.keep k.size (fun b hb hl => ⟨hb, k.block b hl⟩) ps h
theorem PtAt.form {w : World} {ok : Nat → Prop} {p : Pt} (h : PtAt w ok p) : ∃ k low high n t kn so kids ad c, p = .mk k low high n t p.P kn so p.rd p.st p.hd kids ∧ ok p.P ∧ w.heap[p.P]? = some (pto k low high n t (.slice ad kids.length c) p.rd p.st p.hd kn so) ∧ KidS w ok ad c kids ∧ PtsAt w ok kids := by
 obtain ⟨k, low, high, n, t, P, kn, so, rd, st, hd, kids⟩ := p
 unfold PtAt at h
 obtain ⟨h1, ⟨ad, c, h2, h3, h4⟩, h5⟩ := h
 exact ⟨k, low, high, n, t, kn, so, kids, ad, c, rfl, h1, h2, ⟨h3, h4⟩, h5⟩
def WdOk : List Pt → Prop
 | [] => True
 | p :: ps => (p.rd < 8 ∧ p.st < 8) ∧ WdOk ps
theorem WdOk.get : ∀ {ps : List Pt}, WdOk ps → ∀ (j : Nat) p, ps[j]? = some p → p.rd < 8 ∧ p.st < 8
 | [], _, j, p, hj => by simp at hj
 | q :: qs, h, 0, p, hj => by
  simp at hj
  subst hj
  exact h.1
 | q :: qs, h, j + 1, p, hj => by
  simp at hj
  exact WdOk.get h.2 j p hj
theorem row_lt : ∀ (ps : List Pt) (u : Nat × Nat), WdOk ps → u.1 < 8 → u.2 < 8 → (ps.foldl inRowF u).1 < 8 ∧ (ps.foldl inRowF u).2 < 8
 | [], _, _, h1, h2 => ⟨h1, h2⟩
 | p :: ps, u, h, h1, h2 => row_lt ps (inRowF u p) h.2 (or8 _ _ h1 (and8 _ _ h.1.1)) (or8 _ _ h2 h.1.2)
theorem alt_lt : ∀ (ps : List Pt) (u : Nat × Nat), WdOk ps → u.1 < 8 → u.2 < 8 → (ps.foldl inAltF u).1 < 8 ∧ (ps.foldl inAltF u).2 < 8
 | [], _, _, h1, h2 => ⟨h1, h2⟩
 | p :: ps, u, h, h1, h2 => alt_lt ps (inAltF u p) h.2 (or8 _ _ h1 h.1.1) (and8 _ _ h2)
theorem WdOk.take : ∀ (ps : List Pt) (q : Nat), WdOk ps → WdOk (ps.take q)
 | [], q, _ => by simp [WdOk]
 | p :: ps, 0, _ => by simp [WdOk]
 | p :: ps, q + 1, h => ⟨h.1, WdOk.take ps q h.2⟩
theorem us_ret {fn : Func} {p : Tmp} (h : fn.results = #[.cell p 126]) (tmps : Array Value) (w : World) (S : Nat) (cs : Array Value) (hp : tmps.getD p undef = .pointer (some ⟨S, 0, none⟩)) (hA : w.heap[S]? = some (.cells cs 126)) (hc : cs.size = 2) : (results fn tmps).run Tryz.prog w = .ok (.agg cs) w :=
 results_cell_row h tmps w S 126 _ (0, 0) _ hp hA Tryz.underlying126 rfl (by rw [hc]; kernel_rfl)
end Go.Proofs.YtnajcnhgeggngaaGreat.Way

/-! ### InRow -/

namespace Go.Proofs.YtnajcnhgeggngaaGreat.Way
set_option maxHeartbeats 2000000
set_option maxRecDepth 100000
open Go.RowKit Go.Proofs.YtnajcnhgeggngaaGreat

theorem row_any (ok : Nat → Prop) (ad : Option Addr) (c : Nat) (kids : List Pt) (w : World) (hK : KidS w ok ad c kids) (hP : PtsAt w ok kids) (hW : WdOk kids) (hL : kids.length ≤ 1000000) :
  Calls Tryz.prog 77 #[.slice ad kids.length c] w fun e w' => e = .returned (.agg #[.int .u8 ((kids.foldl inRowF (0, 0)).1 : Int), .int .u8 ((kids.foldl inRowF (0, 0)).2 : Int)]) ∧ Kp w w' := by
 obtain ⟨L, hLL⟩ : ∃ L, kids.length = L := ⟨_, rfl⟩
 have HL := hid hLL
 have HK := hid hK
 have HP := hid hP
 have HW := hid hW
 have hcap := hK.cap
 obtain ⟨G, hG⟩ : ∃ G, kids.foldl inRowF (0, 0) = G := ⟨_, rfl⟩
 have HG := hid hG
 rw [hG]
 rw [hLL] at hL hcap ⊢
 clear hK hP hW hLL hG
 go_enter Tryz.func77, Tryz.ntmps77
 go_upto_region 2 with fail
 refine opq (fun W0 => W0.heap[w.heap.size]? = some (uso 0 0) ∧ W0.heap[(w.heap.size + 1)]? = some (uso 0 0) ∧ Kp w W0) ⟨by exact bl_alloc (last_of _ _) _, by exact last_at _ _ _ (by simp), by exact kpt⟩ ?_
 rintro W0 ⟨xA0, xB0, xK0⟩
 have A0 := hid xA0
 have B0 := hid xB0
 have K0 := hid xK0
 clear xA0 xB0 xK0
 go_wp2_with fail
 go_loopg [8] L (fun gg i wr => ∃ (q u1 u2 : Nat), q + gg = L ∧ i = .int .i64 (q : Int) ∧ (kids.take q).foldl inRowF (0, 0) = (u1, u2) ∧ wr.heap[w.heap.size]? = some (uso 0 0) ∧ wr.heap[(w.heap.size + 1)]? = some (uso u1 u2) ∧ Kp w wr)
 case atStart => exact ⟨0, 0, 0, by omega, rfl, rfl, A0.out, B0.out, K0.out⟩
 case round =>
  obtain ⟨q, u1, u2, hq, rfl, hU, hA, hB, hK⟩ := hrel
  have HU := hid hU
  have A := hid hA
  have U := hid hB
  have K := hid hK
  clear hU hA hB hK A0 B0 K0
  by_cases hlt : q < L
  ·
   have gkw : IntKind.i64.wrap ((q : Int) + 1) = (q : Int) + 1 := by rw [IntKind.wrap_i64]; omega
   have ga : (q : Int) < (L : Int) := by omega
   have g0 : (0 : Int) ≤ (q : Int) := by omega
   obtain ⟨p, hp0⟩ : ∃ p, kids[q]? = some p := ⟨_, List.getElem?_eq_getElem (by rw [HL.out]; exact hlt)⟩
   obtain ⟨bb, rfl, -, hbb, hce⟩ := (HK.out.kp K.out).at_ (by rw [HL.out]; omega)
   have cp := hce q p hp0
   obtain ⟨k', lo', hi', n', t', kn', so', ks', ad', c', -, -, hblk, -, -⟩ := ((HP.out.get q p hp0).kp K.out).form
   have Q := hid hblk
   have hp := HW.out.get q p hp0
   have hlt2 := row_lt (kids.take q) (0, 0) (WdOk.take kids q HW.out) (by decide) (by decide)
   rw [HU.out] at hlt2
   have HE5 : Hid (bits .or .u8 (u1 : Int) (bits .andNot .u8 (p.rd : Int) (u2 : Int)) = (((u1 ||| (p.rd &&& (7 - u2))) : Nat) : Int)) := by show _ = _; rw [u8_not _ _ hp.1 hlt2.2, u8_or _ _ hlt2.1 (and8 _ _ hp.1)]
   have HE6 : Hid (bits .or .u8 (u2 : Int) (p.st : Int) = (((u2 ||| p.st) : Nat) : Int)) := by show _ = _; rw [u8_or _ _ hlt2.2 hp.2]
   have HTK : Hid ((kids.take (q + 1)).foldl inRowF (0, 0) = ((u1 ||| (p.rd &&& (7 - u2))), (u2 ||| p.st))) := by
    show _ = _
    rw [List.take_succ_eq_append_getElem (by rw [HL.out]; exact hlt), List.foldl_append, HU.out, (List.getElem?_eq_some_iff.1 hp0).2]
    rfl
   have HPB : Hid (p.P ≠ (w.heap.size + 1)) := by
    show _ ≠ _
    obtain ⟨_, _, _, _, _, _, _, _, _, _, -, -, hb0, -, -⟩ := (HP.out.get q p hp0).form
    have := bl_lt hb0
    omega
   clear hp hlt2 hce hblk hp0
   go_upto_region 5 with fail
   clear cp
   go_cut [] (fun wc => wc.heap[(w.heap.size + 1)]? = some (uso (u1 ||| (p.rd &&& (7 - u2))) u2) ∧ Ks (w.heap.size + 1) wr wc)
   case first =>
    have Q0 : Ks (w.heap.size + 1) wr wr.drew := (Ks.refl _ _).drew
    have MK : Hid (∀ W, Ks (w.heap.size + 1) wr W → W.cell? ⟨p.P, 9, none⟩ = some (.int .u8 (p.rd : Int)) ∧ W.cell? ⟨p.P, 10, none⟩ = some (.int .u8 (p.st : Int)) ∧ Hid (Ks (w.heap.size + 1) wr W)) := fun W k => ⟨bl_cell (bl_ks Q.out HPB.out k) 9 _ rfl, bl_cell (bl_ks Q.out HPB.out k) 10 _ rfl, k⟩
    refine wp_region_noPanic ?_
    refine hdrewZ 12 MK Q0 (fun hH => ?_)
    have KQ := Q0
    refine zk 12 0 [] (some 12) (Op.fieldAddr 126 (Operand.tmp 3) 0) 0 (v := ?v0a1) rfl ?h0a1 hH ?_
    case h0a1 => intro _ _; go_simp; try with_reducible rfl
    try simp only [ps]
    refine zk 12 2 [] (some 14) (Op.move (Operand.tmp 5)) 71 (v := ?v2a2) rfl ?h2a2 hH ?_
    case h2a2 => intro _ _; go_simp; try with_reducible rfl
    try simp only [ps]
    refine zk 12 3 [] (some 15) (Op.nilCheck (Operand.tmp 14)) 0 (v := ?v3a3) rfl ?h3a3 hH ?_
    case h3a3 => intro _ _; go_simp; try with_reducible rfl
    try simp only [ps]
    refine zk 12 4 [] (some 16) (Op.fieldAddr 130 (Operand.tmp 15) 6) 0 (v := ?v4a4) rfl ?h4a4 hH ?_
    case h4a4 => intro _ _; go_simp; try with_reducible rfl
    try simp only [ps]
    refine zk 12 5 [] (some 17) (Op.fieldAddr 126 (Operand.tmp 16) 0) 0 (v := ?v5a5) rfl ?h5a5 hH ?_
    case h5a5 => intro _ _; go_simp; try with_reducible rfl
    try simp only [ps]
    refine zk 12 6 [] (some 18) (Op.load 75 (Operand.tmp 17)) 75 (v := ?v6a6) rfl ?h6a6 hH ?_
    case h6a6 => intro _ _; go_simp; try with_reducible rfl
    try simp only [ps]
    refine zk 12 7 [] (some 19) (Op.fieldAddr 126 (Operand.tmp 3) 1) 0 (v := ?v7a7) rfl ?h7a7 hH ?_
    case h7a7 => intro _ _; go_simp; try with_reducible rfl
    try simp only [ps]
    refine anyZ_ready (rs := [1, 8]) (by kernel_rfl) (by simp) ?_
    refine AllZ.cons (o := { dst := some 13, op := Op.load 75 (Operand.tmp 12), type := 75, pos := "part.go:112", after := #[{ on := 0, ground := Ground.data }], guard := none }) rfl (fun K hKq => ?_) ?_
    ·
     have l0 := bl_cell (bl_drew U.out) 0 _ rfl
     go_simp
     refine hKq.out _ _ (MK.out _ KQ) (fun hN => ?_)
     clear l0
     clear hKq K hH KQ
     have hH := hN
     clear hN
     have KQ := hH.2.2.out
     try simp only [ps]
     refine anyZ_ready (rs := [8]) (by kernel_rfl) (by simp) ?_
     refine AllZ.cons (o := { dst := some 20, op := Op.load 75 (Operand.tmp 19), type := 75, pos := "part.go:112", after := #[{ on := 7, ground := Ground.data }], guard := none }) rfl (fun K hKq => ?_) AllZ.nil
     have l1 := bl_cell (bl_drew U.out) 1 _ rfl
     go_simp
     refine hKq.out _ _ (MK.out _ KQ) (fun hN => ?_)
     clear l1
     clear hKq K hH KQ
     have hH := hN
     clear hN
     have KQ := hH.2.2.out
     try simp only [ps]
     refine zk 12 9 [] (some 21) (Op.binOp BinOp.andNot 75 (Operand.tmp 18) (Operand.tmp 20) 75) 75 (v := ?v9a8) rfl ?h9a8 hH ?_
     case h9a8 => intro _ _; go_simp; try with_reducible rfl
     try simp only [ps]
     refine zk 12 10 [] (some 22) (Op.binOp BinOp.or 75 (Operand.tmp 13) (Operand.tmp 21) 75) 75 (v := ?v10a9) rfl ?h10a9 hH ?_
     case h10a9 => intro _ _; go_simp; try with_reducible rfl
     try simp only [ps]
     refine zk 12 11 [] (some 23) (Op.fieldAddr 126 (Operand.tmp 3) 0) 0 (v := ?v11a10) rfl ?h11a10 hH ?_
     case h11a10 => intro _ _; go_simp; try with_reducible rfl
     try simp only [ps]
     refine anyZ_ready (rs := [12]) (by kernel_rfl) (by simp) ?_
     refine AllZ.last (o := { dst := none, op := Op.store 75 (Operand.tmp 23) (Operand.tmp 22), type := 0, pos := "part.go:112", after := #[{ on := 11, ground := Ground.data }, { on := 10, ground := Ground.data }, { on := 0, ground := Ground.phase }, { on := 1, ground := Ground.phase }, { on := 2, ground := Ground.phase }, { on := 3, ground := Ground.phase }, { on := 4, ground := Ground.phase }, { on := 5, ground := Ground.phase }, { on := 6, ground := Ground.phase }, { on := 7, ground := Ground.phase }, { on := 8, ground := Ground.phase }, { on := 9, ground := Ground.phase }, { on := 10, ground := Ground.phase }], guard := none }) rfl (Or.inl rfl) (fun K hKq => ?_) AllZ.nil
     have l0 := bl_cell (bl_drew U.out) 0 _ rfl
     have fl0 := bl_frozen (bl_drew U.out) 0
     go_simp
     refine hKq.out _ _ ?_
     clear l0 fl0
     clear hKq K
     try simp only [ps]
     refine anyZ_done (by kernel_rfl) ?_ _
     refine NoPanic.normal ?_
     go_wp2_with fail
     go_meet
     case rel => exact ⟨by rw [HE5.out]; exact bl_put U.out _, ((Ks.refl _ _).set _ _).drew⟩
    refine AllZ.cons (o := { dst := some 20, op := Op.load 75 (Operand.tmp 19), type := 75, pos := "part.go:112", after := #[{ on := 7, ground := Ground.data }], guard := none }) rfl (fun K hKq => ?_) ?_
    ·
     have l1 := bl_cell (bl_drew U.out) 1 _ rfl
     go_simp
     refine hKq.out _ _ (MK.out _ KQ) (fun hN => ?_)
     clear l1
     clear hKq K hH KQ
     have hH := hN
     clear hN
     have KQ := hH.2.2.out
     try simp only [ps]
     refine zk 12 9 [] (some 21) (Op.binOp BinOp.andNot 75 (Operand.tmp 18) (Operand.tmp 20) 75) 75 (v := ?v9a11) rfl ?h9a11 hH ?_
     case h9a11 => intro _ _; go_simp; try with_reducible rfl
     try simp only [ps]
     refine anyZ_ready (rs := [1]) (by kernel_rfl) (by simp) ?_
     refine AllZ.cons (o := { dst := some 13, op := Op.load 75 (Operand.tmp 12), type := 75, pos := "part.go:112", after := #[{ on := 0, ground := Ground.data }], guard := none }) rfl (fun K hKq => ?_) AllZ.nil
     have l0 := bl_cell (bl_drew U.out) 0 _ rfl
     go_simp
     refine hKq.out _ _ (MK.out _ KQ) (fun hN => ?_)
     clear l0
     clear hKq K hH KQ
     have hH := hN
     clear hN
     have KQ := hH.2.2.out
     try simp only [ps]
     refine zk 12 10 [] (some 22) (Op.binOp BinOp.or 75 (Operand.tmp 13) (Operand.tmp 21) 75) 75 (v := ?v10a12) rfl ?h10a12 hH ?_
     case h10a12 => intro _ _; go_simp; try with_reducible rfl
     try simp only [ps]
     refine zk 12 11 [] (some 23) (Op.fieldAddr 126 (Operand.tmp 3) 0) 0 (v := ?v11a13) rfl ?h11a13 hH ?_
     case h11a13 => intro _ _; go_simp; try with_reducible rfl
     try simp only [ps]
     refine anyZ_ready (rs := [12]) (by kernel_rfl) (by simp) ?_
     refine AllZ.last (o := { dst := none, op := Op.store 75 (Operand.tmp 23) (Operand.tmp 22), type := 0, pos := "part.go:112", after := #[{ on := 11, ground := Ground.data }, { on := 10, ground := Ground.data }, { on := 0, ground := Ground.phase }, { on := 1, ground := Ground.phase }, { on := 2, ground := Ground.phase }, { on := 3, ground := Ground.phase }, { on := 4, ground := Ground.phase }, { on := 5, ground := Ground.phase }, { on := 6, ground := Ground.phase }, { on := 7, ground := Ground.phase }, { on := 8, ground := Ground.phase }, { on := 9, ground := Ground.phase }, { on := 10, ground := Ground.phase }], guard := none }) rfl (Or.inl rfl) (fun K hKq => ?_) AllZ.nil
     have l0 := bl_cell (bl_drew U.out) 0 _ rfl
     have fl0 := bl_frozen (bl_drew U.out) 0
     go_simp
     refine hKq.out _ _ ?_
     clear l0 fl0
     clear hKq K
     try simp only [ps]
     refine anyZ_done (by kernel_rfl) ?_ _
     refine NoPanic.normal ?_
     go_wp2_with fail
     go_meet
     case rel => exact ⟨by rw [HE5.out]; exact bl_put U.out _, ((Ks.refl _ _).set _ _).drew⟩
    exact AllZ.nil
   case rest =>
   obtain ⟨hu4, hk4⟩ := hcut
   rename World => W4x
   have U4 := hid hu4
   have Q4 := hid (bl_ks Q.out HPB.out hk4)
   have A4 := hid (bl_ks A.out (by omega) hk4)
   have K4 := hid (hk4.up K.out (by omega))
   clear hu4 hk4 U Q A K
   go_upto_region 6 with fail
   have Q0 : Ks (w.heap.size + 1) W4x W4x.drew := (Ks.refl _ _).drew
   have MK : Hid (∀ W, Ks (w.heap.size + 1) W4x W → W.cell? ⟨p.P, 9, none⟩ = some (.int .u8 (p.rd : Int)) ∧ W.cell? ⟨p.P, 10, none⟩ = some (.int .u8 (p.st : Int)) ∧ Hid (Ks (w.heap.size + 1) W4x W)) := fun W k => ⟨bl_cell (bl_ks Q4.out HPB.out k) 9 _ rfl, bl_cell (bl_ks Q4.out HPB.out k) 10 _ rfl, k⟩
   refine wp_region_noPanic ?_
   refine hdrewZ 9 MK Q0 (fun hH => ?_)
   have KQ := Q0
   refine zk 9 0 [] (some 24) (Op.fieldAddr 126 (Operand.tmp 3) 1) 0 (v := ?v0b1) rfl ?h0b1 hH ?_
   case h0b1 => intro _ _; go_simp; try with_reducible rfl
   try simp only [ps]
   refine zk 9 2 [] (some 26) (Op.move (Operand.tmp 5)) 71 (v := ?v2b2) rfl ?h2b2 hH ?_
   case h2b2 => intro _ _; go_simp; try with_reducible rfl
   try simp only [ps]
   refine zk 9 3 [] (some 27) (Op.nilCheck (Operand.tmp 26)) 0 (v := ?v3b3) rfl ?h3b3 hH ?_
   case h3b3 => intro _ _; go_simp; try with_reducible rfl
   try simp only [ps]
   refine zk 9 4 [] (some 28) (Op.fieldAddr 130 (Operand.tmp 27) 6) 0 (v := ?v4b4) rfl ?h4b4 hH ?_
   case h4b4 => intro _ _; go_simp; try with_reducible rfl
   try simp only [ps]
   refine zk 9 5 [] (some 29) (Op.fieldAddr 126 (Operand.tmp 28) 1) 0 (v := ?v5b5) rfl ?h5b5 hH ?_
   case h5b5 => intro _ _; go_simp; try with_reducible rfl
   try simp only [ps]
   refine zk 9 6 [] (some 30) (Op.load 75 (Operand.tmp 29)) 75 (v := ?v6b6) rfl ?h6b6 hH ?_
   case h6b6 => intro _ _; go_simp; try with_reducible rfl
   try simp only [ps]
   refine anyZ_ready (rs := [1]) (by kernel_rfl) (by simp) ?_
   refine AllZ.cons (o := { dst := some 25, op := Op.load 75 (Operand.tmp 24), type := 75, pos := "part.go:113", after := #[{ on := 0, ground := Ground.data }], guard := none }) rfl (fun K hKq => ?_) AllZ.nil
   have l1 := bl_cell (bl_drew U4.out) 1 _ rfl
   go_simp
   refine hKq.out _ _ (MK.out _ KQ) (fun hN => ?_)
   clear l1
   clear hKq K hH KQ
   have hH := hN
   clear hN
   have KQ := hH.2.2.out
   try simp only [ps]
   refine zk 9 7 [] (some 31) (Op.binOp BinOp.or 75 (Operand.tmp 25) (Operand.tmp 30) 75) 75 (v := ?v7b7) rfl ?h7b7 hH ?_
   case h7b7 => intro _ _; go_simp; try with_reducible rfl
   try simp only [ps]
   refine zk 9 8 [] (some 32) (Op.fieldAddr 126 (Operand.tmp 3) 1) 0 (v := ?v8b8) rfl ?h8b8 hH ?_
   case h8b8 => intro _ _; go_simp; try with_reducible rfl
   try simp only [ps]
   refine anyZ_ready (rs := [9]) (by kernel_rfl) (by simp) ?_
   refine AllZ.last (o := { dst := none, op := Op.store 75 (Operand.tmp 32) (Operand.tmp 31), type := 0, pos := "part.go:113", after := #[{ on := 8, ground := Ground.data }, { on := 7, ground := Ground.data }, { on := 0, ground := Ground.phase }, { on := 1, ground := Ground.phase }, { on := 2, ground := Ground.phase }, { on := 3, ground := Ground.phase }, { on := 4, ground := Ground.phase }, { on := 5, ground := Ground.phase }, { on := 6, ground := Ground.phase }, { on := 7, ground := Ground.phase }], guard := none }) rfl (Or.inl rfl) (fun K hKq => ?_) AllZ.nil
   have l1 := bl_cell (bl_drew U4.out) 1 _ rfl
   have fl1 := bl_frozen (bl_drew U4.out) 1
   go_simp
   refine hKq.out _ _ ?_
   clear l1 fl1
   clear hKq K
   try simp only [ps]
   refine anyZ_done (by kernel_rfl) ?_ _
   refine NoPanic.normal ?_
   go_wp2_with fail
   go_roundg (gk - 1)
   case measure => omega
   case rel => exact ⟨q + 1, _, _, by omega, by go_num, HTK.out, bl_set A4.out (by omega) _, by rw [HE6.out]; exact bl_put U4.out _, Ks.up (P := (w.heap.size + 1)) (((Ks.refl _ _).set _ _).drew) K4.out (by omega)⟩
  ·
   have ga : ¬ (q : Int) < (L : Int) := by omega
   have E : Hid (G = (u1, u2)) := by
    show _ = _
    rw [← HG.out, ← HU.out, List.take_of_length_le (by rw [HL.out]; omega)]
   obtain ⟨a0, fa0, a1, fa1⟩ := cellf2 (A.out)
   have u0 := bl_cell (U.out) 0 _ rfl
   have u1 := bl_cell (U.out) 1 _ rfl
   go_wp2_with fail
   rw [E.out]
   exact bodyPost_ret (v := .agg _) (us_ret rfl _ _ _ _ rfl (bl_put (bl_put A.out _) _) rfl) rfl ⟨rfl, Ks.up (P := w.heap.size) (((Ks.refl _ _).set _ _).set _ _) K.out (by omega)⟩
end Go.Proofs.YtnajcnhgeggngaaGreat.Way
