/-
  Texts of this claim: Begins, Alt, RepW, Unb, Cat, Ways, Sorted, Next, Beh.
-/
import Derived.Test.YtnajcnhgeggngaaGreatM8
import Derived.Test.YtnajcnhgeggngaaGreatM6
import Derived.Test.YtnajcnhgeggngaaGreatM7
import Derived.Deep.CutBlock

/-! ### Begins -/

namespace Go.Proofs.YtnajcnhgeggngaaGreat.Way
set_option maxHeartbeats 2000000
set_option maxRecDepth 100000
open Go.RowKit Go.Proofs.YtnajcnhgeggngaaGreat Go.Maps

theorem TurnsAt.mem {w : World} {b : Nat} {S S' : List Turn} (h : TurnsAt w b S) (hs : ∀ t, t ∈ S ↔ t ∈ S') : TurnsAt w b S' := by
 obtain ⟨es, clock, h1, h2, h3, h4⟩ := h.ex
 refine ⟨es, clock, h1, h2, fun e he => ?_, fun t ht => h4 t ((hs t).2 ht)⟩
 obtain ⟨x, a1, a2, a3, a4⟩ := h3 e he
 exact ⟨x, a1, a2, (hs x).1 a3, a4⟩
theorem TurnsAt.more {w : World} {b : Nat} {S : List Turn} {t : Turn} (h : TurnsAt w b (S ++ [t])) : TurnsAt w b (if S.contains t then S else S ++ [t]) := by
 cases hc : S.contains t with
 | false => exact h
 | true =>
  refine h.mem (fun u => ?_)
  rw [List.mem_append, List.mem_singleton]
  constructor
  ·
   rintro (e | rfl)
   ·
    exact e
   ·
    exact List.contains_iff_mem.1 hc
  ·
   exact Or.inl
structure BeginsD (B : Nat) (S : List Turn) (t : Turn) (w : World) (e : Ending) (w' : World) : Prop where
 ex : e = .returned (.bool (!S.contains t)) ∧ TurnsAt w' B (if S.contains t then S else S ++ [t]) ∧ Kx (fun b => b = B) w w'
theorem begins_any (R B h pl : Nat) (lv z0 z1 z2 : Value) (sn : Option Nat) (t : Turn) (ht0 : t.Ok) (S : List Turn) (w : World) (hR : w.heap[R]? = some (.cells #[z0, z1, z2, .map (some B), .int .u8 (h : Int), lv, .int .u64 (pl : Int), .map sn] 182)) (hB : TurnsAt w B S) :
  Calls Tryz.prog 142 #[.pointer (some ⟨R, 0, none⟩), tnv t] w fun e w' => BeginsD B S t w e w' := by
 have HR := hid hR
 have HB := hid hB
 have ht := hid ht0
 obtain ⟨q, hq⟩ : ∃ q, S.contains t = q := ⟨_, rfl⟩
 have HQE := hid hq
 have HQ : Hid (∀ W, (Instr.lookup 180 (.map (some B)) (tnv t) true).run Tryz.prog W = .ok (.tuple #[.agg #[], .bool (S.contains t)]) W → (Instr.lookup 180 (.map (some B)) (tnv t) true).run Tryz.prog W = .ok (.tuple #[.agg #[], .bool q]) W) := by
  rw [hq]
  exact fun _ h => h
 clear hR hB ht0 hq
 go_enter Tryz.func142, Tryz.ntmps142
 go_upto_region 1 with fail
 refine opq (fun W0 => W0.heap[w.heap.size]? = some (.cells #[.int .i8 t.n, .int .u8 (t.lv : Int), .int .i8 t.x.a, .int .i8 t.x.f0, .int .i8 t.x.t0, .int .i8 t.x.f1, .int .i8 t.x.t1, .int .i8 t.x.f2, .int .i8 t.x.t2] 220) ∧ W0.heap[R]? = some (.cells #[z0, z1, z2, .map (some B), .int .u8 (h : Int), lv, .int .u64 (pl : Int), .map sn] 182) ∧ TurnsAt W0 B S ∧ Kp w W0) ⟨by exact last_of _ _, by exact bl_alloc HR.out _, by exact HB.out.same (((Kp.refl _).alloc _).block _ HB.out.lt), by exact (Kp.refl _).alloc _⟩ ?_
 rintro W0 ⟨xT0, xR0, xB0, xK0⟩
 have T0 := hid xT0
 have R0 := hid xR0
 have B0 := hid xB0
 have K0 := hid xK0
 clear xT0 xR0 xB0 xK0
 clear HR HB
 go_cut [6] (fun v wc => v = .bool q ∧ Kp W0 wc)
 case first =>
  have Q0 : Kp W0 W0.drew := (Kp.refl _).drew
  have MK : Hid (∀ W, Kp W0 W → W.cell? ⟨R, 3, none⟩ = some (.map (some B)) ∧ W.cell? ⟨w.heap.size, 0, none⟩ = some (.int .i8 t.n) ∧ W.cell? ⟨w.heap.size, 1, none⟩ = some (.int .u8 (t.lv : Int)) ∧ W.cell? ⟨w.heap.size, 2, none⟩ = some (.int .i8 t.x.a) ∧ W.cell? ⟨w.heap.size, 3, none⟩ = some (.int .i8 t.x.f0) ∧ W.cell? ⟨w.heap.size, 4, none⟩ = some (.int .i8 t.x.t0) ∧ W.cell? ⟨w.heap.size, 5, none⟩ = some (.int .i8 t.x.f1) ∧ W.cell? ⟨w.heap.size, 6, none⟩ = some (.int .i8 t.x.t1) ∧ W.cell? ⟨w.heap.size, 7, none⟩ = some (.int .i8 t.x.f2) ∧ W.cell? ⟨w.heap.size, 8, none⟩ = some (.int .i8 t.x.t2) ∧ (Instr.lookup 180 (.map (some B)) (tnv t) true).run Tryz.prog W = .ok (.tuple #[.agg #[], .bool q]) W ∧ Hid (Kp W0 W)) := fun W k => ⟨bl_cell (bl_kp R0.out k) 3 _ rfl, bl_cell (bl_kp T0.out k) 0 _ rfl, bl_cell (bl_kp T0.out k) 1 _ rfl, bl_cell (bl_kp T0.out k) 2 _ rfl, bl_cell (bl_kp T0.out k) 3 _ rfl, bl_cell (bl_kp T0.out k) 4 _ rfl, bl_cell (bl_kp T0.out k) 5 _ rfl, bl_cell (bl_kp T0.out k) 6 _ rfl, bl_cell (bl_kp T0.out k) 7 _ rfl, bl_cell (bl_kp T0.out k) 8 _ rfl, HQ.out _ ((B0.out.same (k.block B B0.out.lt)).look Tryz.underlying180 t ht.out), k⟩
  refine wp_region_noPanic ?_
  refine hdrew MK Q0 (fun hH => ?_)
  have KQ := Q0
  refine tk 0 (some 8) (Op.move (Operand.tmp 0)) 198 (v := ?v0a1) rfl ?h0a1 hH ?_
  case h0a1 => intro _ _; go_simp; try with_reducible rfl
  try simp only [ps]
  refine tk 1 (some 9) (Op.nilCheck (Operand.tmp 8)) 0 (v := ?v1a2) rfl ?h1a2 hH ?_
  case h1a2 => intro _ _; go_simp; try with_reducible rfl
  try simp only [ps]
  refine tk 2 (some 10) (Op.fieldAddr 182 (Operand.tmp 9) 2) 0 (v := ?v2a3) rfl ?h2a3 hH ?_
  case h2a3 => intro _ _; go_simp; try with_reducible rfl
  try simp only [ps]
  refine tk 3 (some 11) (Op.load 180 (Operand.tmp 10)) 180 (v := ?v3a4) rfl ?h3a4 hH ?_
  case h3a4 => intro _ _; go_simp; try with_reducible rfl
  try simp only [ps]
  refine tk 4 (some 12) (Op.load 220 (Operand.tmp 3)) 220 (v := ?v4a5) rfl ?h4a5 hH ?_
  case h4a5 => intro _ _; go_simp; try with_reducible rfl
  try simp only [ps]
  refine tk 5 (some 13) (Op.lookup 180 (Operand.tmp 11) (Operand.tmp 12) true) 215 (v := ?v5a6) rfl ?h5a6 hH ?_
  case h5a6 => intro _ _; go_simp; try with_reducible rfl
  try simp only [ps]
  refine tk 6 (some 7) (Op.move (Operand.tmp 13)) 215 (v := ?v6a7) rfl ?h6a7 hH ?_
  case h6a7 => intro _ _; go_simp; try with_reducible rfl
  try simp only [ps]
  refine tk 7 (some 14) (Op.extract (Operand.tmp 7) 0) 206 (v := ?v7a8) rfl ?h7a8 hH ?_
  case h7a8 => intro _ _; go_simp; try with_reducible rfl
  try simp only [ps]
  refine tk 8 (some 15) (Op.extract (Operand.tmp 7) 1) 4 (v := ?v8a9) rfl ?h8a9 hH ?_
  case h8a9 => intro _ _; go_simp; try with_reducible rfl
  try simp only [ps]
  refine wpAnyH_ready (rs := [9]) (by kernel_rfl) (by simp) ?_
  refine AllReadyH.cons (o := { dst := some 5, op := Op.alloc 206, type := 0, pos := "repeat.go:74", after := #[], guard := none }) rfl (fun K hKq => ?_) AllReadyH.nil
  go_simp
  refine hKq.out _ _ (MK.out _ (by first | exact KQ.alloc _ | exact (KQ0.alloc _).drew)) (fun hN => ?_)
  clear hKq K hH KQ
  have hH := hN
  clear hN
  have KQ := hH.2.2.2.2.2.2.2.2.2.2.2.out
  try simp only [ps]
  refine wpAnyH_ready (rs := [10]) (by kernel_rfl) (by simp) ?_
  refine AllReadyH.cons (o := { dst := none, op := Op.store 206 (Operand.tmp 5) (Operand.tmp 14), type := 0, pos := "repeat.go:74", after := #[{ on := 9, ground := Ground.data }, { on := 7, ground := Ground.data }, { on := 0, ground := Ground.phase }, { on := 1, ground := Ground.phase }, { on := 2, ground := Ground.phase }, { on := 3, ground := Ground.phase }, { on := 4, ground := Ground.phase }, { on := 5, ground := Ground.phase }, { on := 6, ground := Ground.phase }, { on := 7, ground := Ground.phase }, { on := 8, ground := Ground.textOnly Departure.lateStores }, { on := 9, ground := Ground.phase }], guard := none }) rfl (fun K hKq => ?_) AllReadyH.nil
  go_simp
  refine hKq.out _ _ (MK.out _ KQ) (fun hN => ?_)
  clear hKq K hH KQ
  have hH := hN
  clear hN
  have KQ := hH.2.2.2.2.2.2.2.2.2.2.2.out
  try simp only [ps]
  refine tk 11 (some 6) (Op.assign (Operand.tmp 15)) 4 (v := ?v11a10) rfl ?h11a10 hH ?_
  case h11a10 => intro _ _; go_simp; try with_reducible rfl
  try simp only [ps]
  refine wpAnyH_done (by kernel_rfl) ?_ _
  refine NoPanic.normal ?_
  go_wp2_with fail
  go_meet
  case rel => exact ⟨rfl, KQ⟩
 case rest =>
 obtain ⟨rfl, hk⟩ := hcut
 rename World => W1
 have T1 := hid (bl_kp T0.out hk)
 have R1 := hid (bl_kp R0.out hk)
 have B1 := hid (B0.out.same (hk.block B B0.out.lt))
 have K1 := hid (K0.out.trans hk)
 clear hk T0 R0 B0 K0
 go_upto_region 2 with fail
 have Q0 : Kp W1 W1.drew := (Kp.refl _).drew
 have MK : Hid (∀ W, Kp W1 W → W.cell? ⟨R, 3, none⟩ = some (.map (some B)) ∧ W.cell? ⟨w.heap.size, 0, none⟩ = some (.int .i8 t.n) ∧ W.cell? ⟨w.heap.size, 1, none⟩ = some (.int .u8 (t.lv : Int)) ∧ W.cell? ⟨w.heap.size, 2, none⟩ = some (.int .i8 t.x.a) ∧ W.cell? ⟨w.heap.size, 3, none⟩ = some (.int .i8 t.x.f0) ∧ W.cell? ⟨w.heap.size, 4, none⟩ = some (.int .i8 t.x.t0) ∧ W.cell? ⟨w.heap.size, 5, none⟩ = some (.int .i8 t.x.f1) ∧ W.cell? ⟨w.heap.size, 6, none⟩ = some (.int .i8 t.x.t1) ∧ W.cell? ⟨w.heap.size, 7, none⟩ = some (.int .i8 t.x.f2) ∧ W.cell? ⟨w.heap.size, 8, none⟩ = some (.int .i8 t.x.t2) ∧ Hid (Kp W1 W)) := fun W k => ⟨bl_cell (bl_kp R1.out k) 3 _ rfl, bl_cell (bl_kp T1.out k) 0 _ rfl, bl_cell (bl_kp T1.out k) 1 _ rfl, bl_cell (bl_kp T1.out k) 2 _ rfl, bl_cell (bl_kp T1.out k) 3 _ rfl, bl_cell (bl_kp T1.out k) 4 _ rfl, bl_cell (bl_kp T1.out k) 5 _ rfl, bl_cell (bl_kp T1.out k) 6 _ rfl, bl_cell (bl_kp T1.out k) 7 _ rfl, bl_cell (bl_kp T1.out k) 8 _ rfl, k⟩
 refine wp_region_noPanic ?_
 refine hdrewZ 6 MK Q0 (fun hH => ?_)
 have KQ := Q0
 refine zk 6 0 [] (some 16) (Op.move (Operand.tmp 0)) 198 (v := ?v0b1) rfl ?h0b1 hH ?_
 case h0b1 => intro _ _; go_simp; try with_reducible rfl
 try simp only [ps]
 refine zk 6 1 [] (some 17) (Op.nilCheck (Operand.tmp 16)) 0 (v := ?v1b2) rfl ?h1b2 hH ?_
 case h1b2 => intro _ _; go_simp; try with_reducible rfl
 try simp only [ps]
 refine zk 6 2 [] (some 18) (Op.fieldAddr 182 (Operand.tmp 17) 2) 0 (v := ?v2b3) rfl ?h2b3 hH ?_
 case h2b3 => intro _ _; go_simp; try with_reducible rfl
 try simp only [ps]
 refine zk 6 3 [] (some 19) (Op.load 180 (Operand.tmp 18)) 180 (v := ?v3b4) rfl ?h3b4 hH ?_
 case h3b4 => intro _ _; go_simp; try with_reducible rfl
 try simp only [ps]
 refine zk 6 4 [] (some 20) (Op.load 220 (Operand.tmp 3)) 220 (v := ?v4b5) rfl ?h4b5 hH ?_
 case h4b5 => intro _ _; go_simp; try with_reducible rfl
 try simp only [ps]
 refine zk 6 5 [] (some 21) (Op.build 206 #[]) 206 (v := ?v5b6) rfl ?h5b6 hH ?_
 case h5b6 => intro _ _; go_simp; try with_reducible rfl
 try simp only [ps]
 refine anyZ_ready (rs := [6]) (by kernel_rfl) (by simp) ?_
 refine AllZ.last (o := { dst := none, op := Op.mapUpdate 180 (Operand.tmp 19) (Operand.tmp 20) (Operand.tmp 21), type := 0, pos := "repeat.go:75", after := #[{ on := 3, ground := Ground.data }, { on := 4, ground := Ground.data }, { on := 5, ground := Ground.data }, { on := 0, ground := Ground.phase }, { on := 1, ground := Ground.phase }, { on := 2, ground := Ground.phase }, { on := 3, ground := Ground.phase }, { on := 4, ground := Ground.phase }, { on := 5, ground := Ground.phase }], guard := none }) rfl (Or.inl rfl) (fun K hKq => ?_) AllZ.nil
 obtain ⟨wm, hrun, hset, hg⟩ := (B1.out.same (KQ.block B B1.out.lt)).put Tryz.underlying180 t ht.out
 have HSET := hid hset
 have KG := hid ((Kp.kx (S := fun b => b = B) KQ).grown hg (fun k e _ => by injection e with e; exact e.symm))
 clear hset hg
 go_simp
 refine hKq.out _ _ ?_
 clear hrun
 clear hKq K
 try simp only [ps]
 refine anyZ_done (by kernel_rfl) ?_ _
 refine NoPanic.normal ?_
 go_wp2_with fail
 go_ret
 exact ⟨by rw [HQE.out]; rfl, HSET.out.more, (Kp.kx K1.out).trans KG.out⟩
end Go.Proofs.YtnajcnhgeggngaaGreat.Way

/-! ### Alt -/

namespace Go.Proofs.YtnajcnhgeggngaaGreat.Way
set_option maxHeartbeats 2000000
set_option maxRecDepth 100000
open Go.RowKit Go.Proofs.YtnajcnhgeggngaaGreat

abbrev KR (M : Nat → Option Memo) (R : Nat) (w w' : World) : Prop := Kx (fun b => M b ≠ none ∨ b = R) w w'
theorem RowW.new {M : Nat → Option Memo} {O : Nat → Prop} {R h : Nat} {w w' : World} (hM : MemOk M O w) (hh : h < 8) (k : Kp w w') (hR : w.heap.size ≤ R) (hb : w'.heap[R]? = some (roA h (.slice none 0 0) 0 none)) : RowW M O w'.heap.size R h [] (.slice none 0 0) 0 none w' := by
 refine ⟨hb, ⟨hh, SpR.nil _ _, ⟨by decide, fun i hi => ?_⟩, (fun b e => by cases e), List.nodup_nil⟩, ?_⟩
 ·
  constructor
  ·
   intro e
   simp at e
  ·
   rintro ⟨y, hy, _⟩
   cases hy
 ·
  refine hM.keep (S := fun _ => False) (Kp.kx k) (fun _ _ e => e.elim) (fun b hl e => ?_) (fun b e => ?_)
  ·
   rcases e with e | e | e | e
   ·
    exact e
   ·
    omega
   ·
    cases e
   ·
    cases e
  ·
   rcases e with e | e | e | e
   ·
    exact hM.own b e
   ·
    exact hM.lt (by omega)
   ·
    cases e
   ·
    cases e
theorem RowW.spl {M : Nat → Option Memo} {O : Nat → Prop} {base R h : Nat} {xs : List Sp} {lv : Value} {pl : Nat} {sn : Option Nat} {w : World} (q : RowW M O base R h xs lv pl sn w) (hO : ∀ b, O b → b < base) : SpL w (okB M O) lv xs :=
 q.i.row.spl (fun b e => ⟨fun o => by have := (q.i.row.block b e).1; have := hO b o; omega, q.m.own b (Or.inr (Or.inr (Or.inl e)))⟩)
theorem RowW.mem {M : Nat → Option Memo} {O : Nat → Prop} {base R h : Nat} {xs : List Sp} {lv : Value} {pl : Nat} {sn : Option Nat} {w : World} (q : RowW M O base R h xs lv pl sn w) : MemOk M O w :=
 q.m.more (fun _ _ o => Or.inl o) (fun b o => q.m.own b (Or.inl o))
theorem RowW.step {M : Nat → Option Memo} {O : Nat → Prop} {R h : Nat} {xs : List Sp} {lv : Value} {pl : Nat} {sn : Option Nat} {w1 w w' : World} (q : RowW M O w1.heap.size R h xs lv pl sn w) (K : KR M R w1 w) (k : Kx (fun b => M b ≠ none ∨ rowB R lv sn b) w w') : KR M R w1 w' := by
 refine K.past2 k (fun b hb e => ?_)
 rcases e with e | e | e | e
 ·
  exact Or.inl e
 ·
  exact Or.inr e
 ·
  have := (q.i.row.block b e).1; omega
 ·
  have := (q.i.set b e).1; omega
theorem RowW.okb {M : Nat → Option Memo} {O : Nat → Prop} {R h : Nat} {xs : List Sp} {lv : Value} {pl : Nat} {sn : Option Nat} {w0 w1 w : World} (q : RowW M O w1.heap.size R h xs lv pl sn w) (k0 : Kp w0 w1) (hR : w0.heap.size ≤ R) (K : KR M R w1 w) : ∀ b, okB M O b → b < w0.heap.size → okB M (oR O R lv sn) b ∧ w.heap[b]? = w0.heap[b]? := by
 intro b hb hl
 have h01 := k0.size
 refine ⟨⟨fun o => ?_, hb.2⟩, (K.block b (by omega) (fun e => ?_)).trans (k0.block b hl)⟩
 ·
  rcases o with o | o | o | o
  ·
   exact hb.1 o
  ·
   omega
  ·
   have := (q.i.row.block b o).1; omega
  ·
   have := (q.i.set b o).1; omega
 ·
  rcases e with e | e
  ·
   exact e hb.2
  ·
   omega
theorem KR.km {M : Nat → Option Memo} {R : Nat} {w0 w1 w : World} (K : KR M R w1 w) (k0 : Kp w0 w1) (hR : w0.heap.size ≤ R) : Km M w0 w :=
 Kx.past2 (S := fun b => M b ≠ none) (Kp.kx k0) K (fun b hb e => e.elim id (fun e => by omega))
theorem KR.size {M : Nat → Option Memo} {R : Nat} {w0 w1 w : World} (K : KR M R w1 w) (k0 : Kp w0 w1) : w0.heap.size ≤ w.heap.size := Nat.le_trans k0.size (Kx.size K)
theorem walt_any (s : ByteArray) (bol : Bool) (h60 : s.size ≤ 60) (M : Nat → Option Memo) (p : Pt) (HS : ∀ (j : Nat) q, p.kids[j]? = some q → WSaid s bol M q) (HW : WdOk p.kids) (hd8 : p.hd < 8) (hf : p.kids.length ≤ 4398046511104) (O : Nat → Prop) (x : Sp) (hx : x.Ok) (hN : x.In s.size) (w : World) (hO : ∀ b, O b → b < w.heap.size) (hM : MemOk M O w) (hP : PtAt w (okB M O) p) :
  Calls Tryz.prog 83 #[wkv s bol, ptv p.P, spv x] w fun e w' => WaysD (altW s.data.toList bol p.hd p.kids x []) (okB M O) (fun w' => Km M w w' ∧ MemOk M O w') e w' := by
 obtain ⟨k, low, high, n, t, kn, so, kids, ad, c, hp, hokP, hblk, hks, hpts⟩ := hP.form
 have hkk : p.kids = kids := congrArg Pt.kids hp
 rw [hkk] at HS HW hf ⊢
 clear hp hkk hP
 obtain ⟨P, hPP⟩ : ∃ P, p.P = P := ⟨_, rfl⟩
 obtain ⟨h, hh⟩ : ∃ h, p.hd = h := ⟨_, rfl⟩
 rw [hPP] at hblk hokP ⊢
 rw [hh] at hblk hd8 ⊢
 clear hPP hh
 obtain ⟨L, hL⟩ : ∃ L, kids.length = L := ⟨_, rfl⟩
 rw [hL] at hblk hf
 have hcap := hks.cap
 rw [hL] at hcap
 have HL := hid hL
 have HSD := hid HS
 have HWD := hid HW
 have HX := hid hx
 have HN := hid hN
 have HO := hid hO
 have HM := hid hM
 have HP := hid hblk
 have HK := hid hks
 have HPT := hid hpts
 have HPM := hid hokP.2
 obtain ⟨T, hT⟩ : ∃ T, altW s.data.toList bol h kids x [] = T := ⟨_, rfl⟩
 have HT := hid hT
 rw [hT]
 clear hL hx hN hO hM hblk hks hpts hokP HS HW hT
 go_enter Tryz.func83, Tryz.ntmps83
 go_upto_region 1 with fail
 refine opq (fun W0 => W0.heap[w.heap.size]? = some (.cells #[.string s, .bool bol] 70) ∧ W0.heap[(w.heap.size + 1)]? = some (spo x) ∧ W0.heap[P]? = some (pto k low high n t (.slice ad L c) p.rd p.st h kn so) ∧ Kp w W0 ∧ w.heap.size + 2 = W0.heap.size) ⟨by exact bl_alloc (last_of _ _) _, by exact last_at _ _ _ (by simp), by exact bl_kp HP.out kpt, by exact kpt, by simp⟩ ?_
 rintro W0 ⟨xT0, xX0, xP0, xK0, xZ0⟩
 have T0 := hid xT0
 have X0 := hid xX0
 have P0 := hid xP0
 have K0 := hid xK0
 have Z0 := hid xZ0
 clear xT0 xX0 xP0 xK0 xZ0
 obtain ⟨p0, p1, p2, p3, p4, p5, p6, p7, p8, p9, p10, p11, p12, p13⟩ := cells14 (P0.out)
 go_upto_region 2 with fail
 refine opq (fun W1 => W1.heap[W0.heap.size]? = some (roA h (.slice none 0 0) 0 none) ∧ W1.heap[w.heap.size]? = some (.cells #[.string s, .bool bol] 70) ∧ W1.heap[(w.heap.size + 1)]? = some (spo x) ∧ W1.heap[P]? = some (pto k low high n t (.slice ad L c) p.rd p.st h kn so) ∧ Kp w W1) ⟨by exact last_of _ _, by exact bl_alloc T0.out _, by exact bl_alloc X0.out _, by exact bl_alloc P0.out _, by exact K0.out.alloc _⟩ ?_
 rintro W1 ⟨xR1, xT1, xX1, xP1, xK1⟩
 have R1 := hid xR1
 have T1 := hid xT1
 have X1 := hid xX1
 have P1 := hid xP1
 have K1 := hid xK1
 clear xR1 xT1 xX1 xP1 xK1
 clear T0 X0 P0 K0 p0 p1 p2 p3 p4 p5 p6 p7 p8 p9 p10 p11 p12 p13
 have ZR := hid Z0.out
 have RW := hid (RowW.new HM.out hd8 K1.out (R := W0.heap.size) (by have := ZR.out; omega) R1.out)
 have HRW := hid (bl_lt R1.out)
 clear Z0 R1 hd8
 obtain ⟨p0, p1, p2, p3, p4, p5, p6, p7, p8, p9, p10, p11, p12, p13⟩ := cells14 (P1.out)
 go_wp2_with fail
 clear p0 p1 p2 p3 p4 p5 p6 p7 p8 p9 p10 p11 p12 p13
 go_loopg [20] L (fun gg i wr => ∃ (q : Nat) (lv : Value) (pl : Nat) (sn : Option Nat) (ys : List Sp), q + gg = L ∧ i = .int .i64 (q : Int) ∧ RowW M O W1.heap.size W0.heap.size h ys lv pl sn wr ∧ altW s.data.toList bol h (kids.drop q) x ys = T ∧ KR M W0.heap.size W1 wr)
 case atStart => exact ⟨0, _, _, _, [], by omega, rfl, RW.out, HT.out, Kx.refl _ _⟩
 case round =>
  obtain ⟨q, lv, pl, sn, ys, hq, rfl, hR, hA, hK⟩ := hrel
  have R6 := hid hR
  have A6 := hid hA
  have K6 := hid hK
  have T6 := hid (bl_kx T1.out hK (fun e => e.elim (fun e => e (HM.out.lt (Nat.le_refl _))) (fun e => by have := ZR.out; omega)))
  have X6 := hid (bl_kx X1.out hK (fun e => e.elim (fun e => e (HM.out.lt (Nat.le_succ _))) (fun e => by have := ZR.out; omega)))
  have OB := hid (hR.okb K1.out (by have := ZR.out; omega) hK)
  have SZ := hid (hK.size K1.out)
  clear hR hA hK
  by_cases hlt : q < L
  ·
   have gkw : IntKind.i64.wrap ((q : Int) + 1) = (q : Int) + 1 := by rw [IntKind.wrap_i64]; omega
   have ga : (q : Int) < (L : Int) := by omega
   have g0 : (0 : Int) ≤ (q : Int) := by omega
   obtain ⟨kid, hkid⟩ : ∃ kid, kids[q]? = some kid := ⟨_, List.getElem?_eq_getElem (by rw [HL.out]; exact hlt)⟩
   obtain ⟨bb, rfl, -, hbb, hce⟩ := (HK.out.keep SZ.out OB.out).at_ (by rw [HL.out]; omega)
   have cp := hce q kid hkid
   have HTK : Hid (altW s.data.toList bol h (kids.drop (q + 1)) x (walkF (ways s.data.toList bol kid) kid.rd h ys x) = T) := by
    show _ = _
    rw [← A6.out, List.drop_eq_getElem_cons (i := q) (by rw [HL.out]; exact hlt), (List.getElem?_eq_some_iff.1 hkid).2]
    rfl
   have WK := hid (walk_any s bol h60 M kid (HWD.out.get q kid hkid).1 (HSD.out q kid hkid) O W1.heap.size W0.heap.size h pl ys lv sn x HX.out HN.out wr (fun b o => Nat.lt_of_lt_of_le (HO.out b o) SZ.out) HM.out.own R6.out (PtAt.keep SZ.out OB.out kid (HPT.out.get q kid hkid)) HRW.out (Kx.size K6.out))
   clear hce hbb hkid
   have t0 := bl_cell (T6.out) 0 _ rfl
   have t1 := bl_cell (T6.out) 1 _ rfl
   obtain ⟨x0, x1, x2, x3, x4, x5, x6⟩ := cells7 (X6.out)
   go_wp2_with fail
   clear t0 t1 x0 x1 x2 x3 x4 x5 x6 cp
   refine (WK.out).mono ?_
   rintro e yw hd
   obtain ⟨rfl, l2, p2, n2, hr2, -, -, hk2⟩ := hd.ex
   have RC := hid hr2
   have KC := hid (R6.out.step K6.out hk2)
   clear hd hr2 hk2
   go_wp2_with fail
   go_roundg (gk - 1)
   case measure => omega
   case rel => exact ⟨q + 1, l2, p2, n2, _, by omega, by go_num, RC.out, HTK.out, KC.out⟩
  ·
   have ga : ¬ (q : Int) < (L : Int) := by omega
   have HE : Hid (ys = T) := by
    show _ = _
    rw [← A6.out, List.drop_of_length_le (by rw [HL.out]; omega)]
    rfl
   have r1 := bl_cell (R6.out.b) 1 _ rfl
   go_wp2_with fail
   go_ret
   exact ⟨_, rfl, by rw [← HE.out]; exact R6.out.spl (fun b o => Nat.lt_of_lt_of_le (HO.out b o) K1.out.size), K6.out.km K1.out (by have := ZR.out; omega), R6.out.mem⟩
end Go.Proofs.YtnajcnhgeggngaaGreat.Way

/-! ### RepW -/

namespace Go.Proofs.YtnajcnhgeggngaaGreat.Way
open Go.RowKit Go.Proofs.YtnajcnhgeggngaaGreat

abbrev roB (s : ByteArray) (bol : Bool) (P B h : Nat) (lv : Value) (pl : Nat) (sn : Option Nat) : Obj := .cells #[.string s, .bool bol, ptv P, .map (some B), .int .u8 (h : Int), lv, .int .u64 (pl : Int), .map sn] 182
def oRep (O : Nat → Prop) (R B : Nat) (lv : Value) (sn : Option Nat) (b : Nat) : Prop := oR O R lv sn b ∨ b = B
def repB (R B : Nat) (lv : Value) (sn : Option Nat) (b : Nat) : Prop := rowB R lv sn b ∨ b = B
structure RepW (s : ByteArray) (bol : Bool) (P : Nat) (M : Nat → Option Memo) (O : Nat → Prop) (base R B h : Nat) (xs : List Sp) (S : List Turn) (lv : Value) (pl : Nat) (sn : Option Nat) (w : World) : Prop where
 b : w.heap[R]? = some (roB s bol P B h lv pl sn)
 i : RowI base w h xs lv pl sn
 t : TurnsAt w B S
 m : MemOk M (oRep O R B lv sn) w
 rb : R < base
 bb : B < base
 ne : R ≠ B
 le : base ≤ w.heap.size
theorem RepW.own {s : ByteArray} {bol : Bool} {P : Nat} {M : Nat → Option Memo} {O : Nat → Prop} {base R B h : Nat} {xs : List Sp} {S : List Turn} {lv : Value} {pl : Nat} {sn : Option Nat} {w : World} (q : RepW s bol P M O base R B h xs S lv pl sn w) : ∀ b, repB R B lv sn b → M b = none := fun b e => q.m.own b (e.elim (fun e => Or.inl (Or.inr e)) Or.inr)
theorem RepW.km {s : ByteArray} {bol : Bool} {P : Nat} {M : Nat → Option Memo} {O : Nat → Prop} {base R B h : Nat} {xs : List Sp} {S : List Turn} {lv : Value} {pl : Nat} {sn : Option Nat} {w w' : World} (q : RepW s bol P M O base R B h xs S lv pl sn w) (k : Km M w w') (hm : MemOk M (oRep O R B lv sn) w') : RepW s bol P M O base R B h xs S lv pl sn w' := by
 have off : ∀ b, b < w.heap.size → repB R B lv sn b → w'.heap[b]? = w.heap[b]? := fun b hl hb => k.block b hl (fun e => e (q.own b hb))
 exact ⟨(off R (bl_lt q.b) (Or.inl (Or.inl rfl))).trans q.b, q.i.turn (fun b hl hb => off b hl (Or.inl (hb.elim (fun e => Or.inr (Or.inl e)) (fun e => Or.inr (Or.inr e))))), q.t.same (off B q.t.lt (Or.inr rfl)), hm, q.rb, q.bb, q.ne, Nat.le_trans q.le k.size⟩
theorem RepW.kp {s : ByteArray} {bol : Bool} {P : Nat} {M : Nat → Option Memo} {O : Nat → Prop} {base R B h : Nat} {xs : List Sp} {S : List Turn} {lv : Value} {pl : Nat} {sn : Option Nat} {w w' : World} (q : RepW s bol P M O base R B h xs S lv pl sn w) (k : Kp w w') : RepW s bol P M O base R B h xs S lv pl sn w' :=
 q.km (Kp.kx k) (q.m.keep (S := fun _ => False) (Kp.kx k) (fun _ _ e => e.elim) (fun _ _ e => e) q.m.own)
theorem RepW.turn {s : ByteArray} {bol : Bool} {P : Nat} {M : Nat → Option Memo} {O : Nat → Prop} {base R B h : Nat} {xs : List Sp} {S S' : List Turn} {lv : Value} {pl : Nat} {sn : Option Nat} {w w' : World} (q : RepW s bol P M O base R B h xs S lv pl sn w) (k : Kx (fun b => b = B) w w') (ht : TurnsAt w' B S') : RepW s bol P M O base R B h xs S' lv pl sn w' := by
 have hl := q.t.lt
 refine ⟨(k.block R (bl_lt q.b) q.ne).trans q.b, q.i.turn (fun b hl hb => k.block b hl (fun e => ?_)), ht, q.m.keep k (fun b _ e => Or.inr e) (fun _ _ e => e) q.m.own, q.rb, q.bb, q.ne, Nat.le_trans q.le k.size⟩
 have := q.bb
 rcases hb with hb | hb
 ·
  have := (q.i.row.block b hb).1; omega
 ·
  have := (q.i.set b hb).1; omega
theorem RepW.add {s : ByteArray} {bol : Bool} {P : Nat} {M : Nat → Option Memo} {O : Nat → Prop} {base R B h : Nat} {xs : List Sp} {S : List Turn} {x : Sp} {lv : Value} {pl : Nat} {sn : Option Nat} {w w' : World} {e : Ending} (q : RepW s bol P M O base R B h xs S lv pl sn w) (d : AddD (roB s bol P B h) base h xs x lv sn R w e w') :
  e = .returned (.tuple #[]) ∧ ∃ lv' pl' sn', RepW s bol P M O base R B h (addL h xs x) S lv' pl' sn' w' ∧ (∀ b, lv'.ownBlock = some b → lv.ownBlock = some b ∨ w.heap.size ≤ b) ∧ (∀ b, sn' = some b → sn = some b ∨ w.heap.size ≤ b) ∧ Kx (rowB R lv sn) w w' := by
 obtain ⟨he, lv', pl', sn', h1, h2, h3, h4, h5⟩ := d.ex
 have hB : ¬ rowB R lv sn B := by
  have := q.bb
  rintro (e | e | e)
  ·
   exact q.ne e.symm
  ·
   have := (q.i.row.block B e).1; omega
  ·
   have := (q.i.set B e).1; omega
 refine ⟨he, lv', pl', sn', ⟨h1, h2, q.t.same (h5.block B q.t.lt hB), q.m.keep (S := rowB R lv sn) h5 (fun b _ e => Or.inl (Or.inr e)) (fun b hl e => ?_) (fun b e => ?_), q.rb, q.bb, q.ne, Nat.le_trans q.le h5.size⟩, h3, h4, h5⟩
 ·
  rcases e with (e | e | e | e) | e
  ·
   exact Or.inl (Or.inl e)
  ·
   exact Or.inl (Or.inr (Or.inl e))
  ·
   rcases h3 b e with e | e
   ·
    exact Or.inl (Or.inr (Or.inr (Or.inl e)))
   ·
    omega
  ·
   rcases h4 b e with e | e
   ·
    exact Or.inl (Or.inr (Or.inr (Or.inr e)))
   ·
    omega
  ·
   exact Or.inr e
 ·
  rcases e with (e | e | e | e) | e
  ·
   exact q.m.own b (Or.inl (Or.inl e))
  ·
   exact q.own b (Or.inl (Or.inl e))
  ·
   rcases h3 b e with e | e
   ·
    exact q.own b (Or.inl (Or.inr (Or.inl e)))
   ·
    exact q.m.lt e
  ·
   rcases h4 b e with e | e
   ·
    exact q.own b (Or.inl (Or.inr (Or.inr e)))
   ·
    exact q.m.lt e
  ·
   exact q.own b (Or.inr e)
theorem RepW.new {s : ByteArray} {bol : Bool} {P : Nat} {M : Nat → Option Memo} {O : Nat → Prop} {R B h : Nat} {w w' : World} (hM : MemOk M O w) (hh : h < 8) (k : Kp w w') (hR : w.heap.size ≤ R) (hB : w.heap.size ≤ B) (hne : R ≠ B) (hb : w'.heap[R]? = some (roB s bol P B h (.slice none 0 0) 0 none)) (ht : TurnsAt w' B []) : RepW s bol P M O w'.heap.size R B h [] [] (.slice none 0 0) 0 none w' := by
 refine ⟨hb, ⟨hh, SpR.nil _ _, ⟨by decide, fun i hi => ?_⟩, (fun b e => by cases e), List.nodup_nil⟩, ht, ?_, bl_lt hb, ht.lt, hne, Nat.le_refl _⟩
 ·
  constructor
  ·
   intro e
   simp at e
  ·
   rintro ⟨y, hy, _⟩
   cases hy
 ·
  refine hM.keep (S := fun _ => False) (Kp.kx k) (fun _ _ e => e.elim) (fun b hl e => ?_) (fun b e => ?_)
  ·
   rcases e with (e | e | e | e) | e
   ·
    exact e
   ·
    omega
   ·
    cases e
   ·
    cases e
   ·
    omega
  ·
   rcases e with (e | e | e | e) | e
   ·
    exact hM.own b e
   ·
    exact hM.lt (by omega)
   ·
    cases e
   ·
    cases e
   ·
    exact hM.lt (by omega)
theorem RepW.spl {s : ByteArray} {bol : Bool} {P : Nat} {M : Nat → Option Memo} {O : Nat → Prop} {base R B h : Nat} {xs : List Sp} {S : List Turn} {lv : Value} {pl : Nat} {sn : Option Nat} {w : World} (q : RepW s bol P M O base R B h xs S lv pl sn w) (hO : ∀ b, O b → b < base) : SpL w (okB M O) lv xs :=
 q.i.row.spl (fun b e => ⟨fun o => by have := (q.i.row.block b e).1; have := hO b o; omega, q.own b (Or.inl (Or.inr (Or.inl e)))⟩)
theorem RepW.mem {s : ByteArray} {bol : Bool} {P : Nat} {M : Nat → Option Memo} {O : Nat → Prop} {base R B h : Nat} {xs : List Sp} {S : List Turn} {lv : Value} {pl : Nat} {sn : Option Nat} {w : World} (q : RepW s bol P M O base R B h xs S lv pl sn w) : MemOk M O w :=
 q.m.more (fun _ _ o => Or.inl (Or.inl o)) (fun b o => q.m.own b (Or.inl (Or.inl o)))
abbrev KB (M : Nat → Option Memo) (R B : Nat) (w w' : World) : Prop := Kx (fun b => M b ≠ none ∨ b = R ∨ b = B) w w'
theorem RepW.okb {s : ByteArray} {bol : Bool} {P : Nat} {M : Nat → Option Memo} {O : Nat → Prop} {R B h : Nat} {xs : List Sp} {S : List Turn} {lv : Value} {pl : Nat} {sn : Option Nat} {w0 w1 w : World} (q : RepW s bol P M O w1.heap.size R B h xs S lv pl sn w) (k0 : Kp w0 w1) (hR : w0.heap.size ≤ R) (hB : w0.heap.size ≤ B) (K : KB M R B w1 w) : ∀ b, okB M O b → b < w0.heap.size → okB M (oRep O R B lv sn) b ∧ w.heap[b]? = w0.heap[b]? := by
 intro b hb hl
 have h01 := k0.size
 refine ⟨⟨fun o => ?_, hb.2⟩, (K.block b (by omega) (fun e => ?_)).trans (k0.block b hl)⟩
 ·
  rcases o with (o | o | o | o) | o
  ·
   exact hb.1 o
  ·
   omega
  ·
   have := (q.i.row.block b o).1; omega
  ·
   have := (q.i.set b o).1; omega
  ·
   omega
 ·
  rcases e with e | e | e
  ·
   exact e hb.2
  ·
   omega
  ·
   omega
end Go.Proofs.YtnajcnhgeggngaaGreat.Way

/-! ### Unb -/

namespace Go.Proofs.YtnajcnhgeggngaaGreat.Way
set_option maxHeartbeats 2000000
set_option maxRecDepth 100000
open Go.RowKit Go.Proofs.YtnajcnhgeggngaaGreat Go.Maps

theorem SoAt.at {w : World} {ok : Nat → Prop} {v : Value} {hd : Nat} {all : List Sp} (h : SoAt w ok v hd all) : ∃ S lv f, v = .pointer (some ⟨S, 0, none⟩) ∧ ok S ∧ w.heap[S]? = some (sob lv f) ∧ SpL w ok lv all ∧ ∀ i, i < 8 → NuL w ok (f i) (placesOf hd all i) := by
 obtain ⟨S, lv, p0, p1, p2, p3, p4, p5, p6, p7, h1, h2, h3, h4, ⟨a0, a1, a2, a3⟩, a4, a5, a6, a7⟩ := h.ex
 refine ⟨S, lv, fun i => if i = 0 then p0 else if i = 1 then p1 else if i = 2 then p2 else if i = 3 then p3 else if i = 4 then p4 else if i = 5 then p5 else if i = 6 then p6 else p7, h1, h2, h3, h4, fun i hi => ?_⟩
 rcases lt8 hi with rfl | rfl | rfl | rfl | rfl | rfl | rfl | rfl <;> assumption
theorem wpList_append_nu2 {ops : Array Oper} {rest : List Oper} {o : Oper} {a : Act} {Q : Exit → Act → World → Prop} (w : World) (hgd : o.guard = none) (s y : Operand)
  (ho : o.op = .call { callee := .builtin .append, args := #[s, y], argTypes := #[40, 40] })
  (base : Nat) (v : Value) (xs ys : List Nat) (hs : a.eval s = v) (B N c : Nat) (hy : a.eval y = .slice (some ⟨B, 0, none⟩) N c) (hN : Hid (ys.length = N)) (hG : Hid (NuR base w v xs)) (hB : Hid (∀ (j : Nat) y, ys[j]? = some y → w.cell? ⟨B, j, none⟩ = some (nuc y))) (hn : xs.length + N ≤ 5000000000000) (hb : base ≤ w.heap.size)
  (h : ∀ v' w', MoreN base w v xs ys v' w' → wpList Tryz.prog ops Q rest (a.put o.dst v') w') :
  wpList Tryz.prog ops Q (o :: rest) a w := by
 have e := hN.out
 subst e
 exact wpList_append_nu w hgd s y ho base v xs ys hs B c hy hG hB hn hb h
structure UnbD (rdp hd : Nat) (all : List Sp) (n : Int) (x : Sp) (bg : List Turn) (B : Nat) (w : World) (e : Ending) (w' : World) : Prop where
 ex : ∃ v, e = .returned v ∧ NuL w' (fun b => w.heap.size ≤ b) v (unbL hd all (newCls rdp all hd n x bg).1) ∧ TurnsAt w' B (newCls rdp all hd n x bg).2 ∧ Kx (fun b => b = B) w w'
theorem unbegun_any (s : ByteArray) (bol : Bool) (P R B h pl : Nat) (lv : Value) (sn : Option Nat) (k low high nn : Int) (t : W4) (kv : Value) (rdp st0 hp : Nat) (kn so : Option Nat) (hrd : rdp < 8) (hd : Nat) (all : List Sp) (av : Value) (ok : Nat → Prop) (hok : ∀ b, ok b → b ≠ B) (hfew : all.length ≤ 4398046511104) (n : Int) (hn0 : 0 ≤ n) (hn1 : n ≤ 100) (x : Sp) (hx : x.Ok) (bg : List Turn) (w : World) (hA : SoAt w ok av hd all) (hR : w.heap[R]? = some (roB s bol P B h lv pl sn)) (hRB : R ≠ B) (hP : w.heap[P]? = some (pto k low high nn t kv rdp st0 hp kn so)) (hPB : P ≠ B) (hB : TurnsAt w B bg) :
  Calls Tryz.prog 135 #[.pointer (some ⟨R, 0, none⟩), av, .int .i64 n, spv x] w fun e w' => UnbD rdp hd all n x bg B w e w' := by
 obtain ⟨S, lv2, f, rfl, hS, hSb, -, hnu⟩ := hA.at
 have HRD := hid hrd
 have HOK := hid hok
 have HFEW := hid hfew
 have HN0 := hid hn0
 have HN1 := hid hn1
 have HX := hid hx
 have HSB := hid hSb
 have HSO := hid (hok S hS)
 have HNU := hid hnu
 have HR := hid hR
 have HRB := hid hRB
 have HP := hid hP
 have HPB := hid hPB
 have HB := hid hB
 clear hrd hok hfew hn0 hn1 hx hSb hS hnu hA hR hRB hP hPB hB
 go_enter Tryz.func135, Tryz.ntmps135
 go_upto_region 1 with fail
 refine opq (fun W0 => W0.heap[w.heap.size]? = some (spo x) ∧ Kp w W0) ⟨by exact last_of _ _, by exact kpt⟩ ?_
 rintro W0 ⟨xX0, xK0⟩
 have X0 := hid xX0
 have K0 := hid xK0
 clear xX0 xK0
 have HBS := hid (show B < W0.heap.size from Nat.lt_of_lt_of_le HB.out.lt K0.out.size)
 have HXB := hid (show w.heap.size ≠ B from fun e => by have := HB.out.lt; omega)
 go_wp2_with fail
 go_loopg [9, 13] 8 (fun gg v i wr => ∃ (q : Nat) (st : List Nat × List Turn), q + gg = 8 ∧ i = .int .i64 (q : Int) ∧ (List.range q).foldl (begS rdp all hd n x) ([], bg) = st ∧ NuR W0.heap.size wr v (st.1.flatMap (placesOf hd all)) ∧ TurnsAt wr B st.2 ∧ Kx (fun b => b = B) W0 wr)
 case atStart => exact ⟨0, ([], bg), by omega, rfl, rfl, NuR.nil _ _, HB.out.same (K0.out.block B HB.out.lt), Kx.refl _ _⟩
 case round =>
  obtain ⟨q, st, hq, rfl, hst, hN, hT, hK⟩ := hrel
  have HST := hid hst
  have N6 := hid hN
  have T6 := hid hT
  have K6 := hid hK
  have KW := hid ((Kp.kx (S := fun b => b = B) K0.out).trans hK)
  have X6 := hid (bl_kx X0.out hK HXB.out)
  have R6 := hid (bl_kx HR.out KW.out HRB.out)
  have P6 := hid (bl_kx HP.out KW.out HPB.out)
  have S6 := hid (bl_kx HSB.out KW.out HSO.out)
  have HSEL := hid (show st.1.Nodup ∧ ∀ i ∈ st.1, i < q from by rw [← hst]; exact newCls_lt bg q)
  have HLEN := hid (show (st.1.flatMap (placesOf hd all)).length ≤ 4398046511104 from Nat.le_trans (flat_len hd all st.1 HSEL.out.1) HFEW.out)
  clear hst hN hT hK
  by_cases hlt : q < 8
  ·
   have gkw : IntKind.i64.wrap ((q : Int) + 1) = (q : Int) + 1 := by rw [IntKind.wrap_i64]; omega
   have ga : (q : Int) < 8 := by omega
   have g0 : (0 : Int) ≤ (q : Int) := by omega
   have gku : IntKind.u8.wrap (q : Int) = (q : Int) := by rw [IntKind.wrap_u8]; omega
   obtain ⟨pad, pc, hpv, hpc, hpe⟩ := ((HNU.out q hlt).keep (ok' := fun b => b ≠ B) KW.out.size (fun b hb hl => ⟨HOK.out b hb, KW.out.block b hl (HOK.out b hb)⟩)).ex
   obtain ⟨PL, hPL⟩ : ∃ PL, (placesOf hd all q).length = PL := ⟨_, rfl⟩
   have HPLN := hid hPL
   have HPLL := hid (show PL ≤ 4398046511104 from by rw [← hPL]; exact Nat.le_trans (plq_len hd all all.length q) HFEW.out)
   rw [hPL] at hpv hpc hpe
   have c1 : wr.cell? ⟨S, 1 + q, none⟩ = some (.slice pad PL pc) := by rw [← hpv]; exact sob_cell S6.out hlt
   have HPE := hid hpe
   clear hpv hpe
   go_upto_region 6 with fail
   clear c1
   by_cases hp0 : 0 < PL
   ·
    have gpos : (0 : Int) < (PL : Int) := by omega
    obtain ⟨pb, rfl, hpB, hpl, hpcell⟩ := HPE.out hp0
    have HPBB := hid hpB
    have HPL2 := hid hpl
    have HPC := hid hpcell
    have hany := (places_any hd all q).1 (by rw [hPL]; exact hp0)
    clear hpB hpl hpcell hPL
    have OA := hid (fun W => only_any x (q ||| rdp) (or8 q rdp hlt HRD.out) W)
    have gor : bits .or .u8 (q : Int) (rdp : Int) = ((q ||| rdp : Nat) : Int) := u8_or q rdp hlt HRD.out
    have gkn : IntKind.i8.wrap n = n := by have := HN0.out; have := HN1.out; rw [wrap_i8]; omega
    have HTO := hid (show Turn.Ok ⟨n, q, x.only (q ||| rdp)⟩ from ⟨HN0.out, HN1.out, hlt, HX.out.only _⟩)
    have HL2 := hid (show (st.1.flatMap (placesOf hd all)).length + PL ≤ 4398046511104 from by
     have h := flat_len hd all (st.1 ++ [q]) (List.nodup_append.2 ⟨HSEL.out.1, List.pairwise_singleton _ _, fun a ha b hb => by have := HSEL.out.2 a ha; rw [List.mem_singleton.1 hb]; omega⟩)
     rw [List.flatMap_append, List.flatMap_singleton, List.length_append, HPLN.out] at h
     exact Nat.le_trans h HFEW.out)
    cases hcb : st.2.contains ⟨n, q, x.only (q ||| rdp)⟩ with
    | true =>
     have HCB := hid hcb
     have HB0 : Hid (begS rdp all hd n x st q = st) := by show _ = _; unfold begS; rw [if_pos hany, hcb]; rfl
     clear hcb hany
     have Q0 : Kx (fun b => b = B) wr wr.drew := (Kx.refl _ _).drew
     have MK : Hid (∀ W, Kx (fun b => b = B) wr W → W.cell? ⟨w.heap.size, 0, none⟩ = some (.int .i8 x.a) ∧ W.cell? ⟨w.heap.size, 1, none⟩ = some (.int .i8 x.f0) ∧ W.cell? ⟨w.heap.size, 2, none⟩ = some (.int .i8 x.t0) ∧ W.cell? ⟨w.heap.size, 3, none⟩ = some (.int .i8 x.f1) ∧ W.cell? ⟨w.heap.size, 4, none⟩ = some (.int .i8 x.t1) ∧ W.cell? ⟨w.heap.size, 5, none⟩ = some (.int .i8 x.f2) ∧ W.cell? ⟨w.heap.size, 6, none⟩ = some (.int .i8 x.t2) ∧ W.cell? ⟨R, 2, none⟩ = some (ptv P) ∧ W.cell? ⟨P, 9, none⟩ = some (.int .u8 (rdp : Int)) ∧ Hid (Kx (fun b => b = B) wr W)) := fun W k => ⟨bl_cell (bl_kx X6.out k HXB.out) 0 _ rfl, bl_cell (bl_kx X6.out k HXB.out) 1 _ rfl, bl_cell (bl_kx X6.out k HXB.out) 2 _ rfl, bl_cell (bl_kx X6.out k HXB.out) 3 _ rfl, bl_cell (bl_kx X6.out k HXB.out) 4 _ rfl, bl_cell (bl_kx X6.out k HXB.out) 5 _ rfl, bl_cell (bl_kx X6.out k HXB.out) 6 _ rfl, bl_cell (bl_kx R6.out k HRB.out) 2 _ rfl, bl_cell (bl_kx P6.out k HPB.out) 9 _ rfl, k⟩
     refine wp_region_noPanic ?_
     refine hdrew MK Q0 (fun hH => ?_)
     have KQ := Q0
     refine tk 0 (some 24) (Op.move (Operand.tmp 11)) 40 (v := ?v0a1) rfl ?h0a1 hH ?_
     case h0a1 => intro _ _; go_simp; try with_reducible rfl
     try simp only [ps]
     refine tk 1 (some 25) (Op.call { callee := Callee.builtin Builtin.len, args := #[Operand.tmp 24], argTypes := #[40] }) 3 (v := ?v1a2) rfl ?h1a2 hH ?_
     case h1a2 => intro _ _; go_simp; try with_reducible rfl
     try simp only [ps]
     refine tk 2 (some 26) (Op.binOp BinOp.gtr 3 (Operand.tmp 25) (Operand.const (Value.int IntKind.i64 0)) 3) 4 (v := ?v2a3) rfl ?h2a3 hH ?_
     case h2a3 => intro _ _; go_simp; try with_reducible rfl
     try simp only [ps]
     refine tk 3 (some 27) (Op.move (Operand.tmp 26)) 4 (v := ?v3a4) rfl ?h3a4 hH ?_
     case h3a4 => intro _ _; go_simp; try with_reducible rfl
     try simp only [ps]
     refine tk 4 (some 28) (Op.move (Operand.tmp 0)) 198 (v := ?v4a5) rfl ?h4a5 hH ?_
     case h4a5 => intro _ _; go_simp; try with_reducible rfl
     try simp only [ps]
     refine tk 5 (some 29) (Op.move (Operand.tmp 2)) 3 (v := ?v5a6) rfl ?h5a6 hH ?_
     case h5a6 => intro _ _; go_simp; try with_reducible rfl
     try simp only [ps]
     refine tk 6 (some 30) (Op.convert 3 78 (Operand.tmp 29)) 78 (v := ?v6a7) rfl ?h6a7 hH ?_
     case h6a7 => intro _ _; go_simp; try with_reducible rfl
     try simp only [ps]
     refine tk 7 (some 31) (Op.move (Operand.tmp 12)) 75 (v := ?v7a8) rfl ?h7a8 hH ?_
     case h7a8 => intro _ _; go_simp; try with_reducible rfl
     try simp only [ps]
     refine tk 8 (some 32) (Op.load 83 (Operand.tmp 7)) 83 (v := ?v8a9) rfl ?h8a9 hH ?_
     case h8a9 => intro _ _; go_simp; try with_reducible rfl
     try simp only [ps]
     refine tk 9 (some 33) (Op.move (Operand.tmp 12)) 75 (v := ?v9a10) rfl ?h9a10 hH ?_
     case h9a10 => intro _ _; go_simp; try with_reducible rfl
     try simp only [ps]
     refine tk 10 (some 34) (Op.move (Operand.tmp 0)) 198 (v := ?v10a11) rfl ?h10a11 hH ?_
     case h10a11 => intro _ _; go_simp; try with_reducible rfl
     try simp only [ps]
     refine tk 11 (some 35) (Op.nilCheck (Operand.tmp 34)) 0 (v := ?v11a12) rfl ?h11a12 hH ?_
     case h11a12 => intro _ _; go_simp; try with_reducible rfl
     try simp only [ps]
     refine tk 12 (some 36) (Op.fieldAddr 182 (Operand.tmp 35) 1) 0 (v := ?v12a13) rfl ?h12a13 hH ?_
     case h12a13 => intro _ _; go_simp; try with_reducible rfl
     try simp only [ps]
     refine tk 13 (some 37) (Op.load 71 (Operand.tmp 36)) 71 (v := ?v13a14) rfl ?h13a14 hH ?_
     case h13a14 => intro _ _; go_simp; try with_reducible rfl
     try simp only [ps]
     refine tk 14 (some 38) (Op.nilCheck (Operand.tmp 37)) 0 (v := ?v14a15) rfl ?h14a15 hH ?_
     case h14a15 => intro _ _; go_simp; try with_reducible rfl
     try simp only [ps]
     refine tk 15 (some 39) (Op.fieldAddr 130 (Operand.tmp 38) 6) 0 (v := ?v15a16) rfl ?h15a16 hH ?_
     case h15a16 => intro _ _; go_simp; try with_reducible rfl
     try simp only [ps]
     refine tk 16 (some 40) (Op.fieldAddr 126 (Operand.tmp 39) 0) 0 (v := ?v16a17) rfl ?h16a17 hH ?_
     case h16a17 => intro _ _; go_simp; try with_reducible rfl
     try simp only [ps]
     refine tk 17 (some 41) (Op.load 75 (Operand.tmp 40)) 75 (v := ?v17a18) rfl ?h17a18 hH ?_
     case h17a18 => intro _ _; go_simp; try with_reducible rfl
     try simp only [ps]
     refine tk 18 (some 42) (Op.binOp BinOp.or 75 (Operand.tmp 33) (Operand.tmp 41) 75) 75 (v := ?v18a19) rfl ?h18a19 hH ?_
     case h18a19 => intro _ _; go_simp; try with_reducible rfl
     try simp only [ps]
     refine wpAnyH_ready (rs := [19]) (by kernel_rfl) (by simp) ?_
     refine AllReadyH.cons (o := { dst := some 43, op := Op.call { callee := Callee.value (Operand.func 55), args := #[Operand.tmp 32, Operand.tmp 42], argTypes := #[83, 75] }, type := 83, pos := "repeat.go:64", after := #[{ on := 8, ground := Ground.data }, { on := 18, ground := Ground.data }, { on := 3, ground := Ground.chain }, { on := 3, ground := Ground.guard }], guard := some (3, true) }) rfl (fun K hKq => ?_) AllReadyH.nil
     go_simp
     refine (OA.out _).mono ?_
     rintro e yy ⟨rfl, kq⟩
     have BY := hid (T6.out.same (w' := yy) (kq.block B T6.out.lt))
     have RY := hid ((kq.block R (bl_lt R6.out)).trans R6.out)
     refine hKq.out _ _ (MK.out _ (KQ.then kq)) (fun hN => ?_)
     clear kq
     clear hKq K hH KQ
     have hH := hN
     clear hN
     have KQ := hH.2.2.2.2.2.2.2.2.2.out
     try simp only [ps]
     refine tk 20 (some 44) (Op.build 220 #[(0, Operand.tmp 30), (1, Operand.tmp 31), (2, Operand.tmp 43)]) 220 (v := ?v20a20) rfl ?h20a20 hH ?_
     case h20a20 => intro _ _; go_simp; try with_reducible rfl
     try simp only [ps]
     refine wpAnyH_ready (rs := [21]) (by kernel_rfl) (by simp) ?_
     refine AllReadyH.cons (o := { dst := some 45, op := Op.call { callee := Callee.value (Operand.func 142), args := #[Operand.tmp 28, Operand.tmp 44], argTypes := #[198, 220] }, type := 4, pos := "repeat.go:64", after := #[{ on := 4, ground := Ground.data }, { on := 20, ground := Ground.data }, { on := 19, ground := Ground.chain }, { on := 3, ground := Ground.guard }], guard := some (3, true) }) rfl (fun K hKq => ?_) AllReadyH.nil
     go_simp
     refine (begins_any R B h pl lv (.string s) (.bool bol) (ptv P) sn ⟨n, q, x.only (q ||| rdp)⟩ HTO.out st.2 _ RY.out BY.out).mono ?_
     rintro e y2 hd0
     obtain ⟨he, ht2, hk2⟩ := hd0.ex
     rw [HCB.out] at he ht2
     subst he
     have TY : Hid (TurnsAt y2 B st.2) := by rw [if_pos rfl] at ht2; exact ht2
     have HK2 := hid hk2
     clear hd0 ht2 hk2
     refine hKq.out _ _ (MK.out _ (KQ.trans HK2.out)) (fun hN => ?_)
     clear hKq K hH KQ
     have hH := hN
     clear hN
     have KQ := hH.2.2.2.2.2.2.2.2.2.out
     try simp only [ps]
     refine tk 22 (some 46) (Op.pick (Operand.tmp 27) (Operand.tmp 45) (Operand.const (Value.bool false))) 4 (v := ?v22a21) rfl ?h22a21 hH ?_
     case h22a21 => intro _ _; go_simp; try with_reducible rfl
     try simp only [ps]
     refine wpAnyH_done (by kernel_rfl) ?_ _
     refine NoPanic.normal ?_
     have KF := hid KQ
     go_wp2_with fail
     go_roundg (gk - 1)
     case measure => omega
     case rel => exact ⟨q + 1, st, by omega, by go_num, by rw [newCls_step, HST.out]; exact HB0.out, N6.out.turn (fun b hb hl => KF.out.block b hl (fun e => by have := (N6.out.block b hb).1; have := HBS.out; omega)), TY.out, K6.out.trans KF.out⟩
    | false =>
     have HCB := hid hcb
     have HB0 : Hid (begS rdp all hd n x st q = (st.1 ++ [q], st.2 ++ [⟨n, q, x.only (q ||| rdp)⟩])) := by show _ = _; unfold begS; rw [if_pos hany, hcb]; rfl
     clear hcb hany
     have Q0 : Kx (fun b => b = B) wr wr.drew := (Kx.refl _ _).drew
     have MK : Hid (∀ W, Kx (fun b => b = B) wr W → W.cell? ⟨w.heap.size, 0, none⟩ = some (.int .i8 x.a) ∧ W.cell? ⟨w.heap.size, 1, none⟩ = some (.int .i8 x.f0) ∧ W.cell? ⟨w.heap.size, 2, none⟩ = some (.int .i8 x.t0) ∧ W.cell? ⟨w.heap.size, 3, none⟩ = some (.int .i8 x.f1) ∧ W.cell? ⟨w.heap.size, 4, none⟩ = some (.int .i8 x.t1) ∧ W.cell? ⟨w.heap.size, 5, none⟩ = some (.int .i8 x.f2) ∧ W.cell? ⟨w.heap.size, 6, none⟩ = some (.int .i8 x.t2) ∧ W.cell? ⟨R, 2, none⟩ = some (ptv P) ∧ W.cell? ⟨P, 9, none⟩ = some (.int .u8 (rdp : Int)) ∧ Hid (Kx (fun b => b = B) wr W)) := fun W k => ⟨bl_cell (bl_kx X6.out k HXB.out) 0 _ rfl, bl_cell (bl_kx X6.out k HXB.out) 1 _ rfl, bl_cell (bl_kx X6.out k HXB.out) 2 _ rfl, bl_cell (bl_kx X6.out k HXB.out) 3 _ rfl, bl_cell (bl_kx X6.out k HXB.out) 4 _ rfl, bl_cell (bl_kx X6.out k HXB.out) 5 _ rfl, bl_cell (bl_kx X6.out k HXB.out) 6 _ rfl, bl_cell (bl_kx R6.out k HRB.out) 2 _ rfl, bl_cell (bl_kx P6.out k HPB.out) 9 _ rfl, k⟩
     refine wp_region_noPanic ?_
     refine hdrew MK Q0 (fun hH => ?_)
     have KQ := Q0
     refine tk 0 (some 24) (Op.move (Operand.tmp 11)) 40 (v := ?v0b1) rfl ?h0b1 hH ?_
     case h0b1 => intro _ _; go_simp; try with_reducible rfl
     try simp only [ps]
     refine tk 1 (some 25) (Op.call { callee := Callee.builtin Builtin.len, args := #[Operand.tmp 24], argTypes := #[40] }) 3 (v := ?v1b2) rfl ?h1b2 hH ?_
     case h1b2 => intro _ _; go_simp; try with_reducible rfl
     try simp only [ps]
     refine tk 2 (some 26) (Op.binOp BinOp.gtr 3 (Operand.tmp 25) (Operand.const (Value.int IntKind.i64 0)) 3) 4 (v := ?v2b3) rfl ?h2b3 hH ?_
     case h2b3 => intro _ _; go_simp; try with_reducible rfl
     try simp only [ps]
     refine tk 3 (some 27) (Op.move (Operand.tmp 26)) 4 (v := ?v3b4) rfl ?h3b4 hH ?_
     case h3b4 => intro _ _; go_simp; try with_reducible rfl
     try simp only [ps]
     refine tk 4 (some 28) (Op.move (Operand.tmp 0)) 198 (v := ?v4b5) rfl ?h4b5 hH ?_
     case h4b5 => intro _ _; go_simp; try with_reducible rfl
     try simp only [ps]
     refine tk 5 (some 29) (Op.move (Operand.tmp 2)) 3 (v := ?v5b6) rfl ?h5b6 hH ?_
     case h5b6 => intro _ _; go_simp; try with_reducible rfl
     try simp only [ps]
     refine tk 6 (some 30) (Op.convert 3 78 (Operand.tmp 29)) 78 (v := ?v6b7) rfl ?h6b7 hH ?_
     case h6b7 => intro _ _; go_simp; try with_reducible rfl
     try simp only [ps]
     refine tk 7 (some 31) (Op.move (Operand.tmp 12)) 75 (v := ?v7b8) rfl ?h7b8 hH ?_
     case h7b8 => intro _ _; go_simp; try with_reducible rfl
     try simp only [ps]
     refine tk 8 (some 32) (Op.load 83 (Operand.tmp 7)) 83 (v := ?v8b9) rfl ?h8b9 hH ?_
     case h8b9 => intro _ _; go_simp; try with_reducible rfl
     try simp only [ps]
     refine tk 9 (some 33) (Op.move (Operand.tmp 12)) 75 (v := ?v9b10) rfl ?h9b10 hH ?_
     case h9b10 => intro _ _; go_simp; try with_reducible rfl
     try simp only [ps]
     refine tk 10 (some 34) (Op.move (Operand.tmp 0)) 198 (v := ?v10b11) rfl ?h10b11 hH ?_
     case h10b11 => intro _ _; go_simp; try with_reducible rfl
     try simp only [ps]
     refine tk 11 (some 35) (Op.nilCheck (Operand.tmp 34)) 0 (v := ?v11b12) rfl ?h11b12 hH ?_
     case h11b12 => intro _ _; go_simp; try with_reducible rfl
     try simp only [ps]
     refine tk 12 (some 36) (Op.fieldAddr 182 (Operand.tmp 35) 1) 0 (v := ?v12b13) rfl ?h12b13 hH ?_
     case h12b13 => intro _ _; go_simp; try with_reducible rfl
     try simp only [ps]
     refine tk 13 (some 37) (Op.load 71 (Operand.tmp 36)) 71 (v := ?v13b14) rfl ?h13b14 hH ?_
     case h13b14 => intro _ _; go_simp; try with_reducible rfl
     try simp only [ps]
     refine tk 14 (some 38) (Op.nilCheck (Operand.tmp 37)) 0 (v := ?v14b15) rfl ?h14b15 hH ?_
     case h14b15 => intro _ _; go_simp; try with_reducible rfl
     try simp only [ps]
     refine tk 15 (some 39) (Op.fieldAddr 130 (Operand.tmp 38) 6) 0 (v := ?v15b16) rfl ?h15b16 hH ?_
     case h15b16 => intro _ _; go_simp; try with_reducible rfl
     try simp only [ps]
     refine tk 16 (some 40) (Op.fieldAddr 126 (Operand.tmp 39) 0) 0 (v := ?v16b17) rfl ?h16b17 hH ?_
     case h16b17 => intro _ _; go_simp; try with_reducible rfl
     try simp only [ps]
     refine tk 17 (some 41) (Op.load 75 (Operand.tmp 40)) 75 (v := ?v17b18) rfl ?h17b18 hH ?_
     case h17b18 => intro _ _; go_simp; try with_reducible rfl
     try simp only [ps]
     refine tk 18 (some 42) (Op.binOp BinOp.or 75 (Operand.tmp 33) (Operand.tmp 41) 75) 75 (v := ?v18b19) rfl ?h18b19 hH ?_
     case h18b19 => intro _ _; go_simp; try with_reducible rfl
     try simp only [ps]
     refine wpAnyH_ready (rs := [19]) (by kernel_rfl) (by simp) ?_
     refine AllReadyH.cons (o := { dst := some 43, op := Op.call { callee := Callee.value (Operand.func 55), args := #[Operand.tmp 32, Operand.tmp 42], argTypes := #[83, 75] }, type := 83, pos := "repeat.go:64", after := #[{ on := 8, ground := Ground.data }, { on := 18, ground := Ground.data }, { on := 3, ground := Ground.chain }, { on := 3, ground := Ground.guard }], guard := some (3, true) }) rfl (fun K hKq => ?_) AllReadyH.nil
     go_simp
     refine (OA.out _).mono ?_
     rintro e yy ⟨rfl, kq⟩
     have BY := hid (T6.out.same (w' := yy) (kq.block B T6.out.lt))
     have RY := hid ((kq.block R (bl_lt R6.out)).trans R6.out)
     refine hKq.out _ _ (MK.out _ (KQ.then kq)) (fun hN => ?_)
     clear kq
     clear hKq K hH KQ
     have hH := hN
     clear hN
     have KQ := hH.2.2.2.2.2.2.2.2.2.out
     try simp only [ps]
     refine tk 20 (some 44) (Op.build 220 #[(0, Operand.tmp 30), (1, Operand.tmp 31), (2, Operand.tmp 43)]) 220 (v := ?v20b20) rfl ?h20b20 hH ?_
     case h20b20 => intro _ _; go_simp; try with_reducible rfl
     try simp only [ps]
     refine wpAnyH_ready (rs := [21]) (by kernel_rfl) (by simp) ?_
     refine AllReadyH.cons (o := { dst := some 45, op := Op.call { callee := Callee.value (Operand.func 142), args := #[Operand.tmp 28, Operand.tmp 44], argTypes := #[198, 220] }, type := 4, pos := "repeat.go:64", after := #[{ on := 4, ground := Ground.data }, { on := 20, ground := Ground.data }, { on := 19, ground := Ground.chain }, { on := 3, ground := Ground.guard }], guard := some (3, true) }) rfl (fun K hKq => ?_) AllReadyH.nil
     go_simp
     refine (begins_any R B h pl lv (.string s) (.bool bol) (ptv P) sn ⟨n, q, x.only (q ||| rdp)⟩ HTO.out st.2 _ RY.out BY.out).mono ?_
     rintro e y2 hd0
     obtain ⟨he, ht2, hk2⟩ := hd0.ex
     rw [HCB.out] at he ht2
     subst he
     have TY : Hid (TurnsAt y2 B (st.2 ++ [⟨n, q, x.only (q ||| rdp)⟩])) := by rw [if_neg (by decide)] at ht2; exact ht2
     have HK2 := hid hk2
     clear hd0 ht2 hk2
     refine hKq.out _ _ (MK.out _ (KQ.trans HK2.out)) (fun hN => ?_)
     clear hKq K hH KQ
     have hH := hN
     clear hN
     have KQ := hH.2.2.2.2.2.2.2.2.2.out
     try simp only [ps]
     refine tk 22 (some 46) (Op.pick (Operand.tmp 27) (Operand.tmp 45) (Operand.const (Value.bool false))) 4 (v := ?v22b21) rfl ?h22b21 hH ?_
     case h22b21 => intro _ _; go_simp; try with_reducible rfl
     try simp only [ps]
     refine wpAnyH_done (by kernel_rfl) ?_ _
     refine NoPanic.normal ?_
     have KF := hid KQ
     have N7 := hid (N6.out.turn (w' := y2) (fun b hb hl => KF.out.block b hl (fun e => by have := (N6.out.block b hb).1; have := HBS.out; omega)))
     have C7 : Hid (∀ (j : Nat) y, (placesOf hd all q)[j]? = some y → y2.cell? ⟨pb, j, none⟩ = some (nuc y)) := fun j y hj => (cell_same (KF.out.block pb HPL2.out HPBB.out) _).trans (HPC.out j y hj)
     go_wp2_with (at_builtin; go_must (refine wpList_append_nu2 _ (by rfl) _ _ (by rfl) W0.heap.size _ (st.1.flatMap (placesOf hd all)) (placesOf hd all q) (by rfl) pb PL pc (by rfl) HPLN N7 C7 ?h2 ?h3 ?_))
     case h2 => have := HL2.out; omega
     case h3 => have := K6.out.size; have := KF.out.size; omega
     intro v' w' md
     have MD := hid md
     clear md
     go_wp2_with fail
     go_roundg (gk - 1)
     case measure => omega
     case rel => exact ⟨q + 1, (st.1 ++ [q], st.2 ++ [⟨n, q, x.only (q ||| rdp)⟩]), by omega, by go_num, by rw [newCls_step, HST.out]; exact HB0.out, by rw [List.flatMap_append, List.flatMap_singleton]; exact MD.out.row, TY.out.same (MD.out.grown.block B TY.out.lt (fun e => by have := (N7.out.block B e.symm).1; have := HBS.out; omega)), (K6.out.trans KF.out).grown MD.out.grown (fun b e hb => by have := (N7.out.block b e).1; omega)⟩
   ·
    have gneg : ¬ (0 : Int) < (PL : Int) := by omega
    have HB0 : Hid (begS rdp all hd n x st q = st) := by show _ = _; unfold begS; rw [if_neg (fun e => by have := (places_any hd all q).2 e; omega)]
    clear hPL
    have Q0 : Kx (fun b => b = B) wr wr.drew := (Kx.refl _ _).drew
    have MK : Hid (∀ W, Kx (fun b => b = B) wr W → W.cell? ⟨w.heap.size, 0, none⟩ = some (.int .i8 x.a) ∧ W.cell? ⟨w.heap.size, 1, none⟩ = some (.int .i8 x.f0) ∧ W.cell? ⟨w.heap.size, 2, none⟩ = some (.int .i8 x.t0) ∧ W.cell? ⟨w.heap.size, 3, none⟩ = some (.int .i8 x.f1) ∧ W.cell? ⟨w.heap.size, 4, none⟩ = some (.int .i8 x.t1) ∧ W.cell? ⟨w.heap.size, 5, none⟩ = some (.int .i8 x.f2) ∧ W.cell? ⟨w.heap.size, 6, none⟩ = some (.int .i8 x.t2) ∧ W.cell? ⟨R, 2, none⟩ = some (ptv P) ∧ W.cell? ⟨P, 9, none⟩ = some (.int .u8 (rdp : Int)) ∧ Hid (Kx (fun b => b = B) wr W)) := fun W k => ⟨bl_cell (bl_kx X6.out k HXB.out) 0 _ rfl, bl_cell (bl_kx X6.out k HXB.out) 1 _ rfl, bl_cell (bl_kx X6.out k HXB.out) 2 _ rfl, bl_cell (bl_kx X6.out k HXB.out) 3 _ rfl, bl_cell (bl_kx X6.out k HXB.out) 4 _ rfl, bl_cell (bl_kx X6.out k HXB.out) 5 _ rfl, bl_cell (bl_kx X6.out k HXB.out) 6 _ rfl, bl_cell (bl_kx R6.out k HRB.out) 2 _ rfl, bl_cell (bl_kx P6.out k HPB.out) 9 _ rfl, k⟩
    refine wp_region_noPanic ?_
    refine hdrew MK Q0 (fun hH => ?_)
    have KQ := Q0
    refine tk 0 (some 24) (Op.move (Operand.tmp 11)) 40 (v := ?v0c1) rfl ?h0c1 hH ?_
    case h0c1 => intro _ _; go_simp; try with_reducible rfl
    try simp only [ps]
    refine tk 1 (some 25) (Op.call { callee := Callee.builtin Builtin.len, args := #[Operand.tmp 24], argTypes := #[40] }) 3 (v := ?v1c2) rfl ?h1c2 hH ?_
    case h1c2 => intro _ _; go_simp; try with_reducible rfl
    try simp only [ps]
    refine tk 2 (some 26) (Op.binOp BinOp.gtr 3 (Operand.tmp 25) (Operand.const (Value.int IntKind.i64 0)) 3) 4 (v := ?v2c3) rfl ?h2c3 hH ?_
    case h2c3 => intro _ _; go_simp; try with_reducible rfl
    try simp only [ps]
    refine tk 3 (some 27) (Op.move (Operand.tmp 26)) 4 (v := ?v3c4) rfl ?h3c4 hH ?_
    case h3c4 => intro _ _; go_simp; try with_reducible rfl
    try simp only [ps]
    refine tn 4 (some 28) (Op.move (Operand.tmp 0)) 198 rfl hH ?_
    try simp only [ps]
    refine tn 5 (some 29) (Op.move (Operand.tmp 2)) 3 rfl hH ?_
    try simp only [ps]
    refine tn 6 (some 30) (Op.convert 3 78 (Operand.tmp 29)) 78 rfl hH ?_
    try simp only [ps]
    refine tn 7 (some 31) (Op.move (Operand.tmp 12)) 75 rfl hH ?_
    try simp only [ps]
    refine tn 8 (some 32) (Op.load 83 (Operand.tmp 7)) 83 rfl hH ?_
    try simp only [ps]
    refine tn 9 (some 33) (Op.move (Operand.tmp 12)) 75 rfl hH ?_
    try simp only [ps]
    refine tn 10 (some 34) (Op.move (Operand.tmp 0)) 198 rfl hH ?_
    try simp only [ps]
    refine tn 11 (some 35) (Op.nilCheck (Operand.tmp 34)) 0 rfl hH ?_
    try simp only [ps]
    refine tn 12 (some 36) (Op.fieldAddr 182 (Operand.tmp 35) 1) 0 rfl hH ?_
    try simp only [ps]
    refine tn 13 (some 37) (Op.load 71 (Operand.tmp 36)) 71 rfl hH ?_
    try simp only [ps]
    refine tn 14 (some 38) (Op.nilCheck (Operand.tmp 37)) 0 rfl hH ?_
    try simp only [ps]
    refine tn 15 (some 39) (Op.fieldAddr 130 (Operand.tmp 38) 6) 0 rfl hH ?_
    try simp only [ps]
    refine tn 16 (some 40) (Op.fieldAddr 126 (Operand.tmp 39) 0) 0 rfl hH ?_
    try simp only [ps]
    refine tn 17 (some 41) (Op.load 75 (Operand.tmp 40)) 75 rfl hH ?_
    try simp only [ps]
    refine tn 18 (some 42) (Op.binOp BinOp.or 75 (Operand.tmp 33) (Operand.tmp 41) 75) 75 rfl hH ?_
    try simp only [ps]
    refine tn 19 (some 43) (Op.call { callee := Callee.value (Operand.func 55), args := #[Operand.tmp 32, Operand.tmp 42], argTypes := #[83, 75] }) 83 rfl hH ?_
    try simp only [ps]
    refine tn 20 (some 44) (Op.build 220 #[(0, Operand.tmp 30), (1, Operand.tmp 31), (2, Operand.tmp 43)]) 220 rfl hH ?_
    try simp only [ps]
    refine tn 21 (some 45) (Op.call { callee := Callee.value (Operand.func 142), args := #[Operand.tmp 28, Operand.tmp 44], argTypes := #[198, 220] }) 4 rfl hH ?_
    try simp only [ps]
    refine tk 22 (some 46) (Op.pick (Operand.tmp 27) (Operand.tmp 45) (Operand.const (Value.bool false))) 4 (v := ?v22c23) rfl ?h22c23 hH ?_
    case h22c23 => intro _ _; go_simp; try with_reducible rfl
    try simp only [ps]
    refine wpAnyH_done (by kernel_rfl) ?_ _
    refine NoPanic.normal ?_
    go_wp2_with fail
    go_roundg (gk - 1)
    case measure => omega
    case rel => exact ⟨q + 1, st, by omega, by go_num, by rw [newCls_step, HST.out]; exact HB0.out, N6.out.kp (Kp.refl _).drew, T6.out.same rfl, K6.out.drew⟩
  ·
   have ga : ¬ (q : Int) < 8 := by omega
   obtain rfl : q = 8 := by omega
   have HNC : Hid (newCls rdp all hd n x bg = st) := HST.out
   go_wp2_with fail
   refine (sort_nu W0.heap.size _ (st.1.flatMap (placesOf hd all)) wr N6.out (by have := HLEN.out; omega)).mono ?_
   rintro e y2 hd0
   obtain ⟨rfl, hn2, hk2⟩ := hd0.ex
   have N8 := hid hn2
   have K8 := hid hk2
   clear hd0 hn2 hk2
   go_wp2_with fail
   go_ret
   exact ⟨_, rfl, by rw [HNC.out, ← unb_sorted hd all st.1 HSEL.out.1]; exact N8.out.nul (fun b e => Nat.le_trans K0.out.size (N8.out.block b e).1), by rw [HNC.out]; exact T6.out.same (K8.out.block B T6.out.lt (fun e => by have := (N6.out.block B e).1; have := HBS.out; omega)), KW.out.past2 K8.out (fun b hb e => by have := (N6.out.block b e).1; have := K0.out.size; omega)⟩
end Go.Proofs.YtnajcnhgeggngaaGreat.Way

/-! ### Cat -/

namespace Go.Proofs.YtnajcnhgeggngaaGreat.Way
set_option maxHeartbeats 2000000
set_option maxRecDepth 100000
open Go.RowKit Go.Proofs.YtnajcnhgeggngaaGreat

theorem addL_good {G : Sp → Prop} {h : Nat} {l : List Sp} {x : Sp} (hl : ∀ y ∈ l, G y) (hx : G x) : ∀ y ∈ addL h l x, G y := by
 unfold addL
 split
 ·
  exact hl
 ·
  intro y hy
  rcases List.mem_append.1 hy with hy | hy
  ·
   exact hl y hy
  ·
   rw [List.mem_singleton.1 hy]
   exact hx
theorem walkF_good {N : Nat} {W : Sp → List Sp} {rd h : Nat} {x : Sp} {lo : Int} (hW : ∀ x : Sp, x.Ok → x.In N → ∀ y ∈ W x, y.Ok ∧ y.In N ∧ x.a ≤ y.a) (hx : x.Ok ∧ x.In N ∧ lo ≤ x.a) {acc : List Sp} (ha : ∀ y ∈ acc, y.Ok ∧ y.In N ∧ lo ≤ y.a) : ∀ y ∈ walkF W rd h acc x, y.Ok ∧ y.In N ∧ lo ≤ y.a := by
 unfold walkF
 have hz := hW (x.only rd) (hx.1.only rd) (hx.2.1.only rd)
 revert hz
 generalize W (x.only rd) = zs
 intro hz
 induction zs generalizing acc with
 | nil => exact ha
 | cons z zs ih =>
  have h1 := hz z (List.mem_cons_self ..)
  exact ih (addL_good ha ⟨h1.1.behind hx.1, h1.2.1.behind hx.2.1, Int.le_trans hx.2.2 h1.2.2⟩) (fun y hy => hz y (List.mem_cons_of_mem _ hy))
theorem walks_good {N : Nat} {W : Sp → List Sp} {rd h : Nat} {lo : Int} (hW : ∀ x : Sp, x.Ok → x.In N → ∀ y ∈ W x, y.Ok ∧ y.In N ∧ x.a ≤ y.a) : ∀ (xs : List Sp) {acc : List Sp}, (∀ x ∈ xs, x.Ok ∧ x.In N ∧ lo ≤ x.a) → (∀ y ∈ acc, y.Ok ∧ y.In N ∧ lo ≤ y.a) → ∀ y ∈ xs.foldl (walkF W rd h) acc, y.Ok ∧ y.In N ∧ lo ≤ y.a
 | [], _, _, ha => ha
 | x :: xs, acc, hx, ha => walks_good hW xs (acc := walkF W rd h acc x) (fun y hy => hx y (List.mem_cons_of_mem _ hy)) (walkF_good hW (hx x (List.mem_cons_self ..)) ha)
theorem km_ok {M : Nat → Option Memo} {O : Nat → Prop} {w w' : World} (k : Km M w w') : ∀ b, okB M O b → b < w.heap.size → okB M O b ∧ w'.heap[b]? = w.heap[b]? := fun b hb hl => ⟨hb, k.block b hl (fun e => e hb.2)⟩
theorem wcat_any (s : ByteArray) (bol : Bool) (h60 : s.size ≤ 60) (M : Nat → Option Memo) (kids : List Pt) (HS : ∀ (j : Nat) q, kids[j]? = some q → WSaid s bol M q) (HW : WdOk kids) (h8 : ∀ (j : Nat) q, kids[j]? = some q → q.hd < 8) (hf : kids.length ≤ 4398046511104) (O : Nat → Prop) (x : Sp) (hx : x.Ok) (hN : x.In s.size) (w : World) (hO : ∀ b, O b → b < w.heap.size) (hM : MemOk M O w) (ad : Option Addr) (c : Nat) (hks : KidS w (okB M O) ad c kids) (hpts : PtsAt w (okB M O) kids) :
  Calls Tryz.prog 82 #[wkv s bol, .slice ad kids.length c, spv x] w fun e w' => WaysD (catW s.data.toList bol kids [x]) (okB M O) (fun w' => Km M w w' ∧ MemOk M O w') e w' := by
 obtain ⟨L, hL⟩ : ∃ L, kids.length = L := ⟨_, rfl⟩
 rw [hL] at hf ⊢
 have hcap := hks.cap
 rw [hL] at hcap
 have HL := hid hL
 have HSD := hid HS
 have HWD := hid HW
 have H8 := hid h8
 have HX := hid hx
 have HN := hid hN
 have HO := hid hO
 have HM := hid hM
 have HK := hid hks
 have HPT := hid hpts
 obtain ⟨T, hT⟩ : ∃ T, catW s.data.toList bol kids [x] = T := ⟨_, rfl⟩
 have HT := hid hT
 rw [hT]
 clear hL hx hN hO hM hks hpts HS HW hT h8
 go_enter Tryz.func82, Tryz.ntmps82
 go_upto_region 1 with fail
 refine opq (fun W0 => W0.heap[w.heap.size]? = some (.cells #[.string s, .bool bol] 70) ∧ W0.heap[(w.heap.size + 1)]? = some (spo x) ∧ Kp w W0) ⟨by exact bl_alloc (last_of _ _) _, by exact last_at _ _ _ (by simp), by exact kpt⟩ ?_
 rintro W0 ⟨xT0, xX0, xK0⟩
 have T0 := hid xT0
 have X0 := hid xX0
 have K0 := hid xK0
 clear xT0 xX0 xK0
 obtain ⟨x0, x1, x2, x3, x4, x5, x6⟩ := cells7 (X0.out)
 go_upto_region 2 with fail
 refine opq (fun W1 => W1.heap[w.heap.size]? = some (.cells #[.string s, .bool bol] 70) ∧ SpL W1 (okB M O) (.slice (some ⟨W0.heap.size, 0, none⟩) 1 1) [x] ∧ Kp w W1) ⟨by exact bl_alloc T0.out _, by exact spl_one W0 x HX.out _ ⟨fun o => by have := HO.out _ o; have := K0.out.size; omega, HM.out.lt K0.out.size⟩, by exact K0.out.alloc _⟩ ?_
 rintro W1 ⟨xT1, xS1, xK1⟩
 have T1 := hid xT1
 have S1 := hid xS1
 have K1 := hid xK1
 clear xT1 xS1 xK1
 clear T0 X0 K0 x0 x1 x2 x3 x4 x5 x6
 have M1 := hid (HM.out.keep (S := fun _ => False) (Kp.kx K1.out) (fun _ _ e => e.elim) (fun _ _ e => e) HM.out.own)
 have HMT := hid (show M w.heap.size = none from HM.out.lt (Nat.le_refl _))
 go_wp2_with fail
 go_loopg [7, 17] L (fun gg v i wr => ∃ (q : Nat) (ys : List Sp), q + gg = L ∧ i = .int .i64 (q : Int) ∧ SpL wr (okB M O) v ys ∧ (∀ y ∈ ys, y.Ok ∧ y.In s.size ∧ x.a ≤ y.a) ∧ ys.length ≤ 4398046511104 ∧ MemOk M O wr ∧ catW s.data.toList bol (kids.drop q) ys = T ∧ Km M W1 wr)
 case atStart => exact ⟨0, [x], by omega, rfl, S1.out, fun y hy => by rw [List.mem_singleton.1 hy]; exact ⟨HX.out, HN.out, Int.le_refl _⟩, by simp, M1.out, HT.out, Kx.refl _ _⟩
 case round =>
  rename World => wo
  obtain ⟨q, ys, hq, rfl, hS, hG, hF, hM, hA, hK⟩ := hrel
  have S6 := hid hS
  have G6 := hid hG
  have F6 := hid hF
  have M6 := hid hM
  have A6 := hid hA
  have K6 := hid ((Kp.kx K1.out).trans hK)
  have KW := hid hK
  have HTL := hid (show w.heap.size < wo.heap.size from Nat.lt_of_lt_of_le (bl_lt T1.out) hK.size)
  have T6 := hid (bl_kx T1.out hK (fun e => e HMT.out))
  clear hS hG hF hM hA hK
  by_cases hlt : q < L
  ·
   have gkw : IntKind.i64.wrap ((q : Int) + 1) = (q : Int) + 1 := by rw [IntKind.wrap_i64]; omega
   have ga : (q : Int) < (L : Int) := by omega
   have g0 : (0 : Int) ≤ (q : Int) := by omega
   obtain ⟨kid, hkid⟩ : ∃ kid, kids[q]? = some kid := ⟨_, List.getElem?_eq_getElem (by rw [HL.out]; exact hlt)⟩
   obtain ⟨bb, rfl, -, hbb, hce⟩ := (HK.out.keep K6.out.size (km_ok K6.out)).at_ (by rw [HL.out]; omega)
   have cp := hce q kid hkid
   have KP := hid (PtAt.keep K6.out.size (km_ok K6.out) kid (HPT.out.get q kid hkid))
   obtain ⟨k', lo', hi', n', t', kn', so', ks', ad', c', -, -, hblk, -, -⟩ := KP.out.form
   have HB := hid hblk
   have HWK := hid (HSD.out q kid hkid)
   have HRD := hid (HWD.out.get q kid hkid).1
   have HHD := hid (H8.out q kid hkid)
   have HTK : Hid (catW s.data.toList bol (kids.drop (q + 1)) (ys.foldl (walkF (ways s.data.toList bol kid) kid.rd kid.hd) []) = T) := by
    show _ = _
    rw [← A6.out, List.drop_eq_getElem_cons (i := q) (by rw [HL.out]; exact hlt), (List.getElem?_eq_some_iff.1 hkid).2]
    rfl
   obtain ⟨la, lc, rfl, hlc, hle⟩ := S6.out.ex
   obtain ⟨N, hNN⟩ : ∃ N, ys.length = N := ⟨_, rfl⟩
   have HNN := hid hNN
   rw [hNN] at S6 F6 hlc hle
   rw [hNN]
   clear hce hbb hkid hblk hNN hle A6
   obtain ⟨p0, p1, p2, p3, p4, p5, p6, p7, p8, p9, p10, p11, p12, p13⟩ := cells14 (HB.out)
   go_upto_region 6 with fail
   refine opq (fun W3 => W3.heap[wo.heap.size]? = some (roA kid.hd (.slice none 0 0) 0 none) ∧ W3.heap[w.heap.size]? = some (.cells #[.string s, .bool bol] 70) ∧ Kp wo W3) ⟨by exact last_of _ _, by exact bl_alloc T6.out _, by exact (Kp.refl _).alloc _⟩ ?_
   rintro W3 ⟨xR3, xT3, xK3⟩
   have R3 := hid xR3
   have T3 := hid xT3
   have K3 := hid xK3
   clear xR3 xT3 xK3
   clear cp p0 p1 p2 p3 p4 p5 p6 p7 p8 p9 p10 p11 p12 p13 T6 HB
   have RW := hid (RowW.new M6.out HHD.out K3.out (Nat.le_refl _) R3.out)
   have HRW := hid (bl_lt R3.out)
   clear R3
   go_wp2_with fail
   go_loopg [28] N (fun gg i wr => ∃ (j : Nat) (lv : Value) (pl : Nat) (sn : Option Nat), j + gg = N ∧ i = .int .i64 (j : Int) ∧ RowW M O W3.heap.size wo.heap.size kid.hd ((ys.take j).foldl (walkF (ways s.data.toList bol kid) kid.rd kid.hd) []) lv pl sn wr ∧ KR M wo.heap.size W3 wr)
   case atStart => exact ⟨0, _, _, _, by omega, rfl, RW.out, Kx.refl _ _⟩
   case round =>
    obtain ⟨j, lv, pl, sn, hj, rfl, hR, hK⟩ := hrel
    have R7 := hid hR
    have K7 := hid hK
    have T7 := hid (bl_kx T3.out hK (fun e => e.elim (fun e => e HMT.out) (fun e => by have := HTL.out; omega)))
    have OB := hid (hR.okb K3.out (Nat.le_refl _) hK)
    have SZ := hid (hK.size K3.out)
    clear hR hK
    by_cases hlj : j < N
    ·
     have gkj : IntKind.i64.wrap ((j : Int) + 1) = (j : Int) + 1 := by have := F6.out; rw [IntKind.wrap_i64]; omega
     have gaj : (j : Int) < (N : Int) := by omega
     have g0j : (0 : Int) ≤ (j : Int) := by omega
     obtain ⟨y, hy⟩ : ∃ y, ys[j]? = some y := ⟨_, List.getElem?_eq_getElem (by rw [HNN.out]; exact hlj)⟩
     obtain ⟨ad2, c2, hv2, _, hc2⟩ := (S6.out.keep SZ.out OB.out).ex
     injection hv2 with e1 e2 e3
     obtain ⟨b2, hbb, _, hbl, hce⟩ := hc2 (by rw [HNN.out]; omega)
     rw [← e1] at hbb
     subst hbb
     have hsp := hce j y hy
     have HY := hid (G6.out y (List.mem_of_getElem? hy))
     have HTJ : Hid ((ys.take (j + 1)).foldl (walkF (ways s.data.toList bol kid) kid.rd kid.hd) [] = walkF (ways s.data.toList bol kid) kid.rd kid.hd ((ys.take j).foldl (walkF (ways s.data.toList bol kid) kid.rd kid.hd) []) y) := by
      show _ = _
      rw [List.take_succ_eq_append_getElem (by rw [HNN.out]; exact hlj), List.foldl_append, (List.getElem?_eq_some_iff.1 hy).2]
      rfl
     obtain ⟨zs, hzs⟩ : ∃ zs, (ys.take j).foldl (walkF (ways s.data.toList bol kid) kid.rd kid.hd) [] = zs := ⟨_, rfl⟩
     rw [hzs] at R7 HTJ
     have x0 := hsp.c0
     have x1 := hsp.c1
     have x2 := hsp.c2
     have x3 := hsp.c3
     have x4 := hsp.c4
     have x5 := hsp.c5
     have x6 := hsp.c6
     clear hsp hce hy e1 e2 e3 hc2 hzs
     go_upto_region 9 with fail
     refine opq (fun W5 => W5.heap[wr.heap.size]? = some (spo y) ∧ W5.heap[w.heap.size]? = some (.cells #[.string s, .bool bol] 70) ∧ Kp wr W5) ⟨by exact last_of _ _, by exact bl_alloc T7.out _, by exact (Kp.refl _).alloc _⟩ ?_
     rintro W5 ⟨xY5, xT5, xK5⟩
     have Y5 := hid xY5
     have T5 := hid xT5
     have K5 := hid xK5
     clear xY5 xT5 xK5
     clear x0 x1 x2 x3 x4 x5 x6 T7
     have WK := hid (walk_any s bol h60 M kid HRD.out HWK.out O W3.heap.size wo.heap.size kid.hd pl zs lv sn y HY.out.1 HY.out.2.1 W5 (fun b o => Nat.lt_of_lt_of_le (HO.out b o) (Nat.le_trans K6.out.size (Nat.le_trans SZ.out K5.out.size))) HM.out.own (R7.out.kp K5.out) (PtAt.kp (PtAt.keep SZ.out OB.out kid KP.out) K5.out) HRW.out (Nat.le_trans (Kx.size K7.out) K5.out.size))
     have t0 := bl_cell (T5.out) 0 _ rfl
     have t1 := bl_cell (T5.out) 1 _ rfl
     obtain ⟨y0, y1, y2, y3, y4, y5, y6⟩ := cells7 (Y5.out)
     go_wp2_with fail
     clear t0 t1 y0 y1 y2 y3 y4 y5 y6 Y5 T5
     refine (WK.out).mono ?_
     rintro e yw hd
     obtain ⟨rfl, l2, p2, n2, hr2, -, -, hk2⟩ := hd.ex
     have RC := hid hr2
     have KC := hid ((R7.out.kp K5.out).step (K7.out.then K5.out) hk2)
     clear hd hr2 hk2
     go_wp2_with fail
     go_roundg (gk - 1)
     case measure => omega
     case rel => exact ⟨j + 1, l2, p2, n2, by omega, by go_num, by rw [HTJ.out]; exact RC.out, KC.out⟩
    ·
     have gaj : ¬ (j : Int) < (N : Int) := by omega
     have HYS : Hid (ys.take j = ys) := by
      show _ = _
      exact List.take_of_length_le (by rw [HNN.out]; omega)
     rw [HYS.out] at R7
     have r1 := bl_cell (R7.out.b) 1 _ rfl
     go_wp2_with fail
     go_roundg (L - q - 1)
     case measure => omega
     case rel => exact ⟨q + 1, _, by omega, by go_num, R7.out.spl (fun b o => Nat.lt_of_lt_of_le (HO.out b o) (Nat.le_trans K6.out.size K3.out.size)), walks_good HWK.out.good ys G6.out (fun y hy => by cases hy), R7.out.i.few, R7.out.mem, HTK.out, KW.out.trans (K7.out.km K3.out (Nat.le_refl _))⟩
  ·
   have ga : ¬ (q : Int) < (L : Int) := by omega
   have HE : Hid (ys = T) := by
    show _ = _
    rw [← A6.out, List.drop_of_length_le (by rw [HL.out]; omega)]
    rfl
   obtain ⟨la, lc, rfl, hlc, hle⟩ := S6.out.ex
   clear hle
   go_wp2_with fail
   go_ret
   exact ⟨_, rfl, by rw [← HE.out]; exact S6.out, K6.out, M6.out⟩
end Go.Proofs.YtnajcnhgeggngaaGreat.Way

/-! ### Ways -/

namespace Go.Proofs.YtnajcnhgeggngaaGreat.Way
set_option maxHeartbeats 2000000
set_option maxRecDepth 100000
open Go.RowKit Go.Proofs.YtnajcnhgeggngaaGreat Go.Maps

theorem zero68 (w : World) : (zeroValue 68).run Tryz.prog w = .ok (.slice none 0 0) w := by
 have := Tryz.zeroValue68
 go_simp
theorem MemOk.put {M : Nat → Option Memo} {O : Nat → Prop} {w w' : World} {b : Nat} {W : Sp → List Sp} (h : MemOk M O w) (hb : M b = some (.kn W)) (hat : MapAt w' b (fun x v => SpL w (okB M O) v (W x))) (k : Kx (fun q => q = b) w w') : MemOk M O w' := by
 have on : ∀ d, okB M O d → d < w.heap.size → okB M O d ∧ w'.heap[d]? = w.heap[d]? := fun d hd hl => ⟨hd, k.block d hl (fun e => by rw [e] at hd; have := hd.2; rw [hb] at this; cases this)⟩
 refine ⟨fun c m hc => ?_, h.own⟩
 by_cases e : c = b
 ·
  subst e
  rw [hb] at hc
  injection hc with hc
  subst hc
  exact MapAt.imp hat rfl (fun x v q => q.keep k.size on)
 ·
  exact (h.at_ c m hc).keep (k.block c (h.at_ c m hc).lt e) k.size on
theorem spl_put {M : Nat → Option Memo} {O : Nat → Prop} {w w' : World} {b : Nat} {W : Sp → List Sp} (hb : M b = some (.kn W)) (k : Kx (fun q => q = b) w w') {v : Value} {xs : List Sp} (h : SpL w (okB M O) v xs) : SpL w' (okB M O) v xs :=
 h.keep k.size (fun d hd hl => ⟨hd, k.block d hl (fun e => by rw [e] at hd; have := hd.2; rw [hb] at this; cases this)⟩)
abbrev Drew (a b : World) : Prop := b = a.drew
abbrev FoundD (s : ByteArray) (bol : Bool) (M : Nat → Option Memo) (P : Nat) (p : Pt) : Prop := ∀ (O : Nat → Prop) (x : Sp) (w : World), x.Ok → x.In s.size → (∀ b, O b → b < w.heap.size) → PtAt w (okB M O) p → MemOk M O w →
  Calls Tryz.prog 54 #[wkv s bol, ptv P, spv x] w fun e w' => WaysD (ways s.data.toList bol p x) (okB M O) (fun w' => Km M w w' ∧ MemOk M O w') e w'
theorem ways_any (s : ByteArray) (bol : Bool) (M : Nat → Option Memo) (k low high n : Int) (t : W4) (P b : Nat) (so : Option Nat) (rd st h : Nat) (kids : List Pt) (hlf : leafK k = false) (hMb : M b = some (.kn (ways s.data.toList bol (.mk k low high n t P (some b) so rd st h kids)))) (HF : FoundD s bol M P (.mk k low high n t P (some b) so rd st h kids)) (O : Nat → Prop) (x : Sp) (hx : x.Ok) (hN : x.In s.size) (w : World) (hO : ∀ b, O b → b < w.heap.size) (hM : MemOk M O w) (hP : PtAt w (okB M O) (.mk k low high n t P (some b) so rd st h kids)) :
  Calls Tryz.prog 34 #[wkv s bol, ptv P, spv x] w fun e w' => WaysD (ways s.data.toList bol (.mk k low high n t P (some b) so rd st h kids) x) (okB M O) (fun w' => Km M w w' ∧ MemOk M O w') e w' := by
 obtain ⟨kv, hblk, hok⟩ : ∃ kv, w.heap[P]? = some (pto k low high n t kv rd st h (some b) so) ∧ M P = none := by
  unfold PtAt at hP
  obtain ⟨h1, ⟨ad, c, h2, _⟩, _⟩ := hP
  exact ⟨_, h2, h1.2⟩
 have HLF := hid hlf
 have HMB := hid hMb
 have HX := hid hx
 have HB := hid hblk
 have HMP := hid (show ¬ M P ≠ none from fun e => e hok)
 have HM := hid hM
 have HMX := hid (show ¬ M (w.heap.size + 1) ≠ none from fun e => e (hM.lt (Nat.le_succ _)))
 have FD := hid (fun (W : World) (k0 : Kp w W) => HF O x W hx hN (fun b hb => Nat.lt_of_lt_of_le (hO b hb) k0.size) (PtAt.kp hP k0) (hM.keep (S := fun _ => False) (Kp.kx k0) (fun _ _ e => e.elim) (fun _ _ e => e) hM.own))
 have HLE := hid (leaf_any k low high n t kv rd st h (some b) so P)
 clear hlf hMb HF hx hN hO hM hP hblk hok
 go_enter Tryz.func34, Tryz.ntmps34
 go_upto_region 1 with fail
 refine opq (fun W0 => W0.heap[w.heap.size]? = some (.cells #[.string s, .bool bol] 70) ∧ W0.heap[(w.heap.size + 1)]? = some (spo x) ∧ W0.heap[P]? = some (pto k low high n t kv rd st h (some b) so) ∧ Kp w W0) ⟨by exact bl_alloc (last_of _ _) _, by exact last_at _ _ _ (by simp), by exact bl_kp HB.out kpt, by exact kpt⟩ ?_
 rintro W0 ⟨xT0, xX0, xP0, xK0⟩
 have T0 := hid xT0
 have X0 := hid xX0
 have P0 := hid xP0
 have K0 := hid xK0
 clear xT0 xX0 xP0 xK0
 have M0 := hid (HM.out.keep (S := fun _ => False) (Kp.kx K0.out) (fun _ _ e => e.elim) (fun _ _ e => e) HM.out.own)
 have B0 : Hid (MapAt W0.drew b (fun x v => SpL W0 (okB M O) v (ways s.data.toList bol (.mk k low high n t P (some b) so rd st h kids) x))) := MapAt.imp (M0.out.at_ b _ HMB.out) rfl (fun _ _ h => h)
 have LK := hid (B0.out.look Tryz.underlying127 (zero68 _) x HX.out)
 clear HB
 go_wp2_with fail
 refine (HLE.out _ P0.out).mono ?_
 rintro e w1 ⟨rfl, hw⟩
 rw [hw, HLF.out]
 clear HLE hw w1
 go_upto_region 3 with fail
 rcases LK.out with hl | ⟨v, hl, hG⟩
 ·
  have HL := hid hl
  clear hl LK
  go_cut [7, 8] (fun v q wc => v = .slice none 0 0 ∧ q = .bool false ∧ Kp W0 wc)
  case first =>
   have Q0 : Drew W0 W0.drew := rfl
   have MK : Hid (∀ W, Drew W0 W → W.cell? ⟨P, 12, none⟩ = some (.map (some b)) ∧ W.cell? ⟨(w.heap.size + 1), 0, none⟩ = some (.int .i8 x.a) ∧ W.cell? ⟨(w.heap.size + 1), 1, none⟩ = some (.int .i8 x.f0) ∧ W.cell? ⟨(w.heap.size + 1), 2, none⟩ = some (.int .i8 x.t0) ∧ W.cell? ⟨(w.heap.size + 1), 3, none⟩ = some (.int .i8 x.f1) ∧ W.cell? ⟨(w.heap.size + 1), 4, none⟩ = some (.int .i8 x.t1) ∧ W.cell? ⟨(w.heap.size + 1), 5, none⟩ = some (.int .i8 x.f2) ∧ W.cell? ⟨(w.heap.size + 1), 6, none⟩ = some (.int .i8 x.t2) ∧ (Instr.lookup 127 (.map (some b)) (spv x) true).run Tryz.prog W = .ok (.tuple #[.slice none 0 0, .bool false]) W ∧ Hid (Drew W0 W)) := fun W k => ⟨(by rw [show W = W0.drew from k]; exact bl_cell (bl_drew P0.out) 12 _ rfl), (by rw [show W = W0.drew from k]; exact bl_cell (bl_drew X0.out) 0 _ rfl), (by rw [show W = W0.drew from k]; exact bl_cell (bl_drew X0.out) 1 _ rfl), (by rw [show W = W0.drew from k]; exact bl_cell (bl_drew X0.out) 2 _ rfl), (by rw [show W = W0.drew from k]; exact bl_cell (bl_drew X0.out) 3 _ rfl), (by rw [show W = W0.drew from k]; exact bl_cell (bl_drew X0.out) 4 _ rfl), (by rw [show W = W0.drew from k]; exact bl_cell (bl_drew X0.out) 5 _ rfl), (by rw [show W = W0.drew from k]; exact bl_cell (bl_drew X0.out) 6 _ rfl), (by rw [show W = W0.drew from k]; exact HL.out), k⟩
   refine wp_region_noPanic ?_
   refine hdrew MK Q0 (fun hH => ?_)
   have KQ := Q0
   refine tk 0 (some 16) (Op.move (Operand.tmp 1)) 71 (v := ?v0a1) rfl ?h0a1 hH ?_
   case h0a1 => intro _ _; go_simp; try with_reducible rfl
   try simp only [ps]
   refine tk 1 (some 17) (Op.nilCheck (Operand.tmp 16)) 0 (v := ?v1a2) rfl ?h1a2 hH ?_
   case h1a2 => intro _ _; go_simp; try with_reducible rfl
   try simp only [ps]
   refine tk 2 (some 18) (Op.fieldAddr 130 (Operand.tmp 17) 8) 0 (v := ?v2a3) rfl ?h2a3 hH ?_
   case h2a3 => intro _ _; go_simp; try with_reducible rfl
   try simp only [ps]
   refine tk 3 (some 19) (Op.load 127 (Operand.tmp 18)) 127 (v := ?v3a4) rfl ?h3a4 hH ?_
   case h3a4 => intro _ _; go_simp; try with_reducible rfl
   try simp only [ps]
   refine tk 4 (some 20) (Op.load 83 (Operand.tmp 5)) 83 (v := ?v4a5) rfl ?h4a5 hH ?_
   case h4a5 => intro _ _; go_simp; try with_reducible rfl
   try simp only [ps]
   refine tk 5 (some 21) (Op.lookup 127 (Operand.tmp 19) (Operand.tmp 20) true) 136 (v := ?v5a6) rfl ?h5a6 hH ?_
   case h5a6 => intro _ _; go_simp; try with_reducible rfl
   try simp only [ps]
   refine tk 6 (some 15) (Op.move (Operand.tmp 21)) 136 (v := ?v6a7) rfl ?h6a7 hH ?_
   case h6a7 => intro _ _; go_simp; try with_reducible rfl
   try simp only [ps]
   refine tk 7 (some 22) (Op.extract (Operand.tmp 15) 0) 68 (v := ?v7a8) rfl ?h7a8 hH ?_
   case h7a8 => intro _ _; go_simp; try with_reducible rfl
   try simp only [ps]
   refine tk 8 (some 23) (Op.extract (Operand.tmp 15) 1) 4 (v := ?v8a9) rfl ?h8a9 hH ?_
   case h8a9 => intro _ _; go_simp; try with_reducible rfl
   try simp only [ps]
   refine tk 9 (some 7) (Op.assign (Operand.tmp 22)) 68 (v := ?v9a10) rfl ?h9a10 hH ?_
   case h9a10 => intro _ _; go_simp; try with_reducible rfl
   try simp only [ps]
   refine tk 10 (some 8) (Op.assign (Operand.tmp 23)) 4 (v := ?v10a11) rfl ?h10a11 hH ?_
   case h10a11 => intro _ _; go_simp; try with_reducible rfl
   try simp only [ps]
   refine wpAnyH_done (by kernel_rfl) ?_ _
   refine NoPanic.normal ?_
   go_wp2_with fail
   go_meet
   case rel => exact ⟨rfl, rfl, (Kp.refl _).drew⟩
  case rest =>
  obtain ⟨rfl, rfl, hk⟩ := hcut
  rename World => W1
  have T1 := hid (bl_kp T0.out hk)
  have X1 := hid (bl_kp X0.out hk)
  have P1 := hid (bl_kp P0.out hk)
  have FD1 := hid (FD.out W1 (K0.out.trans hk))
  have K1 := hid (K0.out.trans hk)
  clear hk T0 X0 P0 FD HL B0 M0 K0
  have t0 := bl_cell (T1.out) 0 _ rfl
  have t1 := bl_cell (T1.out) 1 _ rfl
  obtain ⟨x0, x1, x2, x3, x4, x5, x6⟩ := cells7 (X1.out)
  go_wp2_with fail
  clear t0 t1 x0 x1 x2 x3 x4 x5 x6
  refine (FD1.out).mono ?_
  rintro e y2 ⟨⟨v, rfl, hv, hk, hm⟩⟩
  have HV := hid hv
  have HM2 := hid hm
  have BM : Hid (MapAt y2 b (fun x v => SpL y2 (okB M O) v (ways s.data.toList bol (.mk k low high n t P (some b) so rd st h kids) x))) := hm.at_ b _ HMB.out
  have X2 := hid (bl_kx X1.out hk HMX.out)
  have P2 := hid (bl_kx P1.out hk HMP.out)
  have K2 := hid ((Kp.kx K1.out).trans hk)
  clear hv hk hm X1 P1 T1 K1 FD1
  go_upto_region 6 with fail
  have Q0 : Kp y2 y2.drew := (Kp.refl _).drew
  have MK : Hid (∀ W, Kp y2 W → W.cell? ⟨P, 12, none⟩ = some (.map (some b)) ∧ W.cell? ⟨(w.heap.size + 1), 0, none⟩ = some (.int .i8 x.a) ∧ W.cell? ⟨(w.heap.size + 1), 1, none⟩ = some (.int .i8 x.f0) ∧ W.cell? ⟨(w.heap.size + 1), 2, none⟩ = some (.int .i8 x.t0) ∧ W.cell? ⟨(w.heap.size + 1), 3, none⟩ = some (.int .i8 x.f1) ∧ W.cell? ⟨(w.heap.size + 1), 4, none⟩ = some (.int .i8 x.t1) ∧ W.cell? ⟨(w.heap.size + 1), 5, none⟩ = some (.int .i8 x.f2) ∧ W.cell? ⟨(w.heap.size + 1), 6, none⟩ = some (.int .i8 x.t2) ∧ Hid (Kp y2 W)) := fun W k => ⟨bl_cell (bl_kp P2.out k) 12 _ rfl, bl_cell (bl_kp X2.out k) 0 _ rfl, bl_cell (bl_kp X2.out k) 1 _ rfl, bl_cell (bl_kp X2.out k) 2 _ rfl, bl_cell (bl_kp X2.out k) 3 _ rfl, bl_cell (bl_kp X2.out k) 4 _ rfl, bl_cell (bl_kp X2.out k) 5 _ rfl, bl_cell (bl_kp X2.out k) 6 _ rfl, k⟩
  refine wp_region_noPanic ?_
  refine hdrewZ 6 MK Q0 (fun hH => ?_)
  have KQ := Q0
  refine zk 6 0 [] (some 30) (Op.move (Operand.tmp 1)) 71 (v := ?v0b1) rfl ?h0b1 hH ?_
  case h0b1 => intro _ _; go_simp; try with_reducible rfl
  try simp only [ps]
  refine zk 6 1 [] (some 31) (Op.nilCheck (Operand.tmp 30)) 0 (v := ?v1b2) rfl ?h1b2 hH ?_
  case h1b2 => intro _ _; go_simp; try with_reducible rfl
  try simp only [ps]
  refine zk 6 2 [] (some 32) (Op.fieldAddr 130 (Operand.tmp 31) 8) 0 (v := ?v2b3) rfl ?h2b3 hH ?_
  case h2b3 => intro _ _; go_simp; try with_reducible rfl
  try simp only [ps]
  refine zk 6 3 [] (some 33) (Op.load 127 (Operand.tmp 32)) 127 (v := ?v3b4) rfl ?h3b4 hH ?_
  case h3b4 => intro _ _; go_simp; try with_reducible rfl
  try simp only [ps]
  refine zk 6 4 [] (some 34) (Op.load 83 (Operand.tmp 5)) 83 (v := ?v4b5) rfl ?h4b5 hH ?_
  case h4b5 => intro _ _; go_simp; try with_reducible rfl
  try simp only [ps]
  refine zk 6 5 [] (some 35) (Op.move (Operand.tmp 7)) 68 (v := ?v5b6) rfl ?h5b6 hH ?_
  case h5b6 => intro _ _; go_simp; try with_reducible rfl
  try simp only [ps]
  refine anyZ_ready (rs := [6]) (by kernel_rfl) (by simp) ?_
  refine AllZ.last (o := { dst := none, op := Op.mapUpdate 127 (Operand.tmp 33) (Operand.tmp 34) (Operand.tmp 35), type := 0, pos := "walk.go:32", after := #[{ on := 3, ground := Ground.data }, { on := 4, ground := Ground.data }, { on := 5, ground := Ground.data }, { on := 0, ground := Ground.phase }, { on := 1, ground := Ground.phase }, { on := 2, ground := Ground.phase }, { on := 3, ground := Ground.phase }, { on := 4, ground := Ground.phase }, { on := 5, ground := Ground.phase }], guard := none }) rfl (Or.inl rfl) (fun K hKq => ?_) AllZ.nil
  obtain ⟨wm, hrun, hset, hg⟩ := ((BM.out.imp (KQ.block b BM.out.lt) (fun _ _ h => h) : MapAt _ b (fun x v => SpL y2 (okB M O) v (ways s.data.toList bol (.mk k low high n t P (some b) so rd st h kids) x)))).put Tryz.underlying127 x HX.out v HV.out
  have HSET := hid hset
  have KG := hid ((Kp.kx (S := fun q => q = b) KQ).grown hg (fun k e _ => by injection e with e; exact e.symm))
  clear hset hg
  go_simp
  refine hKq.out _ _ ?_
  clear hrun
  clear hKq K
  try simp only [ps]
  refine anyZ_done (by kernel_rfl) ?_ _
  refine NoPanic.normal ?_
  go_wp2_with fail
  go_ret
  exact ⟨_, rfl, spl_put HMB.out KG.out HV.out, K2.out.trans (KG.out.mono (fun k _ e => by rw [e, HMB.out]; exact fun h => by cases h)), HM2.out.put HMB.out HSET.out KG.out⟩
 ·
  have HL := hid hl
  have HG := hid hG
  clear hl LK hG
  go_cut [7, 8] (fun u q wc => u = v ∧ q = .bool true ∧ Kp W0 wc)
  case first =>
   have Q0 : Drew W0 W0.drew := rfl
   have MK : Hid (∀ W, Drew W0 W → W.cell? ⟨P, 12, none⟩ = some (.map (some b)) ∧ W.cell? ⟨(w.heap.size + 1), 0, none⟩ = some (.int .i8 x.a) ∧ W.cell? ⟨(w.heap.size + 1), 1, none⟩ = some (.int .i8 x.f0) ∧ W.cell? ⟨(w.heap.size + 1), 2, none⟩ = some (.int .i8 x.t0) ∧ W.cell? ⟨(w.heap.size + 1), 3, none⟩ = some (.int .i8 x.f1) ∧ W.cell? ⟨(w.heap.size + 1), 4, none⟩ = some (.int .i8 x.t1) ∧ W.cell? ⟨(w.heap.size + 1), 5, none⟩ = some (.int .i8 x.f2) ∧ W.cell? ⟨(w.heap.size + 1), 6, none⟩ = some (.int .i8 x.t2) ∧ (Instr.lookup 127 (.map (some b)) (spv x) true).run Tryz.prog W = .ok (.tuple #[v, .bool true]) W ∧ Hid (Drew W0 W)) := fun W k => ⟨(by rw [show W = W0.drew from k]; exact bl_cell (bl_drew P0.out) 12 _ rfl), (by rw [show W = W0.drew from k]; exact bl_cell (bl_drew X0.out) 0 _ rfl), (by rw [show W = W0.drew from k]; exact bl_cell (bl_drew X0.out) 1 _ rfl), (by rw [show W = W0.drew from k]; exact bl_cell (bl_drew X0.out) 2 _ rfl), (by rw [show W = W0.drew from k]; exact bl_cell (bl_drew X0.out) 3 _ rfl), (by rw [show W = W0.drew from k]; exact bl_cell (bl_drew X0.out) 4 _ rfl), (by rw [show W = W0.drew from k]; exact bl_cell (bl_drew X0.out) 5 _ rfl), (by rw [show W = W0.drew from k]; exact bl_cell (bl_drew X0.out) 6 _ rfl), (by rw [show W = W0.drew from k]; exact HL.out), k⟩
   refine wp_region_noPanic ?_
   refine hdrew MK Q0 (fun hH => ?_)
   have KQ := Q0
   refine tk 0 (some 16) (Op.move (Operand.tmp 1)) 71 (v := ?v0c1) rfl ?h0c1 hH ?_
   case h0c1 => intro _ _; go_simp; try with_reducible rfl
   try simp only [ps]
   refine tk 1 (some 17) (Op.nilCheck (Operand.tmp 16)) 0 (v := ?v1c2) rfl ?h1c2 hH ?_
   case h1c2 => intro _ _; go_simp; try with_reducible rfl
   try simp only [ps]
   refine tk 2 (some 18) (Op.fieldAddr 130 (Operand.tmp 17) 8) 0 (v := ?v2c3) rfl ?h2c3 hH ?_
   case h2c3 => intro _ _; go_simp; try with_reducible rfl
   try simp only [ps]
   refine tk 3 (some 19) (Op.load 127 (Operand.tmp 18)) 127 (v := ?v3c4) rfl ?h3c4 hH ?_
   case h3c4 => intro _ _; go_simp; try with_reducible rfl
   try simp only [ps]
   refine tk 4 (some 20) (Op.load 83 (Operand.tmp 5)) 83 (v := ?v4c5) rfl ?h4c5 hH ?_
   case h4c5 => intro _ _; go_simp; try with_reducible rfl
   try simp only [ps]
   refine tk 5 (some 21) (Op.lookup 127 (Operand.tmp 19) (Operand.tmp 20) true) 136 (v := ?v5c6) rfl ?h5c6 hH ?_
   case h5c6 => intro _ _; go_simp; try with_reducible rfl
   try simp only [ps]
   refine tk 6 (some 15) (Op.move (Operand.tmp 21)) 136 (v := ?v6c7) rfl ?h6c7 hH ?_
   case h6c7 => intro _ _; go_simp; try with_reducible rfl
   try simp only [ps]
   refine tk 7 (some 22) (Op.extract (Operand.tmp 15) 0) 68 (v := ?v7c8) rfl ?h7c8 hH ?_
   case h7c8 => intro _ _; go_simp; try with_reducible rfl
   try simp only [ps]
   refine tk 8 (some 23) (Op.extract (Operand.tmp 15) 1) 4 (v := ?v8c9) rfl ?h8c9 hH ?_
   case h8c9 => intro _ _; go_simp; try with_reducible rfl
   try simp only [ps]
   refine tk 9 (some 7) (Op.assign (Operand.tmp 22)) 68 (v := ?v9c10) rfl ?h9c10 hH ?_
   case h9c10 => intro _ _; go_simp; try with_reducible rfl
   try simp only [ps]
   refine tk 10 (some 8) (Op.assign (Operand.tmp 23)) 4 (v := ?v10c11) rfl ?h10c11 hH ?_
   case h10c11 => intro _ _; go_simp; try with_reducible rfl
   try simp only [ps]
   refine wpAnyH_done (by kernel_rfl) ?_ _
   refine NoPanic.normal ?_
   go_wp2_with fail
   go_meet
   case rel => exact ⟨rfl, rfl, (Kp.refl _).drew⟩
  case rest =>
  obtain ⟨rfl, rfl, hk⟩ := hcut
  rename World => W1
  have K1 := hid hk
  clear hk
  go_wp2_with fail
  go_ret
  exact ⟨_, rfl, HG.out.keep K1.out.size (fun b hb hl => ⟨hb, K1.out.block b hl⟩), Kp.kx (K0.out.trans K1.out), M0.out.keep (S := fun _ => False) (Kp.kx K1.out) (fun _ _ e => e.elim) (fun _ _ e => e) M0.out.own⟩
end Go.Proofs.YtnajcnhgeggngaaGreat.Way

/-! ### Sorted -/

namespace Go.Proofs.YtnajcnhgeggngaaGreat.Way
set_option maxHeartbeats 2000000
set_option maxRecDepth 100000
open Go.RowKit Go.Proofs.YtnajcnhgeggngaaGreat Go.Maps

theorem zero207 (w : World) : (zeroValue 207).run Tryz.prog w = .ok (.pointer none) w := by
 have := Tryz.zeroValue207
 go_simp
theorem Sp.lacks_lt (y : Sp) : y.lacks < 8 := by
 unfold Sp.lacks
 split <;> split <;> split <;> omega
structure SortD (hd : Nat) (all : List Sp) (ok : Nat → Prop) (R : World → Prop) (e : Ending) (w' : World) : Prop where
 ex : ∃ v, e = .returned v ∧ SoAt w' ok v hd all ∧ R w'
theorem MemOk.putS {M : Nat → Option Memo} {O : Nat → Prop} {w w' : World} {b hd : Nat} {W : Sp → List Sp} (h : MemOk M O w) (hb : M b = some (.so W hd)) (hat : MapAt w' b (fun x v => SoAt w (okB M O) v hd (W x))) (k : Kx (fun q => q = b) w w') : MemOk M O w' := by
 have on : ∀ d, okB M O d → d < w.heap.size → okB M O d ∧ w'.heap[d]? = w.heap[d]? := fun d hd hl => ⟨hd, k.block d hl (fun e => by rw [e] at hd; have := hd.2; rw [hb] at this; cases this)⟩
 refine ⟨fun c m hc => ?_, h.own⟩
 by_cases e : c = b
 ·
  subst e
  rw [hb] at hc
  injection hc with hc
  subst hc
  exact MapAt.imp hat rfl (fun x v q => q.keep k.size on)
 ·
  exact (h.at_ c m hc).keep (k.block c (h.at_ c m hc).lt e) k.size on
theorem so_put {M : Nat → Option Memo} {O : Nat → Prop} {w w' : World} {b hd : Nat} {W : Sp → List Sp} (hb : M b = some (.so W hd)) (k : Kx (fun q => q = b) w w') {v : Value} {hd' : Nat} {xs : List Sp} (h : SoAt w (okB M O) v hd' xs) : SoAt w' (okB M O) v hd' xs :=
 h.keep k.size (fun d hd hl => ⟨hd, k.block d hl (fun e => by rw [e] at hd; have := hd.2; rw [hb] at this; cases this)⟩)
theorem sorted_any (s : ByteArray) (bol : Bool) (M : Nat → Option Memo) (k low high n : Int) (t : W4) (P c : Nat) (kn : Option Nat) (rd st h : Nat) (kids : List Pt) (hh : h < 8) (hMc : M c = some (.so (ways s.data.toList bol (.mk k low high n t P kn (some c) rd st h kids)) h)) (HS : WSaid s bol M (.mk k low high n t P kn (some c) rd st h kids)) (O : Nat → Prop) (x : Sp) (hx : x.Ok) (hN : x.In s.size) (w : World) (hO : ∀ b, O b → b < w.heap.size) (hM : MemOk M O w) (hP : PtAt w (okB M O) (.mk k low high n t P kn (some c) rd st h kids)) :
  Calls Tryz.prog 134 #[wkv s bol, ptv P, spv x] w fun e w' => SortD h (ways s.data.toList bol (.mk k low high n t P kn (some c) rd st h kids) x) (okB M O) (fun w' => Km M w w' ∧ MemOk M O w') e w' := by
 obtain ⟨kv, hblk, hok⟩ : ∃ kv, w.heap[P]? = some (pto k low high n t kv rd st h kn (some c)) ∧ M P = none := by
  unfold PtAt at hP
  obtain ⟨h1, ⟨ad, c, h2, _⟩, _⟩ := hP
  exact ⟨_, h2, h1.2⟩
 have HMC := hid hMc
 have HX := hid hx
 have HH := hid hh
 have HB := hid hblk
 have HMP := hid (show ¬ M P ≠ none from fun e => e hok)
 have HM := hid hM
 have HO := hid hO
 have HMX := hid (show ¬ M (w.heap.size + 1) ≠ none from fun e => e (hM.lt (Nat.le_succ _)))
 have FD := hid (fun (W : World) (k0 : Kp w W) => HS.all O x W hx hN (fun b hb => Nat.lt_of_lt_of_le (hO b hb) k0.size) (PtAt.kp hP k0) (hM.keep (S := fun _ => False) (Kp.kx k0) (fun _ _ e => e.elim) (fun _ _ e => e) hM.own))
 obtain ⟨zs, hzs⟩ : ∃ zs, ways s.data.toList bol (.mk k low high n t P kn (some c) rd st h kids) x = zs := ⟨_, rfl⟩
 have HZS := hid hzs.symm
 have hfew := HS.few x hx hN
 have hgd := HS.good x hx hN
 rw [hzs] at FD hfew hgd ⊢
 obtain ⟨Z, hZ⟩ : ∃ Z, zs.length = Z := ⟨_, rfl⟩
 have HZL := hid hZ
 rw [hZ] at hfew
 have HZF := hid hfew
 have HGD := hid hgd
 clear hMc HS hx hN hO hM hP hblk hok hzs hZ hfew hh hgd
 go_enter Tryz.func134, Tryz.ntmps134
 go_upto_region 1 with fail
 refine opq (fun W0 => W0.heap[w.heap.size]? = some (.cells #[.string s, .bool bol] 70) ∧ W0.heap[(w.heap.size + 1)]? = some (spo x) ∧ W0.heap[P]? = some (pto k low high n t kv rd st h kn (some c)) ∧ Kp w W0) ⟨by exact bl_alloc (last_of _ _) _, by exact last_at _ _ _ (by simp), by exact bl_kp HB.out kpt, by exact kpt⟩ ?_
 rintro W0 ⟨xT0, xX0, xP0, xK0⟩
 have T0 := hid xT0
 have X0 := hid xX0
 have P0 := hid xP0
 have K0 := hid xK0
 clear xT0 xX0 xP0 xK0
 have M0 := hid (HM.out.keep (S := fun _ => False) (Kp.kx K0.out) (fun _ _ e => e.elim) (fun _ _ e => e) HM.out.own)
 have B0 : Hid (MapAt W0.drew c (fun x v => SoAt W0 (okB M O) v h (ways s.data.toList bol (.mk k low high n t P kn (some c) rd st h kids) x))) := MapAt.imp (M0.out.at_ c _ HMC.out) rfl (fun _ _ h => h)
 have LK := hid (B0.out.look Tryz.underlying128 (zero207 _) x HX.out)
 clear HB
 rcases LK.out with hl | ⟨v, hl, hG⟩
 ·
  have HL := hid hl
  clear hl LK
  go_cut [7, 8] (fun v q wc => v = .pointer none ∧ q = .bool false ∧ Kp W0 wc)
  case first =>
   have Q0 : Drew W0 W0.drew := rfl
   have MK : Hid (∀ W, Drew W0 W → W.cell? ⟨P, 13, none⟩ = some (.map (some c)) ∧ W.cell? ⟨(w.heap.size + 1), 0, none⟩ = some (.int .i8 x.a) ∧ W.cell? ⟨(w.heap.size + 1), 1, none⟩ = some (.int .i8 x.f0) ∧ W.cell? ⟨(w.heap.size + 1), 2, none⟩ = some (.int .i8 x.t0) ∧ W.cell? ⟨(w.heap.size + 1), 3, none⟩ = some (.int .i8 x.f1) ∧ W.cell? ⟨(w.heap.size + 1), 4, none⟩ = some (.int .i8 x.t1) ∧ W.cell? ⟨(w.heap.size + 1), 5, none⟩ = some (.int .i8 x.f2) ∧ W.cell? ⟨(w.heap.size + 1), 6, none⟩ = some (.int .i8 x.t2) ∧ (Instr.lookup 128 (.map (some c)) (spv x) true).run Tryz.prog W = .ok (.tuple #[.pointer none, .bool false]) W ∧ Hid (Drew W0 W)) := fun W k => ⟨(by rw [show W = W0.drew from k]; exact bl_cell (bl_drew P0.out) 13 _ rfl), (by rw [show W = W0.drew from k]; exact bl_cell (bl_drew X0.out) 0 _ rfl), (by rw [show W = W0.drew from k]; exact bl_cell (bl_drew X0.out) 1 _ rfl), (by rw [show W = W0.drew from k]; exact bl_cell (bl_drew X0.out) 2 _ rfl), (by rw [show W = W0.drew from k]; exact bl_cell (bl_drew X0.out) 3 _ rfl), (by rw [show W = W0.drew from k]; exact bl_cell (bl_drew X0.out) 4 _ rfl), (by rw [show W = W0.drew from k]; exact bl_cell (bl_drew X0.out) 5 _ rfl), (by rw [show W = W0.drew from k]; exact bl_cell (bl_drew X0.out) 6 _ rfl), (by rw [show W = W0.drew from k]; exact HL.out), k⟩
   refine wp_region_noPanic ?_
   refine hdrew MK Q0 (fun hH => ?_)
   have KQ := Q0
   refine tk 0 (some 14) (Op.move (Operand.tmp 1)) 71 (v := ?v0a1) rfl ?h0a1 hH ?_
   case h0a1 => intro _ _; go_simp; try with_reducible rfl
   try simp only [ps]
   refine tk 1 (some 15) (Op.nilCheck (Operand.tmp 14)) 0 (v := ?v1a2) rfl ?h1a2 hH ?_
   case h1a2 => intro _ _; go_simp; try with_reducible rfl
   try simp only [ps]
   refine tk 2 (some 16) (Op.fieldAddr 130 (Operand.tmp 15) 9) 0 (v := ?v2a3) rfl ?h2a3 hH ?_
   case h2a3 => intro _ _; go_simp; try with_reducible rfl
   try simp only [ps]
   refine tk 3 (some 17) (Op.load 128 (Operand.tmp 16)) 128 (v := ?v3a4) rfl ?h3a4 hH ?_
   case h3a4 => intro _ _; go_simp; try with_reducible rfl
   try simp only [ps]
   refine tk 4 (some 18) (Op.load 83 (Operand.tmp 5)) 83 (v := ?v4a5) rfl ?h4a5 hH ?_
   case h4a5 => intro _ _; go_simp; try with_reducible rfl
   try simp only [ps]
   refine tk 5 (some 19) (Op.lookup 128 (Operand.tmp 17) (Operand.tmp 18) true) 216 (v := ?v5a6) rfl ?h5a6 hH ?_
   case h5a6 => intro _ _; go_simp; try with_reducible rfl
   try simp only [ps]
   refine tk 6 (some 13) (Op.move (Operand.tmp 19)) 216 (v := ?v6a7) rfl ?h6a7 hH ?_
   case h6a7 => intro _ _; go_simp; try with_reducible rfl
   try simp only [ps]
   refine tk 7 (some 20) (Op.extract (Operand.tmp 13) 0) 207 (v := ?v7a8) rfl ?h7a8 hH ?_
   case h7a8 => intro _ _; go_simp; try with_reducible rfl
   try simp only [ps]
   refine tk 8 (some 21) (Op.extract (Operand.tmp 13) 1) 4 (v := ?v8a9) rfl ?h8a9 hH ?_
   case h8a9 => intro _ _; go_simp; try with_reducible rfl
   try simp only [ps]
   refine tk 9 (some 7) (Op.assign (Operand.tmp 20)) 207 (v := ?v9a10) rfl ?h9a10 hH ?_
   case h9a10 => intro _ _; go_simp; try with_reducible rfl
   try simp only [ps]
   refine tk 10 (some 8) (Op.assign (Operand.tmp 21)) 4 (v := ?v10a11) rfl ?h10a11 hH ?_
   case h10a11 => intro _ _; go_simp; try with_reducible rfl
   try simp only [ps]
   refine wpAnyH_done (by kernel_rfl) ?_ _
   refine NoPanic.normal ?_
   go_wp2_with fail
   go_meet
   case rel => exact ⟨rfl, rfl, (Kp.refl _).drew⟩
  case rest =>
  obtain ⟨rfl, rfl, hk⟩ := hcut
  rename World => W1
  have T1 := hid (bl_kp T0.out hk)
  have X1 := hid (bl_kp X0.out hk)
  have P1 := hid (bl_kp P0.out hk)
  have FD1 := hid (FD.out W1 (K0.out.trans hk))
  have K1 := hid (K0.out.trans hk)
  clear hk T0 X0 P0 FD HL B0 M0 K0
  have t0 := bl_cell (T1.out) 0 _ rfl
  have t1 := bl_cell (T1.out) 1 _ rfl
  obtain ⟨x0, x1, x2, x3, x4, x5, x6⟩ := cells7 (X1.out)
  go_wp2_with fail
  clear t0 t1 x0 x1 x2 x3 x4 x5 x6
  refine (FD1.out).mono ?_
  rintro e y2 ⟨⟨v, rfl, hv, hk, hm⟩⟩
  obtain ⟨ad, cc, hvv, hlc, -⟩ := hv.ex
  rw [HZL.out] at hvv hlc
  subst hvv
  have HV := hid hv
  have HM2 := hid hm
  have X2 := hid (bl_kx X1.out hk HMX.out)
  have P2 := hid (bl_kx P1.out hk HMP.out)
  have K2 := hid ((Kp.kx K1.out).trans hk)
  clear hv hk hm X1 P1 T1 K1 FD1
  go_upto_region 5 with fail
  refine opq (fun W2 => SoW y2.heap.size (.slice ad Z cc) h zs 0 (fun _ => .slice none 0 0) W2 ∧ Kp y2 W2) ⟨by exact SoW.start _ _ (last_of _ _), by exact kpt⟩ ?_
  rintro W2 ⟨xR2, xY2⟩
  have R2 := hid xR2
  have Y2 := hid xY2
  clear xR2 xY2
  have s0 := bl_cell (R2.out.b) 0 _ rfl
  go_wp2_with fail
  clear s0
  go_loopg [35] Z (fun gg i wr => ∃ (q : Nat) (f : Nat → Value), q + gg = Z ∧ i = .int .i64 (q : Int) ∧ SoW y2.heap.size (.slice ad Z cc) h zs q f wr ∧ Kp y2 wr)
  case atStart => exact ⟨0, _, by omega, rfl, R2.out, Y2.out⟩
  case round =>
   obtain ⟨q, f, hq, rfl, hR, hK⟩ := hrel
   have R6 := hid hR
   have Y6 := hid hK
   have X6 := hid (bl_kp X2.out hK)
   have P6 := hid (bl_kp P2.out hK)
   have S6 := hid (HV.out.keep (ok' := okB M O) hK.size (fun b hb hl => ⟨hb, hK.block b hl⟩))
   clear hR hK
   by_cases hlt : q < Z
   ·
    have gkw : IntKind.i64.wrap ((q : Int) + 1) = (q : Int) + 1 := by have := HZF.out; rw [IntKind.wrap_i64]; omega
    have ga : (q : Int) < (Z : Int) := by omega
    have g0 : (0 : Int) ≤ (q : Int) := by omega
    obtain ⟨y, hy⟩ : ∃ y, zs[q]? = some y := ⟨_, List.getElem?_eq_getElem (by rw [HZL.out]; exact hlt)⟩
    obtain ⟨ad2, c2, hv2, _, hc2⟩ := S6.out.ex
    injection hv2 with e1 e2 e3
    obtain ⟨b2, hbb, _, hbl, hce⟩ := hc2 (by rw [HZL.out]; omega)
    rw [← e1] at hbb
    subst hbb
    have hsp := hce q y hy
    have HY := hid hy
    have x0 := hsp.c0
    have x1 := hsp.c1
    have x2 := hsp.c2
    have x3 := hsp.c3
    have x4 := hsp.c4
    have x5 := hsp.c5
    have x6 := hsp.c6
    clear hsp hce hy e1 e2 e3 hc2
    obtain ⟨G, hG⟩ : ∃ G, cls h y = G := ⟨_, rfl⟩
    have HGE := hid hG
    have HG := hid (show G < 8 by rw [← hG]; exact and_lt8 _ _ HH.out)
    have LA := hid (fun W => lacks_any y W)
    have gand : bits .and .u8 ((y.lacks : Nat) : Int) (h : Int) = (G : Int) := by
     rw [← hG]
     exact u8_and y.lacks h (Sp.lacks_lt y) HH.out
    clear hG
    go_upto_region 8 with fail
    refine opq (fun W6 => W6.heap[wr.heap.size]? = some (spo y) ∧ W6.heap[P]? = some (pto k low high n t kv rd st h kn (some c)) ∧ SoW y2.heap.size (.slice (some ⟨b2, 0, none⟩) Z cc) h zs q f W6 ∧ Kp y2 W6) ⟨by exact last_of _ _, by exact bl_alloc P6.out _, by exact R6.out.kp ((Kp.refl _).alloc _), by exact Y6.out.alloc _⟩ ?_
    rintro W6 ⟨xY7, xP7, xR7, xK7⟩
    have Y7 := hid xY7
    have P7 := hid xP7
    have R7 := hid xR7
    have K7 := hid xK7
    clear xY7 xP7 xR7 xK7
    clear x0 x1 x2 x3 x4 x5 x6 R6 S6 Y6 X6 P6
    go_cut [12] (fun v wc => v = .int .u8 (G : Int) ∧ Kp W6 wc)
    case first =>
     have Q0 : Kp W6 W6.drew := (Kp.refl _).drew
     have MK : Hid (∀ W, Kp W6 W → W.cell? ⟨wr.heap.size, 0, none⟩ = some (.int .i8 y.a) ∧ W.cell? ⟨wr.heap.size, 1, none⟩ = some (.int .i8 y.f0) ∧ W.cell? ⟨wr.heap.size, 2, none⟩ = some (.int .i8 y.t0) ∧ W.cell? ⟨wr.heap.size, 3, none⟩ = some (.int .i8 y.f1) ∧ W.cell? ⟨wr.heap.size, 4, none⟩ = some (.int .i8 y.t1) ∧ W.cell? ⟨wr.heap.size, 5, none⟩ = some (.int .i8 y.f2) ∧ W.cell? ⟨wr.heap.size, 6, none⟩ = some (.int .i8 y.t2) ∧ W.cell? ⟨P, 11, none⟩ = some (.int .u8 (h : Int)) ∧ Hid (Kp W6 W)) := fun W k => ⟨bl_cell (bl_kp Y7.out k) 0 _ rfl, bl_cell (bl_kp Y7.out k) 1 _ rfl, bl_cell (bl_kp Y7.out k) 2 _ rfl, bl_cell (bl_kp Y7.out k) 3 _ rfl, bl_cell (bl_kp Y7.out k) 4 _ rfl, bl_cell (bl_kp Y7.out k) 5 _ rfl, bl_cell (bl_kp Y7.out k) 6 _ rfl, bl_cell (bl_kp P7.out k) 11 _ rfl, k⟩
     refine wp_region_noPanic ?_
     refine hdrew MK Q0 (fun hH => ?_)
     have KQ := Q0
     refine tk 0 (some 40) (Op.load 83 (Operand.tmp 11)) 83 (v := ?v0d1) rfl ?h0d1 hH ?_
     case h0d1 => intro _ _; go_simp; try with_reducible rfl
     try simp only [ps]
     refine tk 2 (some 42) (Op.move (Operand.tmp 1)) 71 (v := ?v2d2) rfl ?h2d2 hH ?_
     case h2d2 => intro _ _; go_simp; try with_reducible rfl
     try simp only [ps]
     refine tk 3 (some 43) (Op.nilCheck (Operand.tmp 42)) 0 (v := ?v3d3) rfl ?h3d3 hH ?_
     case h3d3 => intro _ _; go_simp; try with_reducible rfl
     try simp only [ps]
     refine tk 4 (some 44) (Op.fieldAddr 130 (Operand.tmp 43) 7) 0 (v := ?v4d4) rfl ?h4d4 hH ?_
     case h4d4 => intro _ _; go_simp; try with_reducible rfl
     try simp only [ps]
     refine tk 5 (some 45) (Op.load 75 (Operand.tmp 44)) 75 (v := ?v5d5) rfl ?h5d5 hH ?_
     case h5d5 => intro _ _; go_simp; try with_reducible rfl
     try simp only [ps]
     refine wpAnyH_ready (rs := [1]) (by kernel_rfl) (by simp) ?_
     refine AllReadyH.cons (o := { dst := some 41, op := Op.call { callee := Callee.value (Operand.func 141), args := #[Operand.tmp 40], argTypes := #[83] }, type := 75, pos := "repeat.go:91", after := #[{ on := 0, ground := Ground.data }], guard := none }) rfl (fun K hKq => ?_) AllReadyH.nil
     go_simp
     refine (LA.out _).mono ?_
     rintro e y1 ⟨rfl, kq⟩
     refine hKq.out _ _ (MK.out _ (KQ.trans kq)) (fun hN => ?_)
     clear kq
     clear hKq K hH KQ
     have hH := hN
     clear hN
     have KQ := hH.2.2.2.2.2.2.2.2.out
     try simp only [ps]
     refine tk 6 (some 46) (Op.binOp BinOp.and 75 (Operand.tmp 41) (Operand.tmp 45) 75) 75 (v := ?v6d6) rfl ?h6d6 hH ?_
     case h6d6 => intro _ _; go_simp; try with_reducible rfl
     try simp only [ps]
     refine tk 7 (some 12) (Op.assign (Operand.tmp 46)) 75 (v := ?v7d7) rfl ?h7d7 hH ?_
     case h7d7 => intro _ _; go_simp; try with_reducible rfl
     try simp only [ps]
     refine wpAnyH_done (by kernel_rfl) ?_ _
     refine NoPanic.normal ?_
     go_wp2_with fail
     go_meet
     case rel => exact ⟨rfl, KQ⟩
    case rest =>
    obtain ⟨rfl, hk⟩ := hcut
    rename World => W8
    have R8 := hid (R7.out.kp hk)
    have K8 := hid (K7.out.trans hk)
    have HSF := hid (show ¬ (f G).ownBlock = some y2.heap.size from fun e => by have := ((R8.out.row G HG.out).block _ e).1; omega)
    have g8 : (G : Int) < 8 := by have := HG.out; omega
    have g00 : (0 : Int) ≤ (G : Int) := by omega
    clear hk Y7 P7 R7 K7 gand LA
    go_upto_region 9 with fail
    have Q0 : Kx (fun b => (f G).ownBlock = some b) W8 W8.drew := (Kx.refl _ _).drew
    have MK : Hid (∀ W, Kx (fun b => (f G).ownBlock = some b) W8 W → W.cell? ⟨y2.heap.size, 1 + G, none⟩ = some (f G) ∧ Hid (Kx (fun b => (f G).ownBlock = some b) W8 W)) := fun W k => ⟨(cell_same (k.block _ (bl_lt R8.out.b) HSF.out) _).trans (sob_cell R8.out.b HG.out), k⟩
    refine wp_region_noPanic ?_
    refine hdrewZ 14 MK Q0 (fun hH => ?_)
    have KQ := Q0
    refine zk 14 0 [] (some 47) (Op.move (Operand.tmp 9)) 207 (v := ?v0e1) rfl ?h0e1 hH ?_
    case h0e1 => intro _ _; go_simp; try with_reducible rfl
    try simp only [ps]
    refine zk 14 1 [] (some 48) (Op.move (Operand.tmp 12)) 75 (v := ?v1e2) rfl ?h1e2 hH ?_
    case h1e2 => intro _ _; go_simp; try with_reducible rfl
    try simp only [ps]
    refine zk 14 2 [] (some 49) (Op.move (Operand.tmp 9)) 207 (v := ?v2e3) rfl ?h2e3 hH ?_
    case h2e3 => intro _ _; go_simp; try with_reducible rfl
    try simp only [ps]
    refine zk 14 3 [] (some 50) (Op.move (Operand.tmp 12)) 75 (v := ?v3e4) rfl ?h3e4 hH ?_
    case h3e4 => intro _ _; go_simp; try with_reducible rfl
    try simp only [ps]
    refine zk 14 4 [] (some 51) (Op.nilCheck (Operand.tmp 49)) 0 (v := ?v4e5) rfl ?h4e5 hH ?_
    case h4e5 => intro _ _; go_simp; try with_reducible rfl
    try simp only [ps]
    refine zk 14 5 [] (some 52) (Op.fieldAddr 212 (Operand.tmp 51) 1) 0 (v := ?v5e6) rfl ?h5e6 hH ?_
    case h5e6 => intro _ _; go_simp; try with_reducible rfl
    try simp only [ps]
    refine zk 14 6 [] (some 53) (Op.indexAddr 210 (Operand.tmp 52) (Operand.tmp 50)) 0 (v := ?v6e7) rfl ?h6e7 hH ?_
    case h6e7 => intro _ _; go_simp; try with_reducible rfl
    try simp only [ps]
    refine zk 14 7 [] (some 54) (Op.load 40 (Operand.tmp 53)) 40 (v := ?v7e8) rfl ?h7e8 hH ?_
    case h7e8 => intro _ _; go_simp; try with_reducible rfl
    try simp only [ps]
    refine zk 14 8 [] (some 55) (Op.move (Operand.tmp 10)) 3 (v := ?v8e9) rfl ?h8e9 hH ?_
    case h8e9 => intro _ _; go_simp; try with_reducible rfl
    try simp only [ps]
    refine zk 14 11 [13, 12] (some 58) (Op.nilCheck (Operand.tmp 47)) 0 (v := ?v11e10) rfl ?h11e10 hH ?_
    case h11e10 => intro _ _; go_simp; try with_reducible rfl
    try simp only [ps]
    refine zk 14 12 [13] (some 59) (Op.fieldAddr 212 (Operand.tmp 58) 1) 0 (v := ?v12e11) rfl ?h12e11 hH ?_
    case h12e11 => intro _ _; go_simp; try with_reducible rfl
    try simp only [ps]
    refine anyZ_ready (rs := [9]) (by kernel_rfl) (by simp) ?_
    refine AllZ.cons (o := { dst := some 56, op := Op.buildSlice 40 1 #[(0, Operand.tmp 55)], type := 40, pos := "repeat.go:92", after := #[{ on := 8, ground := Ground.data }], guard := none }) rfl (fun K hKq => ?_) AllZ.nil
    go_simp
    refine hKq.out _ _ (MK.out _ (KQ.alloc _)) (fun hN => ?_)
    clear hKq K hH KQ
    have hH := hN
    clear hN
    have KQ := hH.2.out
    try simp only [ps]
    refine anyZ_ready (rs := [10]) (by kernel_rfl) (by simp) ?_
    refine AllZ.cons (o := { dst := some 57, op := Op.call { callee := Callee.builtin Builtin.append, args := #[Operand.tmp 54, Operand.tmp 56], argTypes := #[40, 40] }, type := 40, pos := "repeat.go:92", after := #[{ on := 7, ground := Ground.data }, { on := 9, ground := Ground.data }], guard := none }) rfl (fun K hKq => ?_) AllZ.nil
    refine step_append_nu _ (by rfl) _ _ (by rfl) (y2.heap.size + 1) (f G) (plq h zs q G) q (by rfl) W8.heap.size (by rfl) ((R8.out.row G HG.out).kp (((Kp.refl _).drew).alloc _)) (bl_cell (last_of _ _) 0 _ rfl) (by have := plq_len h zs q G; have := HZF.out; omega) (by have := bl_lt R8.out.b; simp; omega) ?_
    rintro v' w' md
    obtain ⟨ad', c', hv', _⟩ := md.row.form
    obtain ⟨n', hn'⟩ : ∃ n', (plq h zs q G ++ [q]).length = n' := ⟨_, rfl⟩
    rw [hn'] at hv'
    subst hv'
    have MD := hid md
    clear md hn'
    refine hKq.out _ _ (MK.out _ (KQ.grown MD.out.grown (fun k e _ => e))) (fun hN => ?_)
    clear hKq K hH KQ
    have hH := hN
    clear hN
    have KQ := hH.2.out
    try simp only [ps]
    refine zk 14 13 [] (some 60) (Op.indexAddr 210 (Operand.tmp 59) (Operand.tmp 48)) 0 (v := ?v13e12) rfl ?h13e12 hH ?_
    case h13e12 => intro _ _; go_simp; try with_reducible rfl
    try simp only [ps]
    refine anyZ_ready (rs := [14]) (by kernel_rfl) (by simp) ?_
    refine AllZ.last (o := { dst := none, op := Op.store 40 (Operand.tmp 60) (Operand.tmp 57), type := 0, pos := "repeat.go:92", after := #[{ on := 13, ground := Ground.data }, { on := 10, ground := Ground.data }, { on := 10, ground := Ground.chain }, { on := 0, ground := Ground.phase }, { on := 1, ground := Ground.phase }, { on := 2, ground := Ground.phase }, { on := 3, ground := Ground.phase }, { on := 4, ground := Ground.phase }, { on := 5, ground := Ground.phase }, { on := 6, ground := Ground.phase }, { on := 7, ground := Ground.phase }, { on := 8, ground := Ground.phase }, { on := 9, ground := Ground.phase }, { on := 10, ground := Ground.phase }], guard := none }) rfl (Or.inl rfl) (fun K hKq => ?_) AllZ.nil
    have c1 := (cell_same (KQ.block _ (bl_lt R8.out.b) HSF.out) (1 + G)).trans (sob_cell R8.out.b HG.out)
    have f1 := bl_frozen ((KQ.block _ (bl_lt R8.out.b) HSF.out).trans R8.out.b) (1 + G)
    go_simp
    refine hKq.out _ _ ?_
    clear c1 f1
    clear hKq K
    try simp only [ps]
    refine anyZ_done (by kernel_rfl) ?_ _
    refine NoPanic.normal ?_
    go_wp2_with fail
    go_roundg (gk - 1)
    case measure => omega
    case rel => exact ⟨q + 1, turnF f G _, by omega, by go_num, (R8.out.kp (((Kp.refl _).drew).alloc _)).step HG.out HY.out HGE.out MD.out rfl, (((Kp.kx (S := fun _ => False) K8.out).past2 KQ (fun k hk e => by have := ((R8.out.row G HG.out).block k e).1; omega)).set (fun h => absurd h (Nat.lt_irrefl _)) _ _).kp⟩
   ·
    have ga : ¬ (q : Int) < (Z : Int) := by omega
    obtain rfl : q = Z := by omega
    have SA := hid ((show SoW y2.heap.size (.slice ad zs.length cc) h zs zs.length f wr from by rw [HZL.out]; exact R6.out).done (ok := okB M O) (by rw [HZL.out]; exact S6.out) (fun b hb => ⟨fun o => by have := HO.out b o; have := K2.out.size; omega, HM2.out.lt hb⟩))
    have M6 := hid (HM2.out.keep (S := fun _ => False) (Kp.kx Y6.out) (fun _ _ e => e.elim) (fun _ _ e => e) HM2.out.own)
    have K6 := hid (K2.out.then Y6.out)
    have BM : Hid (MapAt wr c (fun x v => SoAt wr (okB M O) v h (ways s.data.toList bol (.mk k low high n t P kn (some c) rd st h kids) x))) := M6.out.at_ c _ HMC.out
    rw [HZS.out] at SA
    go_upto_region 11 with fail
    have Q0 : Kp wr wr.drew := (Kp.refl _).drew
    have MK : Hid (∀ W, Kp wr W → W.cell? ⟨P, 13, none⟩ = some (.map (some c)) ∧ W.cell? ⟨(w.heap.size + 1), 0, none⟩ = some (.int .i8 x.a) ∧ W.cell? ⟨(w.heap.size + 1), 1, none⟩ = some (.int .i8 x.f0) ∧ W.cell? ⟨(w.heap.size + 1), 2, none⟩ = some (.int .i8 x.t0) ∧ W.cell? ⟨(w.heap.size + 1), 3, none⟩ = some (.int .i8 x.f1) ∧ W.cell? ⟨(w.heap.size + 1), 4, none⟩ = some (.int .i8 x.t1) ∧ W.cell? ⟨(w.heap.size + 1), 5, none⟩ = some (.int .i8 x.f2) ∧ W.cell? ⟨(w.heap.size + 1), 6, none⟩ = some (.int .i8 x.t2) ∧ Hid (Kp wr W)) := fun W k => ⟨bl_cell (bl_kp P6.out k) 13 _ rfl, bl_cell (bl_kp X6.out k) 0 _ rfl, bl_cell (bl_kp X6.out k) 1 _ rfl, bl_cell (bl_kp X6.out k) 2 _ rfl, bl_cell (bl_kp X6.out k) 3 _ rfl, bl_cell (bl_kp X6.out k) 4 _ rfl, bl_cell (bl_kp X6.out k) 5 _ rfl, bl_cell (bl_kp X6.out k) 6 _ rfl, k⟩
    refine wp_region_noPanic ?_
    refine hdrewZ 6 MK Q0 (fun hH => ?_)
    have KQ := Q0
    refine zk 6 0 [] (some 62) (Op.move (Operand.tmp 1)) 71 (v := ?v0b1) rfl ?h0b1 hH ?_
    case h0b1 => intro _ _; go_simp; try with_reducible rfl
    try simp only [ps]
    refine zk 6 1 [] (some 63) (Op.nilCheck (Operand.tmp 62)) 0 (v := ?v1b2) rfl ?h1b2 hH ?_
    case h1b2 => intro _ _; go_simp; try with_reducible rfl
    try simp only [ps]
    refine zk 6 2 [] (some 64) (Op.fieldAddr 130 (Operand.tmp 63) 9) 0 (v := ?v2b3) rfl ?h2b3 hH ?_
    case h2b3 => intro _ _; go_simp; try with_reducible rfl
    try simp only [ps]
    refine zk 6 3 [] (some 65) (Op.load 128 (Operand.tmp 64)) 128 (v := ?v3b4) rfl ?h3b4 hH ?_
    case h3b4 => intro _ _; go_simp; try with_reducible rfl
    try simp only [ps]
    refine zk 6 4 [] (some 66) (Op.load 83 (Operand.tmp 5)) 83 (v := ?v4b5) rfl ?h4b5 hH ?_
    case h4b5 => intro _ _; go_simp; try with_reducible rfl
    try simp only [ps]
    refine zk 6 5 [] (some 67) (Op.move (Operand.tmp 9)) 207 (v := ?v5b6) rfl ?h5b6 hH ?_
    case h5b6 => intro _ _; go_simp; try with_reducible rfl
    try simp only [ps]
    refine anyZ_ready (rs := [6]) (by kernel_rfl) (by simp) ?_
    refine AllZ.last (o := { dst := none, op := Op.mapUpdate 128 (Operand.tmp 65) (Operand.tmp 66) (Operand.tmp 67), type := 0, pos := "repeat.go:94", after := #[{ on := 3, ground := Ground.data }, { on := 4, ground := Ground.data }, { on := 5, ground := Ground.data }, { on := 0, ground := Ground.phase }, { on := 1, ground := Ground.phase }, { on := 2, ground := Ground.phase }, { on := 3, ground := Ground.phase }, { on := 4, ground := Ground.phase }, { on := 5, ground := Ground.phase }], guard := none }) rfl (Or.inl rfl) (fun K hKq => ?_) AllZ.nil
    obtain ⟨wm, hrun, hset, hg⟩ := ((BM.out.imp (KQ.block c BM.out.lt) (fun _ _ h => h) : MapAt _ c (fun x v => SoAt wr (okB M O) v h (ways s.data.toList bol (.mk k low high n t P kn (some c) rd st h kids) x)))).put Tryz.underlying128 x HX.out (.pointer (some ⟨y2.heap.size, 0, none⟩)) SA.out
    have HSET := hid hset
    have KG := hid ((Kp.kx (S := fun q => q = c) KQ).grown hg (fun k e _ => by injection e with e; exact e.symm))
    clear hset hg
    go_simp
    refine hKq.out _ _ ?_
    clear hrun
    clear hKq K
    try simp only [ps]
    refine anyZ_done (by kernel_rfl) ?_ _
    refine NoPanic.normal ?_
    go_wp2_with fail
    go_ret
    exact ⟨_, rfl, by rw [HZS.out]; exact so_put HMC.out KG.out SA.out, (K6.out.trans (KG.out.mono (fun k _ e => by rw [e, HMC.out]; exact fun h => by cases h))), M6.out.putS HMC.out HSET.out KG.out⟩
 ·
  have HL := hid hl
  have HG := hid hG
  clear hl LK hG
  go_cut [7, 8] (fun u q wc => u = v ∧ q = .bool true ∧ Kp W0 wc)
  case first =>
   have Q0 : Drew W0 W0.drew := rfl
   have MK : Hid (∀ W, Drew W0 W → W.cell? ⟨P, 13, none⟩ = some (.map (some c)) ∧ W.cell? ⟨(w.heap.size + 1), 0, none⟩ = some (.int .i8 x.a) ∧ W.cell? ⟨(w.heap.size + 1), 1, none⟩ = some (.int .i8 x.f0) ∧ W.cell? ⟨(w.heap.size + 1), 2, none⟩ = some (.int .i8 x.t0) ∧ W.cell? ⟨(w.heap.size + 1), 3, none⟩ = some (.int .i8 x.f1) ∧ W.cell? ⟨(w.heap.size + 1), 4, none⟩ = some (.int .i8 x.t1) ∧ W.cell? ⟨(w.heap.size + 1), 5, none⟩ = some (.int .i8 x.f2) ∧ W.cell? ⟨(w.heap.size + 1), 6, none⟩ = some (.int .i8 x.t2) ∧ (Instr.lookup 128 (.map (some c)) (spv x) true).run Tryz.prog W = .ok (.tuple #[v, .bool true]) W ∧ Hid (Drew W0 W)) := fun W k => ⟨(by rw [show W = W0.drew from k]; exact bl_cell (bl_drew P0.out) 13 _ rfl), (by rw [show W = W0.drew from k]; exact bl_cell (bl_drew X0.out) 0 _ rfl), (by rw [show W = W0.drew from k]; exact bl_cell (bl_drew X0.out) 1 _ rfl), (by rw [show W = W0.drew from k]; exact bl_cell (bl_drew X0.out) 2 _ rfl), (by rw [show W = W0.drew from k]; exact bl_cell (bl_drew X0.out) 3 _ rfl), (by rw [show W = W0.drew from k]; exact bl_cell (bl_drew X0.out) 4 _ rfl), (by rw [show W = W0.drew from k]; exact bl_cell (bl_drew X0.out) 5 _ rfl), (by rw [show W = W0.drew from k]; exact bl_cell (bl_drew X0.out) 6 _ rfl), (by rw [show W = W0.drew from k]; exact HL.out), k⟩
   refine wp_region_noPanic ?_
   refine hdrew MK Q0 (fun hH => ?_)
   have KQ := Q0
   refine tk 0 (some 14) (Op.move (Operand.tmp 1)) 71 (v := ?v0c1) rfl ?h0c1 hH ?_
   case h0c1 => intro _ _; go_simp; try with_reducible rfl
   try simp only [ps]
   refine tk 1 (some 15) (Op.nilCheck (Operand.tmp 14)) 0 (v := ?v1c2) rfl ?h1c2 hH ?_
   case h1c2 => intro _ _; go_simp; try with_reducible rfl
   try simp only [ps]
   refine tk 2 (some 16) (Op.fieldAddr 130 (Operand.tmp 15) 9) 0 (v := ?v2c3) rfl ?h2c3 hH ?_
   case h2c3 => intro _ _; go_simp; try with_reducible rfl
   try simp only [ps]
   refine tk 3 (some 17) (Op.load 128 (Operand.tmp 16)) 128 (v := ?v3c4) rfl ?h3c4 hH ?_
   case h3c4 => intro _ _; go_simp; try with_reducible rfl
   try simp only [ps]
   refine tk 4 (some 18) (Op.load 83 (Operand.tmp 5)) 83 (v := ?v4c5) rfl ?h4c5 hH ?_
   case h4c5 => intro _ _; go_simp; try with_reducible rfl
   try simp only [ps]
   refine tk 5 (some 19) (Op.lookup 128 (Operand.tmp 17) (Operand.tmp 18) true) 216 (v := ?v5c6) rfl ?h5c6 hH ?_
   case h5c6 => intro _ _; go_simp; try with_reducible rfl
   try simp only [ps]
   refine tk 6 (some 13) (Op.move (Operand.tmp 19)) 216 (v := ?v6c7) rfl ?h6c7 hH ?_
   case h6c7 => intro _ _; go_simp; try with_reducible rfl
   try simp only [ps]
   refine tk 7 (some 20) (Op.extract (Operand.tmp 13) 0) 207 (v := ?v7c8) rfl ?h7c8 hH ?_
   case h7c8 => intro _ _; go_simp; try with_reducible rfl
   try simp only [ps]
   refine tk 8 (some 21) (Op.extract (Operand.tmp 13) 1) 4 (v := ?v8c9) rfl ?h8c9 hH ?_
   case h8c9 => intro _ _; go_simp; try with_reducible rfl
   try simp only [ps]
   refine tk 9 (some 7) (Op.assign (Operand.tmp 20)) 207 (v := ?v9c10) rfl ?h9c10 hH ?_
   case h9c10 => intro _ _; go_simp; try with_reducible rfl
   try simp only [ps]
   refine tk 10 (some 8) (Op.assign (Operand.tmp 21)) 4 (v := ?v10c11) rfl ?h10c11 hH ?_
   case h10c11 => intro _ _; go_simp; try with_reducible rfl
   try simp only [ps]
   refine wpAnyH_done (by kernel_rfl) ?_ _
   refine NoPanic.normal ?_
   go_wp2_with fail
   go_meet
   case rel => exact ⟨rfl, rfl, (Kp.refl _).drew⟩
  case rest =>
  obtain ⟨rfl, rfl, hk⟩ := hcut
  rename World => W1
  have K1 := hid hk
  clear hk
  go_wp2_with fail
  go_ret
  exact ⟨_, rfl, by rw [HZS.out]; exact HG.out.keep K1.out.size (fun b hb hl => ⟨hb, K1.out.block b hl⟩), Kp.kx (K0.out.trans K1.out), M0.out.keep (S := fun _ => False) (Kp.kx K1.out) (fun _ _ e => e.elim) (fun _ _ e => e) M0.out.own⟩
end Go.Proofs.YtnajcnhgeggngaaGreat.Way

/-! ### Next -/

namespace Go.Proofs.YtnajcnhgeggngaaGreat.Way
set_option maxHeartbeats 2000000
set_option maxRecDepth 100000
open Go.RowKit Go.Proofs.YtnajcnhgeggngaaGreat Go.Maps

theorem pick_succ {all : List Sp} {x y : Sp} {ps : List Nat} {q j : Nat} (hj : ps[q]? = some j) (hy : all[j]? = some y) : pickL all x (ps.take (q + 1)) = pickL all x (ps.take q) ++ [y.behind x] := by
 obtain ⟨hl, he⟩ := List.getElem?_eq_some_iff.1 hj
 unfold pickL
 rw [List.take_succ_eq_append_getElem hl, List.filterMap_append, he]
 simp [hy]
theorem pick_len (all : List Sp) (x : Sp) (ps : List Nat) : (pickL all x ps).length ≤ ps.length := List.length_filterMap_le _ _
structure NextD (s : ByteArray) (bol : Bool) (P : Nat) (M : Nat → Option Memo) (O : Nat → Prop) (base R B h : Nat) (xs : List Sp) (lv : Value) (pl : Nat) (sn : Option Nat) (r : List Sp × List Turn) (w : World) (e : Ending) (w' : World) : Prop where
 ex : ∃ v, e = .returned v ∧ SpL w' (okB M (oRep O R B lv sn)) v r.1 ∧ RepW s bol P M O base R B h xs r.2 lv pl sn w' ∧ Kx (fun b => M b ≠ none ∨ b = B) w w'
abbrev SortS (s : ByteArray) (bol : Bool) (M : Nat → Option Memo) (p : Pt) : Prop := ∀ (O : Nat → Prop) (x : Sp) (w : World), x.Ok → x.In s.size → (∀ b, O b → b < w.heap.size) → PtAt w (okB M O) p → MemOk M O w →
  Calls Tryz.prog 134 #[wkv s bol, ptv p.P, spv x] w fun e w' => SortD p.hd (ways s.data.toList bol p x) (okB M O) (fun w' => Km M w w' ∧ MemOk M O w') e w'
abbrev LeafS (s : ByteArray) (bol : Bool) (M : Nat → Option Memo) (p : Pt) : Prop := ∀ (O : Nat → Prop) (x : Sp) (w : World), x.Ok → x.In s.size → PtAt w (okB M O) p →
  Calls Tryz.prog 53 #[wkv s bol, ptv p.P, spv x] w fun e w' => WaysD (ways s.data.toList bol p x) (fun b => w.heap.size ≤ b) (Kp w) e w'
theorem RepW.lt {s : ByteArray} {bol : Bool} {P : Nat} {M : Nat → Option Memo} {O : Nat → Prop} {base R B h : Nat} {xs : List Sp} {S : List Turn} {lv : Value} {pl : Nat} {sn : Option Nat} {w : World} (q : RepW s bol P M O base R B h xs S lv pl sn w) (hO : ∀ b, O b → b < w.heap.size) : ∀ b, oRep O R B lv sn b → b < w.heap.size := by
 rintro b ((e | e | e | e) | e)
 ·
  exact hO b e
 ·
  rw [e]; exact bl_lt q.b
 ·
  exact (q.i.row.block b e).2
 ·
  exact (q.i.set b e).2.1.lt
 ·
  rw [e]; exact q.t.lt
theorem next_any (s : ByteArray) (bol : Bool) (P : Nat) (M : Nat → Option Memo) (O : Nat → Prop) (base R B h pl : Nat) (xs : List Sp) (S : List Turn) (lv : Value) (sn : Option Nat) (low high nn : Int) (t : W4) (kn so : Option Nat) (rdp st : Nat) (kid : Pt) (ks : List Pt) (hrd : rdp < 8) (hkr : kid.rd < 8) (HS : WSaid s bol M kid) (HSo : leafK kid.k = false → SortS s bol M kid) (HLf : leafK kid.k = true → LeafS s bol M kid) (n : Int) (hn0 : 0 ≤ n) (hn1 : n ≤ 100) (hlow0 : 0 ≤ low) (x : Sp) (hx : x.Ok) (hN : x.In s.size) (w : World) (hO : ∀ b, O b → b < w.heap.size) (hW : RepW s bol P M O base R B h xs S lv pl sn w) (hP : PtAt w (okB M (oRep O R B lv sn)) (.mk 4 low high nn t P kn so rdp st h (kid :: ks))) :
  Calls Tryz.prog 128 #[.pointer (some ⟨R, 0, none⟩), .int .i64 n, spv x] w fun e w' => NextD s bol P M O base R B h xs lv pl sn (nextP (leafK kid.k) (ways s.data.toList bol kid) kid.rd kid.hd rdp low high n x S) w e w' := by
 unfold PtAt at hP
 obtain ⟨hok, ⟨ad, c, hblk, hcap, hat⟩, hpts⟩ := hP
 unfold PtsAt at hpts
 obtain ⟨L, hL⟩ : ∃ L, (kid :: ks).length = L := ⟨_, rfl⟩
 have hL0 : 0 < L := by rw [← hL]; simp
 obtain ⟨bb, rfl, hbok, hbl, hce⟩ := hat (by simp)
 rw [hL] at hblk hcap
 obtain ⟨kk, klow, khigh, knn, kt, kkn, kso, kkids, kad, kc, hkid, hkok, hkblk, -, -⟩ := hpts.1.form
 obtain ⟨kkv, hkv⟩ : ∃ kkv, Value.slice kad kkids.length kc = kkv := ⟨_, rfl⟩
 rw [hkv] at hkblk
 have hkk : kid.k = kk := by rw [hkid]; rfl
 subst hkk
 have CB := hid (hce 0 kid rfl)
 have HP := hid hblk
 have HKB := hid hkblk
 have HX := hid hx
 have HN := hid hN
 have HO := hid hO
 have HW := hid hW
 have HMB := hid (show ¬ M bb ≠ none from fun e => e hbok.2)
 have HMP := hid (show ¬ M P ≠ none from fun e => e hok.2)
 have HMK := hid (show ¬ M kid.P ≠ none from fun e => e hkok.2)
 have HMR := hid (show ¬ M R ≠ none from fun e => e (hW.own R (Or.inl (Or.inl rfl))))
 have HPB := hid (show P ≠ B from fun e => hok.1 (Or.inr e))
 have HBL := hid hbl
 have HGD := hid HS.good
 have HFEW := hid (HS.few (x.only kid.rd) (hx.only kid.rd) (hN.only kid.rd))
 have HRD := hid hrd
 have OA := hid (fun W => only_any x kid.rd hkr W)
 have HMX := hid (show ¬ M w.heap.size ≠ none from fun e => e (hW.m.lt (Nat.le_refl _)))
 have LC0 := hid (fun (hl : leafK kid.k = true) (W : World) (k0 : Kp w W) => HLf hl (oRep O R B lv sn) x W hx hN (hpts.1.kp k0))
 have SC0 := hid (fun (hl : leafK kid.k = false) (W : World) (k0 : Kp w W) => HSo hl (oRep O R B lv sn) (x.only kid.rd) W (hx.only kid.rd) (hN.only kid.rd) (fun b hb => Nat.lt_of_lt_of_le (hW.lt hO b hb) k0.size) (hpts.1.kp k0) (hW.m.keep (S := fun _ => False) (Kp.kx k0) (fun _ _ e => e.elim) (fun _ _ e => e) hW.m.own))
 have HLE := hid (leaf_any kid.k klow khigh knn kt kkv kid.rd kid.st kid.hd kkn kso kid.P)
 obtain ⟨kf, hkf⟩ : ∃ kf, leafK kid.k = kf := ⟨_, rfl⟩
 rw [hkf] at HLE LC0 SC0 ⊢
 obtain ⟨n', hn'⟩ : ∃ n', (if high < 0 then min n low else n) = n' := ⟨_, rfl⟩
 have HN' := hid hn'
 have HNR := hid (show 0 ≤ n' ∧ n' ≤ 100 from by rw [← hn']; split <;> omega)
 have HNE : Hid (n = high → nextP kf (ways s.data.toList bol kid) kid.rd kid.hd rdp low high n x S = ([], S)) := fun e => by unfold nextP; rw [if_pos e]
 have HNL : Hid (n ≠ high → kf = true → nextP kf (ways s.data.toList bol kid) kid.rd kid.hd rdp low high n x S = (ways s.data.toList bol kid x, S)) := fun e1 e2 => by unfold nextP; rw [if_neg e1, if_pos e2]
 have HNS : Hid (n ≠ high → kf = false → nextP kf (ways s.data.toList bol kid) kid.rd kid.hd rdp low high n x S = (pickL (ways s.data.toList bol kid (x.only kid.rd)) x (unbL kid.hd (ways s.data.toList bol kid (x.only kid.rd)) (newCls rdp (ways s.data.toList bol kid (x.only kid.rd)) kid.hd n' x S).1), (newCls rdp (ways s.data.toList bol kid (x.only kid.rd)) kid.hd n' x S).2)) := fun e1 e2 => by unfold nextP; rw [if_neg e1, if_neg (by rw [e2]; decide), pick_all, hn']
 obtain ⟨NP, hNP⟩ : ∃ NP, nextP kf (ways s.data.toList bol kid) kid.rd kid.hd rdp low high n x S = NP := ⟨_, rfl⟩
 rw [hNP] at HNE HNL HNS ⊢
 clear hL hce hblk hkblk hx hN hO hW hok hbok hkok hbl hrd hkr HSo HLf HS hpts hat hkid hkv hkf hn' hNP hn0 hn1
 go_enter Tryz.func128, Tryz.ntmps128
 go_upto_region 1 with fail
 refine opq (fun W0 => W0.heap[w.heap.size]? = some (spo x) ∧ Kp w W0) ⟨by exact last_of _ _, by exact kpt⟩ ?_
 rintro W0 ⟨xX0, xK0⟩
 have X0 := hid xX0
 have K0 := hid xK0
 clear xX0 xK0
 have RW0 := hid (HW.out.kp K0.out)
 have R0 := hid (RW0.out.b)
 have P0 := hid (bl_kp HP.out K0.out)
 have KB0 := hid (bl_kp HKB.out K0.out)
 have r2 := bl_cell (R0.out) 2 _ rfl
 have p1 := bl_cell (P0.out) 1 _ rfl
 have p2 := bl_cell (P0.out) 2 _ rfl
 have p8 := bl_cell (P0.out) 8 _ rfl
 have b0 : W0.cell? ⟨bb, 0, none⟩ = some (ptv kid.P) := (cell_same (K0.out.block bb HBL.out) 0).trans CB.out
 go_upto_block 0 with fail
 go_cut [1] (fun v wc => v = .int .i64 n' ∧ n ≠ high ∧ kf = false ∧ Kp W0 wc)
 case first =>
  by_cases hnh : n = high
  ·
   subst hnh
   have HNP := hid (HNE.out rfl)
   clear HNE HNL HNS
   go_wp2_with fail
   go_ret
   exact ⟨⟨_, rfl, by rw [HNP.out]; exact spl_nil _ _ _ _, by rw [HNP.out]; exact RW0.out.kp ((by repeat (first | exact Kp.refl _ | refine Kp.drew ?_ | refine Kp.drewN _ ?_))), Kp.kx (K0.out.trans (by repeat (first | exact Kp.refl _ | refine Kp.drew ?_ | refine Kp.drewN _ ?_)))⟩⟩
  have hnb : (n == high) = false := by simp [hnh]
  cases kf with
  | true =>
   have HNP := hid (HNL.out hnh rfl)
   have LC := hid (LC0.out rfl)
   clear HNE HNL HNS
   go_wp2_with fail
   refine (HLE.out _ KB0.out).mono ?_
   rintro e w1 ⟨rfl, hw⟩
   rw [hw]
   clear hw w1
   go_upto_region 5 with fail
   clear r2 p1 p2 p8 b0
   have Q0 : Kp W0 W0.drew := (Kp.refl _).drew
   have MK : Hid (∀ W, Kp W0 W → W.cell? ⟨R, 0, none⟩ = some (.string s) ∧ W.cell? ⟨R, 1, none⟩ = some (.bool bol) ∧ W.cell? ⟨w.heap.size, 0, none⟩ = some (.int .i8 x.a) ∧ W.cell? ⟨w.heap.size, 1, none⟩ = some (.int .i8 x.f0) ∧ W.cell? ⟨w.heap.size, 2, none⟩ = some (.int .i8 x.t0) ∧ W.cell? ⟨w.heap.size, 3, none⟩ = some (.int .i8 x.f1) ∧ W.cell? ⟨w.heap.size, 4, none⟩ = some (.int .i8 x.t1) ∧ W.cell? ⟨w.heap.size, 5, none⟩ = some (.int .i8 x.f2) ∧ W.cell? ⟨w.heap.size, 6, none⟩ = some (.int .i8 x.t2) ∧ Hid (Kp W0 W)) := fun W k => ⟨bl_cell (bl_kp R0.out k) 0 _ rfl, bl_cell (bl_kp R0.out k) 1 _ rfl, bl_cell (bl_kp X0.out k) 0 _ rfl, bl_cell (bl_kp X0.out k) 1 _ rfl, bl_cell (bl_kp X0.out k) 2 _ rfl, bl_cell (bl_kp X0.out k) 3 _ rfl, bl_cell (bl_kp X0.out k) 4 _ rfl, bl_cell (bl_kp X0.out k) 5 _ rfl, bl_cell (bl_kp X0.out k) 6 _ rfl, k⟩
   refine wp_region_noPanic ?_
   refine hdrew MK Q0 (fun hH => ?_)
   have KQ := Q0
   refine tk 0 (some 34) (Op.move (Operand.tmp 0)) 198 (v := ?v0a1) rfl ?h0a1 hH ?_
   case h0a1 => intro _ _; go_simp; try with_reducible rfl
   try simp only [ps]
   refine tk 1 (some 35) (Op.nilCheck (Operand.tmp 34)) 0 (v := ?v1a2) rfl ?h1a2 hH ?_
   case h1a2 => intro _ _; go_simp; try with_reducible rfl
   try simp only [ps]
   refine tk 2 (some 36) (Op.fieldAddr 182 (Operand.tmp 35) 0) 0 (v := ?v2a3) rfl ?h2a3 hH ?_
   case h2a3 => intro _ _; go_simp; try with_reducible rfl
   try simp only [ps]
   refine tk 3 (some 37) (Op.load 70 (Operand.tmp 36)) 70 (v := ?v3a4) rfl ?h3a4 hH ?_
   case h3a4 => intro _ _; go_simp; try with_reducible rfl
   try simp only [ps]
   refine tk 4 (some 38) (Op.move (Operand.tmp 7)) 71 (v := ?v4a5) rfl ?h4a5 hH ?_
   case h4a5 => intro _ _; go_simp; try with_reducible rfl
   try simp only [ps]
   refine tk 5 (some 39) (Op.load 83 (Operand.tmp 5)) 83 (v := ?v5a6) rfl ?h5a6 hH ?_
   case h5a6 => intro _ _; go_simp; try with_reducible rfl
   try simp only [ps]
   refine wpAnyH_ready (rs := [6]) (by kernel_rfl) (by simp) ?_
   refine AllReadyH.cons (o := { dst := some 40, op := Op.call { callee := Callee.value (Operand.func 53), args := #[Operand.tmp 37, Operand.tmp 38, Operand.tmp 39], argTypes := #[70, 71, 83] }, type := 68, pos := "repeat.go:46", after := #[{ on := 3, ground := Ground.data }, { on := 4, ground := Ground.data }, { on := 5, ground := Ground.data }], guard := none }) rfl (fun K hKq => ?_) AllReadyH.nil
   go_simp
   refine (LC.out _ (K0.out.trans KQ)).mono ?_
   rintro e y2 ⟨⟨v, rfl, hv, hk⟩⟩
   have HV := hid hv
   have HK2 := hid (KQ.trans hk)
   refine hKq.out _ _ (MK.out _ (KQ.trans hk)) (fun hN => ?_)
   clear hv hk
   clear hKq K hH KQ
   have hH := hN
   clear hN
   have KQ := hH.2.2.2.2.2.2.2.2.2.out
   try simp only [ps]
   refine tk 7 (some 6) (Op.assign (Operand.tmp 40)) 68 (v := ?v7a7) rfl ?h7a7 hH ?_
   case h7a7 => intro _ _; go_simp; try with_reducible rfl
   try simp only [ps]
   refine wpAnyH_done (by kernel_rfl) ?_ _
   refine NoPanic.normal ?_
   go_wp2_with fail
   go_ret
   exact ⟨⟨_, rfl, by rw [HNP.out]; exact HV.out.keep (Nat.le_refl _) (fun b hb _ => ⟨⟨fun o => by have := RW0.out.lt (fun b o => Nat.lt_of_lt_of_le (HO.out b o) K0.out.size) b o; have := K0.out.size; have : W0.heap.size ≤ b := hb; omega, RW0.out.m.lt hb⟩, rfl⟩), by rw [HNP.out]; exact RW0.out.kp HK2.out, Kp.kx (K0.out.trans HK2.out)⟩⟩
  | false =>
   by_cases hh0 : high < 0
   ·
    have hmin : n' = min n low := by rw [← HN'.out, if_pos hh0]
    clear HNE HNL HNS
    go_wp2_with fail
    refine (HLE.out _ KB0.out).mono ?_
    rintro e w1 ⟨rfl, hw⟩
    rw [hw]
    clear hw w1
    go_wp2_with fail
    go_meet
    case rel => exact ⟨by rw [hmin], hnh, by first | rfl | trivial, (by repeat (first | exact Kp.refl _ | refine Kp.drew ?_ | refine Kp.drewN _ ?_))⟩
   ·
    have hmin : n' = n := by rw [← HN'.out, if_neg hh0]
    clear HNE HNL HNS
    go_wp2_with fail
    refine (HLE.out _ KB0.out).mono ?_
    rintro e w1 ⟨rfl, hw⟩
    rw [hw]
    clear hw w1
    go_wp2_with fail
    go_meet
    case rel => exact ⟨by rw [hmin], hnh, by first | rfl | trivial, (by repeat (first | exact Kp.refl _ | refine Kp.drew ?_ | refine Kp.drewN _ ?_))⟩
 case rest =>
 obtain ⟨rfl, hnh, rfl, hk⟩ := hcut
 rename World => W1
 have HNP := hid (HNS.out hnh rfl)
 have SC := hid (SC0.out rfl)
 have K1 := hid (K0.out.trans hk)
 have R1 := hid (bl_kp R0.out hk)
 have X1 := hid (bl_kp X0.out hk)
 have P1 := hid (bl_kp P0.out hk)
 have KB1 := hid (bl_kp KB0.out hk)
 have RW1 := hid (RW0.out.kp hk)
 clear HNE HNL HNS hk R0 X0 P0 KB0 RW0 K0 r2 p1 p2 p8 b0 HLE LC0 SC0 hnh
 obtain ⟨all, hall⟩ : ∃ all, ways s.data.toList bol kid (x.only kid.rd) = all := ⟨_, rfl⟩
 have HGA := hid (HGD.out (x.only kid.rd) (HX.out.only kid.rd) (HN.out.only kid.rd))
 rw [hall] at HNP SC HFEW HGA
 clear hall
 go_upto_region 8 with fail
 go_cut [8] (fun v wc => SoAt wc (okB M (oRep O R B lv sn)) v kid.hd all ∧ Kx (fun b => M b ≠ none) W1 wc ∧ MemOk M (oRep O R B lv sn) wc)
 case first =>
  have Q0 : Kx (fun b => M b ≠ none) W1 W1.drew := (Kx.refl _ _).drew
  have MK : Hid (∀ W, Kx (fun b => M b ≠ none) W1 W → W.cell? ⟨R, 0, none⟩ = some (.string s) ∧ W.cell? ⟨R, 1, none⟩ = some (.bool bol) ∧ W.cell? ⟨w.heap.size, 0, none⟩ = some (.int .i8 x.a) ∧ W.cell? ⟨w.heap.size, 1, none⟩ = some (.int .i8 x.f0) ∧ W.cell? ⟨w.heap.size, 2, none⟩ = some (.int .i8 x.t0) ∧ W.cell? ⟨w.heap.size, 3, none⟩ = some (.int .i8 x.f1) ∧ W.cell? ⟨w.heap.size, 4, none⟩ = some (.int .i8 x.t1) ∧ W.cell? ⟨w.heap.size, 5, none⟩ = some (.int .i8 x.f2) ∧ W.cell? ⟨w.heap.size, 6, none⟩ = some (.int .i8 x.t2) ∧ W.cell? ⟨kid.P, 9, none⟩ = some (.int .u8 (kid.rd : Int)) ∧ Hid (Kx (fun b => M b ≠ none) W1 W)) := fun W k => ⟨bl_cell (bl_kx R1.out k HMR.out) 0 _ rfl, bl_cell (bl_kx R1.out k HMR.out) 1 _ rfl, bl_cell (bl_kx X1.out k HMX.out) 0 _ rfl, bl_cell (bl_kx X1.out k HMX.out) 1 _ rfl, bl_cell (bl_kx X1.out k HMX.out) 2 _ rfl, bl_cell (bl_kx X1.out k HMX.out) 3 _ rfl, bl_cell (bl_kx X1.out k HMX.out) 4 _ rfl, bl_cell (bl_kx X1.out k HMX.out) 5 _ rfl, bl_cell (bl_kx X1.out k HMX.out) 6 _ rfl, bl_cell (bl_kx KB1.out k HMK.out) 9 _ rfl, k⟩
  refine wp_region_noPanic ?_
  refine hdrew MK Q0 (fun hH => ?_)
  have KQ := Q0
  refine tk 0 (some 59) (Op.move (Operand.tmp 0)) 198 (v := ?v0b1) rfl ?h0b1 hH ?_
  case h0b1 => intro _ _; go_simp; try with_reducible rfl
  try simp only [ps]
  refine tk 1 (some 60) (Op.nilCheck (Operand.tmp 59)) 0 (v := ?v1b2) rfl ?h1b2 hH ?_
  case h1b2 => intro _ _; go_simp; try with_reducible rfl
  try simp only [ps]
  refine tk 2 (some 61) (Op.fieldAddr 182 (Operand.tmp 60) 0) 0 (v := ?v2b3) rfl ?h2b3 hH ?_
  case h2b3 => intro _ _; go_simp; try with_reducible rfl
  try simp only [ps]
  refine tk 3 (some 62) (Op.load 70 (Operand.tmp 61)) 70 (v := ?v3b4) rfl ?h3b4 hH ?_
  case h3b4 => intro _ _; go_simp; try with_reducible rfl
  try simp only [ps]
  refine tk 4 (some 63) (Op.move (Operand.tmp 7)) 71 (v := ?v4b5) rfl ?h4b5 hH ?_
  case h4b5 => intro _ _; go_simp; try with_reducible rfl
  try simp only [ps]
  refine tk 5 (some 64) (Op.load 83 (Operand.tmp 5)) 83 (v := ?v5b6) rfl ?h5b6 hH ?_
  case h5b6 => intro _ _; go_simp; try with_reducible rfl
  try simp only [ps]
  refine tk 6 (some 65) (Op.move (Operand.tmp 7)) 71 (v := ?v6b7) rfl ?h6b7 hH ?_
  case h6b7 => intro _ _; go_simp; try with_reducible rfl
  try simp only [ps]
  refine tk 7 (some 66) (Op.nilCheck (Operand.tmp 65)) 0 (v := ?v7b8) rfl ?h7b8 hH ?_
  case h7b8 => intro _ _; go_simp; try with_reducible rfl
  try simp only [ps]
  refine tk 8 (some 67) (Op.fieldAddr 130 (Operand.tmp 66) 6) 0 (v := ?v8b9) rfl ?h8b9 hH ?_
  case h8b9 => intro _ _; go_simp; try with_reducible rfl
  try simp only [ps]
  refine tk 9 (some 68) (Op.fieldAddr 126 (Operand.tmp 67) 0) 0 (v := ?v9b10) rfl ?h9b10 hH ?_
  case h9b10 => intro _ _; go_simp; try with_reducible rfl
  try simp only [ps]
  refine tk 10 (some 69) (Op.load 75 (Operand.tmp 68)) 75 (v := ?v10b11) rfl ?h10b11 hH ?_
  case h10b11 => intro _ _; go_simp; try with_reducible rfl
  try simp only [ps]
  refine wpAnyH_ready (rs := [11]) (by kernel_rfl) (by simp) ?_
  refine AllReadyH.cons (o := { dst := some 70, op := Op.call { callee := Callee.value (Operand.func 55), args := #[Operand.tmp 64, Operand.tmp 69], argTypes := #[83, 75] }, type := 83, pos := "repeat.go:51", after := #[{ on := 5, ground := Ground.data }, { on := 10, ground := Ground.data }], guard := none }) rfl (fun K hKq => ?_) AllReadyH.nil
  go_simp
  refine (OA.out _).mono ?_
  rintro e y1 ⟨rfl, kq⟩
  have KY := hid (show Kp W1 y1 from ((Kp.refl W1).drew).trans kq)
  refine hKq.out _ _ (MK.out _ (Kp.kx KY.out)) (fun hN => ?_)
  clear kq
  clear hKq K hH KQ
  have hH := hN
  clear hN
  have KQ := hH.2.2.2.2.2.2.2.2.2.2.out
  try simp only [ps]
  refine wpAnyH_ready (rs := [12]) (by kernel_rfl) (by simp) ?_
  refine AllReadyH.cons (o := { dst := some 71, op := Op.call { callee := Callee.value (Operand.func 134), args := #[Operand.tmp 62, Operand.tmp 63, Operand.tmp 70], argTypes := #[70, 71, 83] }, type := 207, pos := "repeat.go:51", after := #[{ on := 3, ground := Ground.data }, { on := 4, ground := Ground.data }, { on := 11, ground := Ground.data }, { on := 11, ground := Ground.chain }], guard := none }) rfl (fun K hKq => ?_) AllReadyH.nil
  go_simp
  refine (SC.out y1 (K1.out.trans KY.out)).mono ?_
  rintro e y2 ⟨⟨v, rfl, hv, hk, hm⟩⟩
  have HV := hid hv
  have HK2 := hid hk
  have HM2 := hid hm
  clear hv hk hm
  refine hKq.out _ _ (MK.out _ ((Kp.kx KY.out).trans HK2.out)) (fun hN => ?_)
  clear hKq K hH KQ
  have hH := hN
  clear hN
  have KQ := hH.2.2.2.2.2.2.2.2.2.2.out
  try simp only [ps]
  refine tk 13 (some 8) (Op.assign (Operand.tmp 71)) 207 (v := ?v13b12) rfl ?h13b12 hH ?_
  case h13b12 => intro _ _; go_simp; try with_reducible rfl
  try simp only [ps]
  refine wpAnyH_done (by kernel_rfl) ?_ _
  refine NoPanic.normal ?_
  go_wp2_with fail
  go_meet
  case rel => exact ⟨HV.out, (Kp.kx KY.out).trans HK2.out, HM2.out⟩
 case rest =>
 obtain ⟨hso, hk, hm⟩ := hcut
 rename World => W2
 obtain ⟨T, llv, f, hvv, hT, hTb, hspl, hnu⟩ := hso.at
 subst hvv
 have SO2 := hid hso
 have T2 := hid hTb
 have HTO := hid hT
 have L2 := hid hspl
 have RW2 := hid (RW1.out.km hk hm)
 have X2 := hid (bl_kx X1.out hk HMX.out)
 have P2 := hid (bl_kx P1.out hk HMP.out)
 have K2 := hid ((Kp.kx (S := fun b => M b ≠ none) K1.out).trans hk)
 clear hso hT hTb hspl hnu hk hm R1 X1 P1 KB1 RW1 K1 SC OA HKB HP
 obtain ⟨x0, x1, x2, x3, x4, x5, x6⟩ := cells7 (X2.out)
 go_wp2_with fail
 clear x0 x1 x2 x3 x4 x5 x6
 refine (unbegun_any s bol P R B h pl lv sn 4 low high nn t _ rdp st h kn so HRD.out kid.hd all _ (okB M (oRep O R B lv sn)) (fun b hb e => hb.1 (Or.inr e)) HFEW.out n' HNR.out.1 HNR.out.2 x HX.out S W2 SO2.out RW2.out.b RW2.out.ne P2.out HPB.out RW2.out.t).mono ?_
 rintro e y3 hd0
 obtain ⟨v3, rfl, hnul, ht3, hk3⟩ := hd0.ex
 have RW3 := hid (RW2.out.turn hk3 ht3)
 have K3 := hid (show Kx (fun b => M b ≠ none ∨ b = B) w y3 from (K2.out.mono (fun _ _ e => Or.inl e)).trans (hk3.mono (fun _ _ e => Or.inr e)))
 have OKB : Hid (∀ b, okB M (oRep O R B lv sn) b → b < W2.heap.size → okB M (oRep O R B lv sn) b ∧ y3.heap[b]? = W2.heap[b]?) := fun b hb hl => ⟨hb, hk3.block b hl (fun e => hb.1 (Or.inr e))⟩
 have L3 := hid (L2.out.keep hk3.size OKB.out)
 have T3 := hid ((OKB.out T HTO.out (bl_lt T2.out)).2.trans T2.out)
 have HTL := hid (bl_lt T3.out)
 have X3 := hid (bl_kx X2.out hk3 (fun e => by have := K2.out.size; have h1 := RW2.out.t.lt; have h2 := HW.out.t.lt; omega))
 have HXL := hid (bl_lt X3.out)
 obtain ⟨ps, hps⟩ : ∃ ps, unbL kid.hd all (newCls rdp all kid.hd n' x S).1 = ps := ⟨_, rfl⟩
 have HPSL := hid (show ∀ j ∈ ps, j < all.length from by rw [← hps]; exact unb_lt)
 have HPSN := hid (show ps.length ≤ 4398046511104 from by rw [← hps]; exact Nat.le_trans (unb_len _ _ _) HFEW.out)
 rw [hps] at hnul HNP
 obtain ⟨Z, hZ⟩ : ∃ Z, ps.length = Z := ⟨_, rfl⟩
 obtain ⟨pad, pc, hpv, hpc, hpe⟩ := hnul.ex
 have HZ := hid hZ
 rw [hZ] at hpv hpc hpe HPSN
 subst hpv
 have HPE := hid hpe
 obtain ⟨lad, lc, hlv, hlc, hle⟩ := L3.out.ex
 obtain ⟨AL, hAL⟩ : ∃ AL, all.length = AL := ⟨_, rfl⟩
 rw [hAL] at hlv hlc hle
 have HAL := hid hAL
 have HLEX := hid hle
 subst hlv
 clear hd0 hnul ht3 hk3 hps hpe hZ hle hAL L2 T2 X2 P2 SO2 RW2 K2 HTO OKB
 go_wp2_with fail
 go_loopg [9, 78] Z (fun gg v i wr => ∃ (q : Nat), q + gg = Z ∧ i = .int .i64 (q : Int) ∧ SpR y3.heap.size wr v (pickL all x (ps.take q)) ∧ Kp y3 wr)
 case atStart => exact ⟨0, by omega, rfl, SpR.nil _ _, Kp.refl _⟩
 case round =>
  obtain ⟨q, hq, rfl, hR, hK⟩ := hrel
  have R6 := hid hR
  have K6 := hid hK
  obtain ⟨rad, rc, hvv, -⟩ := hR.form
  obtain ⟨N0, hN0⟩ : ∃ N0, (pickL all x (ps.take q)).length = N0 := ⟨_, rfl⟩
  rw [hN0] at hvv
  subst hvv
  clear hR hK hN0
  by_cases hlt : q < Z
  ·
   have gkw : IntKind.i64.wrap ((q : Int) + 1) = (q : Int) + 1 := by have := HPSN.out; rw [IntKind.wrap_i64]; omega
   have ga : (q : Int) < (Z : Int) := by omega
   have g0 : (0 : Int) ≤ (q : Int) := by omega
   obtain ⟨j, hj⟩ : ∃ j, ps[q]? = some j := ⟨_, List.getElem?_eq_getElem (by rw [HZ.out]; exact hlt)⟩
   have hjl : j < AL := by rw [← HAL.out]; exact HPSL.out j (List.mem_of_getElem? hj)
   obtain ⟨y, hy⟩ : ∃ y, all[j]? = some y := ⟨_, List.getElem?_eq_getElem (by rw [HAL.out]; exact hjl)⟩
   have gj : (j : Int) < (AL : Int) := by omega
   have gj0 : (0 : Int) ≤ (j : Int) := by omega
   obtain ⟨pb, rfl, -, hpl, hpcell⟩ := HPE.out (by omega)
   obtain ⟨lb, rfl, -, hll, hlcell⟩ := HLEX.out (by omega)
   have hsp := hlcell j y hy
   have HLL := hid hll
   have HTK : Hid (pickL all x (ps.take (q + 1)) = pickL all x (ps.take q) ++ [y.behind x]) := pick_succ hj hy
   have HZO := hid (show (y.behind x).Ok from (HGA.out y (List.mem_of_getElem? hy)).1.behind HX.out)
   have OB := hid (fun W => behind_any y x W)
   have c1 : wr.cell? ⟨pb, q, none⟩ = some (nuc j) := (cell_same (K6.out.block pb hpl) _).trans (hpcell q j hj)
   have HZL := hid (show (pickL all x (ps.take q)).length ≤ 5000000000000 from by have h1 := pick_len all x (ps.take q); rw [List.length_take, HZ.out] at h1; have := HPSN.out; omega)
   have C0 := hid hsp.c0
   have C1 := hid hsp.c1
   have C2 := hid hsp.c2
   have C3 := hid hsp.c3
   have C4 := hid hsp.c4
   have C5 := hid hsp.c5
   have C6 := hid hsp.c6
   obtain ⟨zs, hzs⟩ : ∃ zs, pickL all x (ps.take q) = zs := ⟨_, rfl⟩
   rw [hzs] at R6 HTK HZL
   have OFF : Hid (∀ (W : World), Kx (fun b => (Value.slice rad N0 rc).ownBlock = some b) wr W → ∀ (b o : Nat) (u : Value), b < y3.heap.size → y3.cell? ⟨b, o, none⟩ = some u → W.cell? ⟨b, o, none⟩ = some u) := fun W k b o u hb hu => (cell_same ((k.block b (Nat.lt_of_lt_of_le hb K6.out.size) (fun e => by have := (R6.out.block b e).1; omega)).trans (K6.out.block b hb)) o).trans hu
   clear hsp hj hy hpl hpcell hll hlcell hzs
   go_upto_region 13 with fail
   clear c1
   have Q0 : Kx (fun b => (Value.slice rad N0 rc).ownBlock = some b) wr wr.drew := (Kx.refl _ _).drew
   have MK : Hid (∀ W, Kx (fun b => (Value.slice rad N0 rc).ownBlock = some b) wr W → W.cell? ⟨T, 0, none⟩ = some (.slice (some ⟨lb, 0, none⟩) AL lc) ∧ W.cell? ⟨lb, j * 7, none⟩ = some (.int .i8 y.a) ∧ W.cell? ⟨lb, j * 7 + 1, none⟩ = some (.int .i8 y.f0) ∧ W.cell? ⟨lb, j * 7 + 2, none⟩ = some (.int .i8 y.t0) ∧ W.cell? ⟨lb, j * 7 + 3, none⟩ = some (.int .i8 y.f1) ∧ W.cell? ⟨lb, j * 7 + 4, none⟩ = some (.int .i8 y.t1) ∧ W.cell? ⟨lb, j * 7 + 5, none⟩ = some (.int .i8 y.f2) ∧ W.cell? ⟨lb, j * 7 + 6, none⟩ = some (.int .i8 y.t2) ∧ W.cell? ⟨w.heap.size, 0, none⟩ = some (.int .i8 x.a) ∧ W.cell? ⟨w.heap.size, 1, none⟩ = some (.int .i8 x.f0) ∧ W.cell? ⟨w.heap.size, 2, none⟩ = some (.int .i8 x.t0) ∧ W.cell? ⟨w.heap.size, 3, none⟩ = some (.int .i8 x.f1) ∧ W.cell? ⟨w.heap.size, 4, none⟩ = some (.int .i8 x.t1) ∧ W.cell? ⟨w.heap.size, 5, none⟩ = some (.int .i8 x.f2) ∧ W.cell? ⟨w.heap.size, 6, none⟩ = some (.int .i8 x.t2) ∧ Hid (Kx (fun b => (Value.slice rad N0 rc).ownBlock = some b) wr W)) := fun W k => ⟨OFF.out _ k _ _ _ HTL.out (bl_cell T3.out 0 _ rfl), OFF.out _ k _ _ _ HLL.out C0.out, OFF.out _ k _ _ _ HLL.out C1.out, OFF.out _ k _ _ _ HLL.out C2.out, OFF.out _ k _ _ _ HLL.out C3.out, OFF.out _ k _ _ _ HLL.out C4.out, OFF.out _ k _ _ _ HLL.out C5.out, OFF.out _ k _ _ _ HLL.out C6.out, OFF.out _ k _ _ _ HXL.out (bl_cell X3.out 0 _ rfl), OFF.out _ k _ _ _ HXL.out (bl_cell X3.out 1 _ rfl), OFF.out _ k _ _ _ HXL.out (bl_cell X3.out 2 _ rfl), OFF.out _ k _ _ _ HXL.out (bl_cell X3.out 3 _ rfl), OFF.out _ k _ _ _ HXL.out (bl_cell X3.out 4 _ rfl), OFF.out _ k _ _ _ HXL.out (bl_cell X3.out 5 _ rfl), OFF.out _ k _ _ _ HXL.out (bl_cell X3.out 6 _ rfl), k⟩
   refine wp_region_noPanic ?_
   refine hdrew MK Q0 (fun hH => ?_)
   have KQ := Q0
   refine tk 0 (some 82) (Op.move (Operand.tmp 9)) 68 (v := ?v0c1) rfl ?h0c1 hH ?_
   case h0c1 => intro _ _; go_simp; try with_reducible rfl
   try simp only [ps]
   refine tk 1 (some 83) (Op.move (Operand.tmp 8)) 207 (v := ?v1c2) rfl ?h1c2 hH ?_
   case h1c2 => intro _ _; go_simp; try with_reducible rfl
   try simp only [ps]
   refine tk 2 (some 84) (Op.nilCheck (Operand.tmp 83)) 0 (v := ?v2c3) rfl ?h2c3 hH ?_
   case h2c3 => intro _ _; go_simp; try with_reducible rfl
   try simp only [ps]
   refine tk 3 (some 85) (Op.fieldAddr 212 (Operand.tmp 84) 0) 0 (v := ?v3c4) rfl ?h3c4 hH ?_
   case h3c4 => intro _ _; go_simp; try with_reducible rfl
   try simp only [ps]
   refine tk 4 (some 86) (Op.load 68 (Operand.tmp 85)) 68 (v := ?v4c5) rfl ?h4c5 hH ?_
   case h4c5 => intro _ _; go_simp; try with_reducible rfl
   try simp only [ps]
   refine tk 5 (some 87) (Op.move (Operand.tmp 11)) 3 (v := ?v5c6) rfl ?h5c6 hH ?_
   case h5c6 => intro _ _; go_simp; try with_reducible rfl
   try simp only [ps]
   refine tk 6 (some 88) (Op.indexAddr 68 (Operand.tmp 86) (Operand.tmp 87)) 0 (v := ?v6c7) rfl ?h6c7 hH ?_
   case h6c7 => intro _ _; go_simp; try with_reducible rfl
   try simp only [ps]
   refine tk 7 (some 89) (Op.load 83 (Operand.tmp 88)) 83 (v := ?v7c8) rfl ?h7c8 hH ?_
   case h7c8 => intro _ _; go_simp; try with_reducible rfl
   try simp only [ps]
   refine tk 8 (some 90) (Op.load 83 (Operand.tmp 5)) 83 (v := ?v8c9) rfl ?h8c9 hH ?_
   case h8c9 => intro _ _; go_simp; try with_reducible rfl
   try simp only [ps]
   refine wpAnyH_ready (rs := [9]) (by kernel_rfl) (by simp) ?_
   refine AllReadyH.cons (o := { dst := some 91, op := Op.call { callee := Callee.value (Operand.func 127), args := #[Operand.tmp 89, Operand.tmp 90], argTypes := #[83, 83] }, type := 83, pos := "repeat.go:54", after := #[{ on := 7, ground := Ground.data }, { on := 8, ground := Ground.data }], guard := none }) rfl (fun K hKq => ?_) AllReadyH.nil
   go_simp
   refine (OB.out _).mono ?_
   rintro e yy ⟨rfl, kq⟩
   have KY := hid (show Kp wr yy from ((Kp.refl wr).drew).trans kq)
   refine hKq.out _ _ (MK.out _ (Kp.kx KY.out)) (fun hN => ?_)
   clear kq
   clear hKq K hH KQ
   have hH := hN
   clear hN
   have KQ := hH.2.2.2.2.2.2.2.2.2.2.2.2.2.2.2.out
   try simp only [ps]
   refine wpAnyH_ready (rs := [10]) (by kernel_rfl) (by simp) ?_
   refine AllReadyH.cons (o := { dst := some 92, op := Op.buildSlice 68 1 #[(0, Operand.tmp 91)], type := 68, pos := "repeat.go:54", after := #[{ on := 9, ground := Ground.data }], guard := none }) rfl (fun K hKq => ?_) AllReadyH.nil
   go_simp
   refine hKq.out _ _ (MK.out _ (KQ.alloc _)) (fun hN => ?_)
   clear hKq K hH KQ
   have hH := hN
   clear hN
   have KQ := hH.2.2.2.2.2.2.2.2.2.2.2.2.2.2.2.out
   try simp only [ps]
   refine wpAnyH_ready (rs := [11]) (by kernel_rfl) (by simp) ?_
   refine AllReadyH.cons (o := { dst := some 93, op := Op.call { callee := Callee.builtin Builtin.append, args := #[Operand.tmp 82, Operand.tmp 92], argTypes := #[68, 68] }, type := 68, pos := "repeat.go:54", after := #[{ on := 0, ground := Ground.data }, { on := 10, ground := Ground.data }, { on := 9, ground := Ground.chain }], guard := none }) rfl (fun K hKq => ?_) AllReadyH.nil
   refine step_append_sp _ (by rfl) _ _ (by rfl) y3.heap.size (.slice rad N0 rc) zs (y.behind x) (by rfl) yy.heap.size (by rfl) (R6.out.kp (KY.out.alloc _)) HZO.out (last_of _ _) HZL.out (by have := K6.out.size; have := KY.out.size; simp; omega) ?_
   rintro v' w' md
   obtain ⟨ad', c', hv', -⟩ := md.row.form
   obtain ⟨n', hn'⟩ : ∃ n', (zs ++ [y.behind x]).length = n' := ⟨_, rfl⟩
   rw [hn'] at hv'
   subst hv'
   have MD := hid md
   clear md hn'
   refine hKq.out _ _ (MK.out _ (KQ.grown MD.out.grown (fun k e _ => e))) (fun hN => ?_)
   clear hKq K hH KQ
   have hH := hN
   clear hN
   have KQ := hH.2.2.2.2.2.2.2.2.2.2.2.2.2.2.2.out
   try simp only [ps]
   refine tk 12 (some 9) (Op.assign (Operand.tmp 93)) 68 (v := ?v12c10) rfl ?h12c10 hH ?_
   case h12c10 => intro _ _; go_simp; try with_reducible rfl
   try simp only [ps]
   refine wpAnyH_done (by kernel_rfl) ?_ _
   refine NoPanic.normal ?_
   have KF := hid KQ
   go_wp2_with fail
   go_roundg (gk - 1)
   case measure => omega
   case rel => exact ⟨q + 1, by omega, by go_num, by rw [HTK.out]; exact MD.out.row, (((Kp.kx (S := fun _ => False) K6.out).past2 KF.out (fun b hb e => by have := (R6.out.block b e).1; omega))).kp⟩
  ·
   have ga : ¬ (q : Int) < (Z : Int) := by omega
   have HE : Hid (pickL all x (ps.take q) = pickL all x ps) := by
    show _ = _
    rw [List.take_of_length_le (by rw [HZ.out]; omega)]
   go_wp2_with fail
   go_ret
   exact ⟨⟨_, rfl, by rw [HNP.out]; show SpL _ _ _ (pickL all x ps); rw [← HE.out]; exact R6.out.spl (fun b e => ⟨fun o => by have := (R6.out.block b e).1; have := RW3.out.lt (fun b o => Nat.lt_of_lt_of_le (HO.out b o) K3.out.size) b o; omega, RW3.out.m.lt (R6.out.block b e).1⟩), by rw [HNP.out]; exact RW3.out.kp K6.out, K3.out.then K6.out⟩⟩
end Go.Proofs.YtnajcnhgeggngaaGreat.Way

/-! ### Beh -/

namespace Go.Proofs.YtnajcnhgeggngaaGreat.Way
set_option maxHeartbeats 2000000
set_option maxRecDepth 100000
open Go.RowKit Go.Proofs.YtnajcnhgeggngaaGreat Go.Maps

theorem okR_step {M : Nat → Option Memo} {O : Nat → Prop} {R B n : Nat} {lv lv' : Value} {sn sn' : Option Nat} (ho : ∀ b, lv'.ownBlock = some b → lv.ownBlock = some b ∨ n ≤ b) (hs : ∀ b, sn' = some b → sn = some b ∨ n ≤ b) {b : Nat} (hb : okB M (oRep O R B lv sn) b) (hl : b < n) : okB M (oRep O R B lv' sn') b := by
 refine ⟨fun q => hb.1 ?_, hb.2⟩
 rcases q with (q | q | q | q) | q
 ·
  exact Or.inl (Or.inl q)
 ·
  exact Or.inl (Or.inr (Or.inl q))
 ·
  rcases ho b q with e | e
  ·
   exact Or.inl (Or.inr (Or.inr (Or.inl e)))
  ·
   omega
 ·
  rcases hs b q with e | e
  ·
   exact Or.inl (Or.inr (Or.inr (Or.inr e)))
  ·
   omega
 ·
  exact Or.inr q
theorem repB_step {R B n : Nat} {lv lv' : Value} {sn sn' : Option Nat} (ho : ∀ b, lv'.ownBlock = some b → lv.ownBlock = some b ∨ n ≤ b) (hs : ∀ b, sn' = some b → sn = some b ∨ n ≤ b) {b : Nat} (hb : repB R B lv' sn' b) (hl : b < n) : repB R B lv sn b := by
 rcases hb with (q | q | q) | q
 ·
  exact Or.inl (Or.inl q)
 ·
  rcases ho b q with e | e
  ·
   exact Or.inl (Or.inr (Or.inl e))
  ·
   omega
 ·
  rcases hs b q with e | e
  ·
   exact Or.inl (Or.inr (Or.inr e))
  ·
   omega
 ·
  exact Or.inr q
theorem next_good {N : Nat} {W : Sp → List Sp} {lf : Bool} {krd khd rdp : Nat} {low high n : Int} {x : Sp} {bg : List Turn} (hW : ∀ x : Sp, x.Ok → x.In N → ∀ y ∈ W x, y.Ok ∧ y.In N ∧ x.a ≤ y.a) (hx : x.Ok) (hN : x.In N) : ∀ y ∈ (nextP lf W krd khd rdp low high n x bg).1, y.Ok ∧ y.In N ∧ x.a ≤ y.a := by
 intro y hy
 unfold nextP at hy
 split at hy
 ·
  cases hy
 ·
  split at hy
  ·
   exact hW x hx hN y hy
  ·
   obtain ⟨z, hz, rfl⟩ := List.mem_map.1 hy
   have hz := (List.mem_filter.1 hz).1
   obtain ⟨h1, h2, h3⟩ := hW (x.only krd) (hx.only krd) (hN.only krd) z hz
   exact ⟨h1.behind hx, h2.behind hN, h3⟩
theorem next_few {N : Nat} {W : Sp → List Sp} {lf : Bool} {krd khd rdp : Nat} {low high n : Int} {x : Sp} {bg : List Turn} (hW : ∀ x : Sp, x.Ok → x.In N → (W x).length ≤ 4398046511104) (hx : x.Ok) (hN : x.In N) : (nextP lf W krd khd rdp low high n x bg).1.length ≤ 4398046511104 := by
 unfold nextP
 split
 ·
  exact Nat.zero_le _
 ·
  split
  ·
   exact hW x hx hN
  ·
   rw [List.length_map]
   exact Nat.le_trans (List.length_filter_le _ _) (hW (x.only krd) (hx.only krd) (hN.only krd))
structure BehE (s : ByteArray) (bol : Bool) (P : Nat) (M : Nat → Option Memo) (O : Nat → Prop) (base R B h : Nat) (r : List Turn × List Sp) (lv : Value) (sn : Option Nat) (w : World) (e : Ending) (w' : World) : Prop where
 ex : e = .returned (.tuple #[]) ∧ ∃ lv' pl' sn', RepW s bol P M O base R B h r.2 r.1 lv' pl' sn' w' ∧ (∀ b, lv'.ownBlock = some b → lv.ownBlock = some b ∨ w.heap.size ≤ b) ∧ (∀ b, sn' = some b → sn = some b ∨ w.heap.size ≤ b) ∧ Kx (fun b => M b ≠ none ∨ repB R B lv sn b) w w'
abbrev BehS (s : ByteArray) (bol : Bool) (P : Nat) (M : Nat → Option Memo) (O : Nat → Prop) (base R B h : Nat) (low : Int) (NX : Int → Sp → List Turn → List Sp × List Turn) (p : Pt) (f : Nat) : Prop := ∀ (n : Int) (x : Sp) (xs : List Sp) (S : List Turn) (lv : Value) (pl : Nat) (sn : Option Nat) (w : World), 0 ≤ n → (low - n).toNat + (61 - x.a).toNat < f → n + ((low - n).toNat + (61 - x.a).toNat : Nat) ≤ 100 → x.Ok → x.In s.size → (∀ b, O b → b < w.heap.size) → RepW s bol P M O base R B h xs S lv pl sn w → PtAt w (okB M (oRep O R B lv sn)) p →
  Calls Tryz.prog 110 #[.pointer (some ⟨R, 0, none⟩), .int .i64 n, spv x] w fun e w' => BehE s bol P M O base R B h (behindP NX low h f n x (S, xs)) lv sn w e w'
theorem beh_less {low n xa ya : Int} {f : Nat} (h : n < low ∨ ¬ ya = xa) (hle : xa ≤ ya) (hy : ya ≤ 60) (hx : 0 ≤ n) (m : (low - n).toNat + (61 - xa).toNat < f + 1) (m2 : n + ((low - n).toNat + (61 - xa).toNat : Nat) ≤ 100) : (low - (n + 1)).toNat + (61 - ya).toNat < f ∧ n + 1 + ((low - (n + 1)).toNat + (61 - ya).toNat : Nat) ≤ 100 ∧ 0 ≤ n + 1 := by omega
theorem behind_step (s : ByteArray) (bol : Bool) (P : Nat) (M : Nat → Option Memo) (O : Nat → Prop) (base R B h : Nat) (low high nn : Int) (t : W4) (kn so : Option Nat) (rdp st : Nat) (kid : Pt) (ks : List Pt) (hrd : rdp < 8) (hkr : kid.rd < 8) (HS : WSaid s bol M kid) (HSo : leafK kid.k = false → SortS s bol M kid) (HLf : leafK kid.k = true → LeafS s bol M kid) (hlow0 : 0 ≤ low) (f : Nat) (IH : BehS s bol P M O base R B h low (nextP (leafK kid.k) (ways s.data.toList bol kid) kid.rd kid.hd rdp low high) (.mk 4 low high nn t P kn so rdp st h (kid :: ks)) f) : BehS s bol P M O base R B h low (nextP (leafK kid.k) (ways s.data.toList bol kid) kid.rd kid.hd rdp low high) (.mk 4 low high nn t P kn so rdp st h (kid :: ks)) (f + 1) := by
 intro n x xs S lv pl sn w hn0 hm hm2 hx hN hO hW hP
 obtain ⟨kv, hblk, hokP⟩ : ∃ kv, w.heap[P]? = some (pto 4 low high nn t kv rdp st h kn so) ∧ okB M (oRep O R B lv sn) P := by
  unfold PtAt at hP
  obtain ⟨h1, ⟨ad, c, h2, _⟩, _⟩ := hP
  exact ⟨_, h2, h1⟩
 have HN0 := hid hn0
 have HM := hid hm
 have HM2 := hid hm2
 have HX := hid hx
 have HN := hid hN
 have HO := hid hO
 have HW := hid hW
 have HPT := hid hP
 have HPB := hid hblk
 have HIH := hid IH
 have HXM := hid (show ¬ (M w.heap.size ≠ none ∨ repB R B lv sn w.heap.size) from fun e => e.elim (fun e => e (hW.m.lt (Nat.le_refl _))) (fun e => by
  rcases e with (e | e | e) | e
  ·
   have := bl_lt hW.b; omega
  ·
   have := (hW.i.row.block _ e).2; omega
  ·
   have := (hW.i.set _ e).2.1.lt; omega
  ·
   have := hW.t.lt; omega))
 have NC := hid (fun (W : World) (k0 : Kp w W) => next_any s bol P M O base R B h pl xs S lv sn low high nn t kn so rdp st kid ks hrd hkr HS HSo HLf n hn0 (by omega) hlow0 x hx hN W (fun b hb => Nat.lt_of_lt_of_le (hO b hb) k0.size) (hW.kp k0) (PtAt.kp hP k0))
 obtain ⟨zs, hzs⟩ : ∃ zs, ((nextP (leafK kid.k) (ways s.data.toList bol kid) kid.rd kid.hd rdp low high) n x S).1 = zs := ⟨_, rfl⟩
 obtain ⟨S1, hS1⟩ : ∃ S1, ((nextP (leafK kid.k) (ways s.data.toList bol kid) kid.rd kid.hd rdp low high) n x S).2 = S1 := ⟨_, rfl⟩
 have HGD := hid (show ∀ y ∈ zs, y.Ok ∧ y.In s.size ∧ x.a ≤ y.a from by rw [← hzs]; exact next_good HS.good hx hN)
 obtain ⟨Z, hZ⟩ : ∃ Z, zs.length = Z := ⟨_, rfl⟩
 have HZL := hid hZ
 have HZF := hid (show Z ≤ 4398046511104 from by rw [← hZ, ← hzs]; exact next_few HS.few hx hN)
 have HBEH : Hid (behindP (nextP (leafK kid.k) (ways s.data.toList bol kid) kid.rd kid.hd rdp low high) low h (f + 1) n x (S, xs) = if n < low then zs.foldl (fun acc y => if n < low ∨ ¬ y.a = x.a then behindP (nextP (leafK kid.k) (ways s.data.toList bol kid) kid.rd kid.hd rdp low high) low h f (n + 1) y acc else acc) (S1, xs) else ((zs.foldl (fun acc y => if n < low ∨ ¬ y.a = x.a then behindP (nextP (leafK kid.k) (ways s.data.toList bol kid) kid.rd kid.hd rdp low high) low h f (n + 1) y acc else acc) (S1, xs)).1, addL h (zs.foldl (fun acc y => if n < low ∨ ¬ y.a = x.a then behindP (nextP (leafK kid.k) (ways s.data.toList bol kid) kid.rd kid.hd rdp low high) low h f (n + 1) y acc else acc) (S1, xs)).2 x)) := by
  rw [← hzs, ← hS1]
  rfl
 obtain ⟨BE, hBE⟩ : ∃ BE, behindP (nextP (leafK kid.k) (ways s.data.toList bol kid) kid.rd kid.hd rdp low high) low h (f + 1) n x (S, xs) = BE := ⟨_, rfl⟩
 rw [hBE] at HBEH ⊢
 clear hn0 hm hm2 hx hN hO hW hP hblk IH hBE hrd hkr HS HSo HLf hZ
 obtain ⟨en, hen⟩ : ∃ en, decide (low ≤ n) = en := ⟨_, rfl⟩
 have HEN := hid hen
 go_enter Tryz.func110, Tryz.ntmps110
 go_upto_region 1 with fail
 refine opq (fun W0 => W0.heap[w.heap.size]? = some (spo x) ∧ Kp w W0) ⟨by exact last_of _ _, by exact kpt⟩ ?_
 rintro W0 ⟨xX0, xK0⟩
 have X0 := hid xX0
 have K0 := hid xK0
 clear xX0 xK0
 have RW0 := hid (HW.out.kp K0.out)
 have R0 := hid (RW0.out.b)
 have P0 := hid (bl_kp HPB.out K0.out)
 have r2 := bl_cell (R0.out) 2 _ rfl
 have p1 := bl_cell (P0.out) 1 _ rfl
 obtain ⟨x0, x1, x2, x3, x4, x5, x6⟩ := cells7 (X0.out)
 go_wp2_with fail
 clear r2 p1 x0 x1 x2 x3 x4 x5 x6 hen
 refine (NC.out _ K0.out).mono ?_
 rintro e w1 hd0
 obtain ⟨v, rfl, hsl, hr1, hk1⟩ := hd0.ex
 rw [hzs] at hsl
 rw [hS1] at hr1
 obtain ⟨ad, c, hvv, hzc, -⟩ := hsl.ex
 rw [HZL.out] at hvv hzc
 subst hvv
 have SL1 := hid hsl
 have RW1 := hid hr1
 have K1 := hid (show Kx (fun b => M b ≠ none ∨ repB R B lv sn b) W0 w1 from hk1.mono (fun _ _ e => e.imp id Or.inr))
 clear hd0 hsl hr1 hk1 hzs hS1 R0 P0
 go_wp2_with fail
 go_loopg [23] Z (fun gg i wr => ∃ (q : Nat) (st2 : List Turn × List Sp) (lv' : Value) (pl' : Nat) (sn' : Option Nat), q + gg = Z ∧ i = .int .i64 (q : Int) ∧ (zs.take q).foldl (fun acc y => if n < low ∨ ¬ y.a = x.a then behindP (nextP (leafK kid.k) (ways s.data.toList bol kid) kid.rd kid.hd rdp low high) low h f (n + 1) y acc else acc) (S1, xs) = st2 ∧ RepW s bol P M O base R B h st2.2 st2.1 lv' pl' sn' wr ∧ (∀ b, lv'.ownBlock = some b → lv.ownBlock = some b ∨ W0.heap.size ≤ b) ∧ (∀ b, sn' = some b → sn = some b ∨ W0.heap.size ≤ b) ∧ SpL wr (okB M (oRep O R B lv' sn')) (.slice ad Z c) zs ∧ Kx (fun b => M b ≠ none ∨ repB R B lv sn b) W0 wr)
 case atStart => exact ⟨0, (S1, xs), lv, pl, sn, by omega, rfl, rfl, RW1.out, fun _ e => Or.inl e, fun _ e => Or.inl e, SL1.out, K1.out⟩
 case round =>
  obtain ⟨q, st2, lv', pl', sn', hq, rfl, hst, hR, hlo, hso, hS, hK⟩ := hrel
  have HST := hid hst
  have R6 := hid hR
  have L6 := hid hlo
  have N6 := hid hso
  have S6 := hid hS
  have K6 := hid hK
  have X6 := hid (bl_kx X0.out hK HXM.out)
  have PT6 := hid (show PtAt wr (okB M (oRep O R B lv' sn')) (.mk 4 low high nn t P kn so rdp st h (kid :: ks)) from PtAt.keep (Nat.le_trans K0.out.size hK.size) (fun b hb hl => ⟨okR_step hlo hso hb (Nat.lt_of_lt_of_le hl K0.out.size), (hK.block b (Nat.lt_of_lt_of_le hl K0.out.size) (fun e => e.elim (fun e => e hb.2) (fun e => hb.1 (e.elim (fun e => Or.inl (Or.inr e)) Or.inr)))).trans (K0.out.block b hl)⟩) _ HPT.out)
  clear hst hR hlo hso hS hK
  by_cases hlt : q < Z
  ·
   have gkw : IntKind.i64.wrap ((q : Int) + 1) = (q : Int) + 1 := by have := HZF.out; rw [IntKind.wrap_i64]; omega
   have gkn : IntKind.i64.wrap (n + 1) = n + 1 := by have := HM2.out; have := HN0.out; rw [IntKind.wrap_i64]; omega
   have ga : (q : Int) < (Z : Int) := by omega
   have g0 : (0 : Int) ≤ (q : Int) := by omega
   obtain ⟨y, hy⟩ : ∃ y, zs[q]? = some y := ⟨_, List.getElem?_eq_getElem (by rw [HZL.out]; exact hlt)⟩
   obtain ⟨ad2, c2, hv2, _, hc2⟩ := S6.out.ex
   injection hv2 with e1 e2 e3
   obtain ⟨b2, hbb, _, hbl, hce⟩ := hc2 (by rw [HZL.out]; omega)
   rw [← e1] at hbb
   subst hbb
   have hsp := hce q y hy
   have HY := hid (HGD.out y (List.mem_of_getElem? hy))
   have HTK : Hid ((zs.take (q + 1)).foldl (fun acc y => if n < low ∨ ¬ y.a = x.a then behindP (nextP (leafK kid.k) (ways s.data.toList bol kid) kid.rd kid.hd rdp low high) low h f (n + 1) y acc else acc) (S1, xs) = if n < low ∨ ¬ y.a = x.a then behindP (nextP (leafK kid.k) (ways s.data.toList bol kid) kid.rd kid.hd rdp low high) low h f (n + 1) y st2 else st2) := by
    show _ = _
    rw [List.take_succ_eq_append_getElem (by rw [HZL.out]; exact hlt), List.foldl_append, (List.getElem?_eq_some_iff.1 hy).2, HST.out]
    rfl
   have x0 := hsp.c0
   have x1 := hsp.c1
   have x2 := hsp.c2
   have x3 := hsp.c3
   have x4 := hsp.c4
   have x5 := hsp.c5
   have x6 := hsp.c6
   clear hsp hce hy e1 e2 e3 hc2
   go_upto_region 5 with fail
   refine opq (fun W6 => W6.heap[wr.heap.size]? = some (spo y) ∧ W6.heap[w.heap.size]? = some (spo x) ∧ RepW s bol P M O base R B h st2.2 st2.1 lv' pl' sn' W6 ∧ SpL W6 (okB M (oRep O R B lv' sn')) (.slice (some ⟨b2, 0, none⟩) Z c) zs ∧ Kx (fun b => M b ≠ none ∨ repB R B lv sn b) W0 W6 ∧ PtAt W6 (okB M (oRep O R B lv' sn')) (.mk 4 low high nn t P kn so rdp st h (kid :: ks))) ⟨by exact last_of _ _, by exact bl_alloc X6.out _, by exact R6.out.kp ((Kp.refl _).alloc _), by exact S6.out.keep (by simp) (fun b hb hl => ⟨hb, ((Kp.refl _).alloc _).block _ hl⟩), by exact K6.out.alloc _, by exact PtAt.kp PT6.out ((Kp.refl _).alloc _)⟩ ?_
   rintro W6 ⟨xY7, xX7, xR7, xS7, xK7, xPT7⟩
   have Y7 := hid xY7
   have X7 := hid xX7
   have R7 := hid xR7
   have S7 := hid xS7
   have K7 := hid xK7
   have PT7 := hid xPT7
   clear xY7 xX7 xR7 xS7 xK7 xPT7
   clear x0 x1 x2 x3 x4 x5 x6 R6 S6 K6 X6 PT6
   obtain ⟨y0, y1, y2, y3, y4, y5, y6⟩ := cells7 (Y7.out)
   have xx := bl_cell (X7.out) 0 _ rfl
   have HIHY : Hid (n < low ∨ ¬ y.a = x.a → Calls Tryz.prog 110 #[.pointer (some ⟨R, 0, none⟩), .int .i64 (n + 1), spv y] W6 fun e w' => BehE s bol P M O base R B h (behindP (nextP (leafK kid.k) (ways s.data.toList bol kid) kid.rd kid.hd rdp low high) low h f (n + 1) y st2) lv' sn' W6 e w') := fun hc => by
    obtain ⟨m1, m2, m3⟩ := beh_less hc HY.out.2.2 HY.out.1.a1 HN0.out HM.out HM2.out
    exact HIH.out (n + 1) y st2.2 st2.1 lv' pl' sn' W6 m3 m1 m2 HY.out.1 HY.out.2.1 (fun b o => Nat.lt_of_lt_of_le (HO.out b o) (Nat.le_trans K0.out.size K7.out.size)) R7.out PT7.out
   by_cases hlow : low ≤ n
   ·
    have hen2 : en = true := by rw [← HEN.out]; exact decide_eq_true hlow
    subst hen2
    by_cases hya : y.a = x.a
    ·
     have hyb : (y.a == x.a) = true := by rw [hya]; exact beq_self_eq_true _
     have hyn : (y.a != x.a) = false := by rw [bne, hyb]; rfl
     have HTK2 : Hid ((zs.take (q + 1)).foldl (fun acc y => if n < low ∨ ¬ y.a = x.a then behindP (nextP (leafK kid.k) (ways s.data.toList bol kid) kid.rd kid.hd rdp low high) low h f (n + 1) y acc else acc) (S1, xs) = st2) := by
      show _ = _
      rw [HTK.out, if_neg (by omega)]
     clear HTK HIHY
     go_wp2_with fail
     go_roundg (gk - 1)
     case measure => omega
     case rel => exact ⟨q + 1, st2, lv', pl', sn', by omega, by go_num, HTK2.out, R7.out, L6.out, N6.out, S7.out.keep (Kp.size (a := W6) (Kp.refl _)) (fun b hb hl => ⟨hb, rfl⟩), K7.out⟩
    ·
     have hyb : (y.a == x.a) = false := by simp [hya]
     have hyn : (y.a != x.a) = true := by rw [bne, hyb]; rfl
     have HTK2 : Hid ((zs.take (q + 1)).foldl (fun acc y => if n < low ∨ ¬ y.a = x.a then behindP (nextP (leafK kid.k) (ways s.data.toList bol kid) kid.rd kid.hd rdp low high) low h f (n + 1) y acc else acc) (S1, xs) = behindP (nextP (leafK kid.k) (ways s.data.toList bol kid) kid.rd kid.hd rdp low high) low h f (n + 1) y st2) := by
      show _ = _
      rw [HTK.out, if_pos (Or.inr hya)]
     have HC := hid (HIHY.out (Or.inr hya))
     clear HTK HIHY
     go_wp2_with fail
     refine (HC.out).mono ?_
     rintro e w2 hd0
     obtain ⟨rfl, l2, p2, n2, hr2, ho2, hs2, hk2⟩ := hd0.ex
     have RC := hid hr2
     have LC := hid ho2
     have NC2 := hid hs2
     have KC := hid hk2
     clear hd0 hr2 ho2 hs2 hk2 y0 y1 y2 y3 y4 y5 y6 xx
     go_wp2_with fail
     go_roundg (gk - 1)
     case measure => omega
     case rel => exact ⟨q + 1, _, l2, p2, n2, by omega, by go_num, HTK2.out, RC.out, walk_own L6.out LC.out K7.out.size, walk_own N6.out NC2.out K7.out.size, S7.out.keep KC.out.size (fun b hb hl => ⟨okR_step LC.out NC2.out hb hl, KC.out.block b hl (fun e => e.elim (fun e => e hb.2) (fun e => hb.1 (e.elim (fun e => Or.inl (Or.inr e)) Or.inr)))⟩), K7.out.past2 KC.out (fun b hb e => e.imp id (fun e => repB_step L6.out N6.out e hb))⟩
   ·
    have hen2 : en = false := by rw [← HEN.out]; exact decide_eq_false hlow
    subst hen2
    have HTK2 : Hid ((zs.take (q + 1)).foldl (fun acc y => if n < low ∨ ¬ y.a = x.a then behindP (nextP (leafK kid.k) (ways s.data.toList bol kid) kid.rd kid.hd rdp low high) low h f (n + 1) y acc else acc) (S1, xs) = behindP (nextP (leafK kid.k) (ways s.data.toList bol kid) kid.rd kid.hd rdp low high) low h f (n + 1) y st2) := by
     show _ = _
     rw [HTK.out, if_pos (Or.inl (by omega))]
    have HC := hid (HIHY.out (Or.inl (by omega)))
    clear HTK HIHY
    go_wp2_with fail
    refine (HC.out).mono ?_
    rintro e w2 hd0
    obtain ⟨rfl, l2, p2, n2, hr2, ho2, hs2, hk2⟩ := hd0.ex
    have RC := hid hr2
    have LC := hid ho2
    have NC2 := hid hs2
    have KC := hid hk2
    clear hd0 hr2 ho2 hs2 hk2 y0 y1 y2 y3 y4 y5 y6 xx
    go_wp2_with fail
    go_roundg (gk - 1)
    case measure => omega
    case rel => exact ⟨q + 1, _, l2, p2, n2, by omega, by go_num, HTK2.out, RC.out, walk_own L6.out LC.out K7.out.size, walk_own N6.out NC2.out K7.out.size, S7.out.keep KC.out.size (fun b hb hl => ⟨okR_step LC.out NC2.out hb hl, KC.out.block b hl (fun e => e.elim (fun e => e hb.2) (fun e => hb.1 (e.elim (fun e => Or.inl (Or.inr e)) Or.inr)))⟩), K7.out.past2 KC.out (fun b hb e => e.imp id (fun e => repB_step L6.out N6.out e hb))⟩
  ·
   have ga : ¬ (q : Int) < (Z : Int) := by omega
   have HF : Hid (zs.foldl (fun acc y => if n < low ∨ ¬ y.a = x.a then behindP (nextP (leafK kid.k) (ways s.data.toList bol kid) kid.rd kid.hd rdp low high) low h f (n + 1) y acc else acc) (S1, xs) = st2) := by
    show _ = _
    rw [← HST.out, List.take_of_length_le (by rw [HZL.out]; omega)]
   rw [HF.out] at HBEH
   by_cases hlow : low ≤ n
   ·
    have hen2 : en = true := by rw [← HEN.out]; exact decide_eq_true hlow
    subst hen2
    have HB2 : Hid (BE = (st2.1, addL h st2.2 x)) := by show _ = _; rw [HBEH.out, if_neg (by omega)]
    go_upto_region 9 with fail
    have QD := hid (R6.out.kp (Kp.refl wr).drew)
    have HXR := hid (show ¬ rowB R lv' sn' w.heap.size from fun e => HXM.out (Or.inr (repB_step L6.out N6.out (Or.inl e) (bl_lt X0.out))))
    have Q0 : Kx (rowB R lv' sn') wr wr.drew := (Kx.refl _ _).drew
    have MK : Hid (∀ W, Kx (rowB R lv' sn') wr W → W.cell? ⟨w.heap.size, 0, none⟩ = some (.int .i8 x.a) ∧ W.cell? ⟨w.heap.size, 1, none⟩ = some (.int .i8 x.f0) ∧ W.cell? ⟨w.heap.size, 2, none⟩ = some (.int .i8 x.t0) ∧ W.cell? ⟨w.heap.size, 3, none⟩ = some (.int .i8 x.f1) ∧ W.cell? ⟨w.heap.size, 4, none⟩ = some (.int .i8 x.t1) ∧ W.cell? ⟨w.heap.size, 5, none⟩ = some (.int .i8 x.f2) ∧ W.cell? ⟨w.heap.size, 6, none⟩ = some (.int .i8 x.t2) ∧ Hid (Kx (rowB R lv' sn') wr W)) := fun W k => ⟨bl_cell (bl_kx X6.out k HXR.out) 0 _ rfl, bl_cell (bl_kx X6.out k HXR.out) 1 _ rfl, bl_cell (bl_kx X6.out k HXR.out) 2 _ rfl, bl_cell (bl_kx X6.out k HXR.out) 3 _ rfl, bl_cell (bl_kx X6.out k HXR.out) 4 _ rfl, bl_cell (bl_kx X6.out k HXR.out) 5 _ rfl, bl_cell (bl_kx X6.out k HXR.out) 6 _ rfl, k⟩
    refine wp_region_noPanic ?_
    refine hdrew MK Q0 (fun hH => ?_)
    have KQ := Q0
    refine tk 0 (some 43) (Op.move (Operand.tmp 0)) 198 (v := ?v0a1) rfl ?h0a1 hH ?_
    case h0a1 => intro _ _; go_simp; try with_reducible rfl
    try simp only [ps]
    refine tk 1 (some 44) (Op.nilCheck (Operand.tmp 43)) 0 (v := ?v1a2) rfl ?h1a2 hH ?_
    case h1a2 => intro _ _; go_simp; try with_reducible rfl
    try simp only [ps]
    refine tk 2 (some 45) (Op.fieldAddr 182 (Operand.tmp 44) 3) 0 (v := ?v2a3) rfl ?h2a3 hH ?_
    case h2a3 => intro _ _; go_simp; try with_reducible rfl
    try simp only [ps]
    refine tk 3 (some 46) (Op.load 83 (Operand.tmp 5)) 83 (v := ?v3a4) rfl ?h3a4 hH ?_
    case h3a4 => intro _ _; go_simp; try with_reducible rfl
    try simp only [ps]
    refine wpAnyH_ready (rs := [4]) (by kernel_rfl) (by simp) ?_
    refine AllReadyH.cons (o := { dst := some 47, op := Op.call { callee := Callee.value (Operand.func 126), args := #[Operand.tmp 45, Operand.tmp 46], argTypes := #[177, 83] }, type := 0, pos := "repeat.go:35", after := #[{ on := 2, ground := Ground.data }, { on := 3, ground := Ground.data }], guard := none }) rfl (fun K hKq => ?_) AllReadyH.nil
    go_simp
    refine (raddB_any R h pl' lv' sn' (.string s) (.bool bol) (ptv P) (.map (some B)) base st2.2 x HX.out _ QD.out.b QD.out.i QD.out.rb QD.out.le).mono ?_
    rintro e y2 hd0
    obtain ⟨he, l2, p2, n2, hr2, ho2, hs2, hk2⟩ := QD.out.add hd0
    subst he
    have RC := hid hr2
    have LC := hid ho2
    have NC2 := hid hs2
    have KC := hid hk2
    clear hd0 hr2 ho2 hs2 hk2
    refine hKq.out _ _ (MK.out _ ((Kx.refl _ _).drew.trans KC.out)) (fun hN => ?_)
    clear hKq K hH KQ
    have hH := hN
    clear hN
    have KQ := hH.2.2.2.2.2.2.2.out
    try simp only [ps]
    refine wpAnyH_done (by kernel_rfl) ?_ _
    refine NoPanic.normal ?_
    go_wp2_with fail
    refine bodyPost_end (v := .tuple #[]) (results_none rfl _ _ _) rfl ⟨rfl, l2, p2, n2, by rw [HB2.out]; exact RC.out, fun b e => (walk_own L6.out LC.out K6.out.size b e).imp id (fun e => Nat.le_trans K0.out.size e), fun b e => (walk_own N6.out NC2.out K6.out.size b e).imp id (fun e => Nat.le_trans K0.out.size e), (Kp.kx K0.out).trans (K6.out.past2 ((Kx.refl _ _).drew.trans KC.out) (fun b hb e => Or.inr (repB_step L6.out N6.out (Or.inl e) hb)))⟩
   ·
    have hen2 : en = false := by rw [← HEN.out]; exact decide_eq_false hlow
    subst hen2
    have HB2 : Hid (BE = st2) := by show _ = _; rw [HBEH.out, if_pos (by omega)]
    go_wp2_with fail
    refine bodyPost_end (v := .tuple #[]) (results_none rfl _ _ _) rfl ⟨rfl, lv', pl', sn', by rw [HB2.out]; exact R6.out, fun b e => (L6.out b e).imp id (fun e => Nat.le_trans K0.out.size e), fun b e => (N6.out b e).imp id (fun e => Nat.le_trans K0.out.size e), (Kp.kx K0.out).trans K6.out⟩
theorem behind_all {s : ByteArray} {bol : Bool} {P : Nat} {M : Nat → Option Memo} {O : Nat → Prop} {base R B h : Nat} {low : Int} {NX : Int → Sp → List Turn → List Sp × List Turn} {p : Pt} (H : ∀ f, BehS s bol P M O base R B h low NX p f → BehS s bol P M O base R B h low NX p (f + 1)) : ∀ f, BehS s bol P M O base R B h low NX p f
 | 0 => fun _ _ _ _ _ _ _ _ _ hm => absurd hm (Nat.not_lt_zero _)
 | f + 1 => H f (behind_all H f)
end Go.Proofs.YtnajcnhgeggngaaGreat.Way
