/-
  Texts of this claim: Begins, Alt, RepW.
-/
import Derived.Test.YtnajcnhgeggngaaGreatM23
import Derived.Test.YtnajcnhgeggngaaGreatM24
import Derived.Test.YtnajcnhgeggngaaGreatM22

/-! ### Begins -/

namespace Go.Proofs.YtnajcnhgeggngaaGreat.Way
set_option maxHeartbeats 2000000
set_option maxRecDepth 100000
open Go.RowKit Go.Proofs.YtnajcnhgeggngaaGreat Go.Maps

theorem TurnsAt.mem {w : World} {b : Nat} {S S' : List Turn} (h : TurnsAt w b S) (hs : ∀ t, t ∈ S ↔ t ∈ S') : TurnsAt w b S' := by
 obtain ⟨es, clock, h1, h2, h3, h4⟩ := h.ex
 refine ⟨es, clock, h1, h2, fun e he => ?_, fun t ht => h4 t ((hs t).2 ht)⟩
 obtain ⟨x, a1, a2, a3, a4⟩ := h3 e he
 exact ⟨x, a1, a2, (hs x).1 a3, a4⟩
theorem TurnsAt.more {w : World} {b : Nat} {S : List Turn} {t : Turn} (h : TurnsAt w b (S ++ [t])) : TurnsAt w b (if S.contains t then S else S ++ [t]) := by
 cases hc : S.contains t with
 | false => exact h
 | true =>
  refine h.mem (fun u => ?_)
  rw [List.mem_append, List.mem_singleton]
  constructor
  ·
   rintro (e | rfl)
   ·
    exact e
   ·
    exact List.contains_iff_mem.1 hc
  ·
   exact Or.inl
structure BeginsD (B : Nat) (S : List Turn) (t : Turn) (w : World) (e : Ending) (w' : World) : Prop where
 ex : e = .returned (.bool (!S.contains t)) ∧ TurnsAt w' B (if S.contains t then S else S ++ [t]) ∧ Kx (fun b => b = B) w w'
theorem begins_any (R B h pl : Nat) (lv z0 z1 z2 : Value) (sn : Option Nat) (t : Turn) (ht0 : t.Ok) (S : List Turn) (w : World) (hR : w.heap[R]? = some (.cells #[z0, z1, z2, .map (some B), .int .u8 (h : Int), lv, .int .u64 (pl : Int), .map sn] 182)) (hB : TurnsAt w B S) :
  Calls Tryz.prog 142 #[.pointer (some ⟨R, 0, none⟩), tnv t] w fun e w' => BeginsD B S t w e w' := by
 have HR := hid hR
 have HB := hid hB
 have ht := hid ht0
 obtain ⟨q, hq⟩ : ∃ q, S.contains t = q := ⟨_, rfl⟩
 have HQE := hid hq
 have HQ : Hid (∀ W, (Instr.lookup 180 (.map (some B)) (tnv t) true).run Tryz.prog W = .ok (.tuple #[.agg #[], .bool (S.contains t)]) W → (Instr.lookup 180 (.map (some B)) (tnv t) true).run Tryz.prog W = .ok (.tuple #[.agg #[], .bool q]) W) := by
  rw [hq]
  exact fun _ h => h
 clear hR hB ht0 hq
 go_enter Tryz.func142, Tryz.ntmps142
 go_upto_region 1 with fail
 refine opq (fun W0 => W0.heap[w.heap.size]? = some (.cells #[.int .i8 t.n, .int .u8 (t.lv : Int), .int .i8 t.x.a, .int .i8 t.x.f0, .int .i8 t.x.t0, .int .i8 t.x.f1, .int .i8 t.x.t1, .int .i8 t.x.f2, .int .i8 t.x.t2] 220) ∧ W0.heap[R]? = some (.cells #[z0, z1, z2, .map (some B), .int .u8 (h : Int), lv, .int .u64 (pl : Int), .map sn] 182) ∧ TurnsAt W0 B S ∧ Kp w W0) ⟨by exact last_of _ _, by exact bl_alloc HR.out _, by exact HB.out.same (((Kp.refl _).alloc _).block _ HB.out.lt), by exact (Kp.refl _).alloc _⟩ ?_
 rintro W0 ⟨xT0, xR0, xB0, xK0⟩
 have T0 := hid xT0
 have R0 := hid xR0
 have B0 := hid xB0
 have K0 := hid xK0
 clear xT0 xR0 xB0 xK0
 clear HR HB
 go_cut [6] (fun v wc => v = .bool q ∧ Kp W0 wc)
 case first =>
  have Q0 : Kp W0 W0.drew := (Kp.refl _).drew
  have MK : Hid (∀ W, Kp W0 W → W.cell? ⟨R, 3, none⟩ = some (.map (some B)) ∧ W.cell? ⟨w.heap.size, 0, none⟩ = some (.int .i8 t.n) ∧ W.cell? ⟨w.heap.size, 1, none⟩ = some (.int .u8 (t.lv : Int)) ∧ W.cell? ⟨w.heap.size, 2, none⟩ = some (.int .i8 t.x.a) ∧ W.cell? ⟨w.heap.size, 3, none⟩ = some (.int .i8 t.x.f0) ∧ W.cell? ⟨w.heap.size, 4, none⟩ = some (.int .i8 t.x.t0) ∧ W.cell? ⟨w.heap.size, 5, none⟩ = some (.int .i8 t.x.f1) ∧ W.cell? ⟨w.heap.size, 6, none⟩ = some (.int .i8 t.x.t1) ∧ W.cell? ⟨w.heap.size, 7, none⟩ = some (.int .i8 t.x.f2) ∧ W.cell? ⟨w.heap.size, 8, none⟩ = some (.int .i8 t.x.t2) ∧ (Instr.lookup 180 (.map (some B)) (tnv t) true).run Tryz.prog W = .ok (.tuple #[.agg #[], .bool q]) W ∧ Hid (Kp W0 W)) := fun W k => ⟨bl_cell (bl_kp R0.out k) 3 _ rfl, bl_cell (bl_kp T0.out k) 0 _ rfl, bl_cell (bl_kp T0.out k) 1 _ rfl, bl_cell (bl_kp T0.out k) 2 _ rfl, bl_cell (bl_kp T0.out k) 3 _ rfl, bl_cell (bl_kp T0.out k) 4 _ rfl, bl_cell (bl_kp T0.out k) 5 _ rfl, bl_cell (bl_kp T0.out k) 6 _ rfl, bl_cell (bl_kp T0.out k) 7 _ rfl, bl_cell (bl_kp T0.out k) 8 _ rfl, HQ.out _ ((B0.out.same (k.block B B0.out.lt)).look Tryz.underlying180 t ht.out), k⟩
  refine wp_region_noPanic ?_
  refine hdrew MK Q0 (fun hH => ?_)
  have KQ := Q0
  refine tk 0 (some 8) (Op.move (Operand.tmp 0)) 198 (v := ?v0a1) rfl ?h0a1 hH ?_
  case h0a1 => intro _ _; go_simp; try with_reducible rfl
  try simp only [ps]
  refine tk 1 (some 9) (Op.nilCheck (Operand.tmp 8)) 0 (v := ?v1a2) rfl ?h1a2 hH ?_
  case h1a2 => intro _ _; go_simp; try with_reducible rfl
  try simp only [ps]
  refine tk 2 (some 10) (Op.fieldAddr 182 (Operand.tmp 9) 2) 0 (v := ?v2a3) rfl ?h2a3 hH ?_
  case h2a3 => intro _ _; go_simp; try with_reducible rfl
  try simp only [ps]
  refine tk 3 (some 11) (Op.load 180 (Operand.tmp 10)) 180 (v := ?v3a4) rfl ?h3a4 hH ?_
  case h3a4 => intro _ _; go_simp; try with_reducible rfl
  try simp only [ps]
  refine tk 4 (some 12) (Op.load 220 (Operand.tmp 3)) 220 (v := ?v4a5) rfl ?h4a5 hH ?_
  case h4a5 => intro _ _; go_simp; try with_reducible rfl
  try simp only [ps]
  refine tk 5 (some 13) (Op.lookup 180 (Operand.tmp 11) (Operand.tmp 12) true) 215 (v := ?v5a6) rfl ?h5a6 hH ?_
  case h5a6 => intro _ _; go_simp; try with_reducible rfl
  try simp only [ps]
  refine tk 6 (some 7) (Op.move (Operand.tmp 13)) 215 (v := ?v6a7) rfl ?h6a7 hH ?_
  case h6a7 => intro _ _; go_simp; try with_reducible rfl
  try simp only [ps]
  refine tk 7 (some 14) (Op.extract (Operand.tmp 7) 0) 206 (v := ?v7a8) rfl ?h7a8 hH ?_
  case h7a8 => intro _ _; go_simp; try with_reducible rfl
  try simp only [ps]
  refine tk 8 (some 15) (Op.extract (Operand.tmp 7) 1) 4 (v := ?v8a9) rfl ?h8a9 hH ?_
  case h8a9 => intro _ _; go_simp; try with_reducible rfl
  try simp only [ps]
  refine wpAnyH_ready (rs := [9]) (by kernel_rfl) (by simp) ?_
  refine AllReadyH.cons (o := { dst := some 5, op := Op.alloc 206, type := 0, pos := "repeat.go:74", after := #[], guard := none }) rfl (fun K hKq => ?_) AllReadyH.nil
  go_simp
  refine hKq.out _ _ (MK.out _ (by first | exact KQ.alloc _ | exact (KQ0.alloc _).drew)) (fun hN => ?_)
  clear hKq K hH KQ
  have hH := hN
  clear hN
  have KQ := hH.2.2.2.2.2.2.2.2.2.2.2.out
  try simp only [ps]
  refine wpAnyH_ready (rs := [10]) (by kernel_rfl) (by simp) ?_
  refine AllReadyH.cons (o := { dst := none, op := Op.store 206 (Operand.tmp 5) (Operand.tmp 14), type := 0, pos := "repeat.go:74", after := #[{ on := 9, ground := Ground.data }, { on := 7, ground := Ground.data }, { on := 0, ground := Ground.phase }, { on := 1, ground := Ground.phase }, { on := 2, ground := Ground.phase }, { on := 3, ground := Ground.phase }, { on := 4, ground := Ground.phase }, { on := 5, ground := Ground.phase }, { on := 6, ground := Ground.phase }, { on := 7, ground := Ground.phase }, { on := 8, ground := Ground.textOnly Departure.lateStores }, { on := 9, ground := Ground.phase }], guard := none }) rfl (fun K hKq => ?_) AllReadyH.nil
  go_simp
  refine hKq.out _ _ (MK.out _ KQ) (fun hN => ?_)
  clear hKq K hH KQ
  have hH := hN
  clear hN
  have KQ := hH.2.2.2.2.2.2.2.2.2.2.2.out
  try simp only [ps]
  refine tk 11 (some 6) (Op.assign (Operand.tmp 15)) 4 (v := ?v11a10) rfl ?h11a10 hH ?_
  case h11a10 => intro _ _; go_simp; try with_reducible rfl
  try simp only [ps]
  refine wpAnyH_done (by kernel_rfl) ?_ _
  refine NoPanic.normal ?_
  go_wp2_with fail
  go_meet
  case rel => exact ⟨rfl, KQ⟩
 case rest =>
 obtain ⟨rfl, hk⟩ := hcut
 rename World => W1
 have T1 := hid (bl_kp T0.out hk)
 have R1 := hid (bl_kp R0.out hk)
 have B1 := hid (B0.out.same (hk.block B B0.out.lt))
 have K1 := hid (K0.out.trans hk)
 clear hk T0 R0 B0 K0
 go_upto_region 2 with fail
 have Q0 : Kp W1 W1.drew := (Kp.refl _).drew
 have MK : Hid (∀ W, Kp W1 W → W.cell? ⟨R, 3, none⟩ = some (.map (some B)) ∧ W.cell? ⟨w.heap.size, 0, none⟩ = some (.int .i8 t.n) ∧ W.cell? ⟨w.heap.size, 1, none⟩ = some (.int .u8 (t.lv : Int)) ∧ W.cell? ⟨w.heap.size, 2, none⟩ = some (.int .i8 t.x.a) ∧ W.cell? ⟨w.heap.size, 3, none⟩ = some (.int .i8 t.x.f0) ∧ W.cell? ⟨w.heap.size, 4, none⟩ = some (.int .i8 t.x.t0) ∧ W.cell? ⟨w.heap.size, 5, none⟩ = some (.int .i8 t.x.f1) ∧ W.cell? ⟨w.heap.size, 6, none⟩ = some (.int .i8 t.x.t1) ∧ W.cell? ⟨w.heap.size, 7, none⟩ = some (.int .i8 t.x.f2) ∧ W.cell? ⟨w.heap.size, 8, none⟩ = some (.int .i8 t.x.t2) ∧ Hid (Kp W1 W)) := fun W k => ⟨bl_cell (bl_kp R1.out k) 3 _ rfl, bl_cell (bl_kp T1.out k) 0 _ rfl, bl_cell (bl_kp T1.out k) 1 _ rfl, bl_cell (bl_kp T1.out k) 2 _ rfl, bl_cell (bl_kp T1.out k) 3 _ rfl, bl_cell (bl_kp T1.out k) 4 _ rfl, bl_cell (bl_kp T1.out k) 5 _ rfl, bl_cell (bl_kp T1.out k) 6 _ rfl, bl_cell (bl_kp T1.out k) 7 _ rfl, bl_cell (bl_kp T1.out k) 8 _ rfl, k⟩
 refine wp_region_noPanic ?_
 refine hdrewZ 6 MK Q0 (fun hH => ?_)
 have KQ := Q0
 refine zk 6 0 [] (some 16) (Op.move (Operand.tmp 0)) 198 (v := ?v0b1) rfl ?h0b1 hH ?_
 case h0b1 => intro _ _; go_simp; try with_reducible rfl
 try simp only [ps]
 refine zk 6 1 [] (some 17) (Op.nilCheck (Operand.tmp 16)) 0 (v := ?v1b2) rfl ?h1b2 hH ?_
 case h1b2 => intro _ _; go_simp; try with_reducible rfl
 try simp only [ps]
 refine zk 6 2 [] (some 18) (Op.fieldAddr 182 (Operand.tmp 17) 2) 0 (v := ?v2b3) rfl ?h2b3 hH ?_
 case h2b3 => intro _ _; go_simp; try with_reducible rfl
 try simp only [ps]
 refine zk 6 3 [] (some 19) (Op.load 180 (Operand.tmp 18)) 180 (v := ?v3b4) rfl ?h3b4 hH ?_
 case h3b4 => intro _ _; go_simp; try with_reducible rfl
 try simp only [ps]
 refine zk 6 4 [] (some 20) (Op.load 220 (Operand.tmp 3)) 220 (v := ?v4b5) rfl ?h4b5 hH ?_
 case h4b5 => intro _ _; go_simp; try with_reducible rfl
 try simp only [ps]
 refine zk 6 5 [] (some 21) (Op.build 206 #[]) 206 (v := ?v5b6) rfl ?h5b6 hH ?_
 case h5b6 => intro _ _; go_simp; try with_reducible rfl
 try simp only [ps]
 refine anyZ_ready (rs := [6]) (by kernel_rfl) (by simp) ?_
 refine AllZ.last (o := { dst := none, op := Op.mapUpdate 180 (Operand.tmp 19) (Operand.tmp 20) (Operand.tmp 21), type := 0, pos := "repeat.go:75", after := #[{ on := 3, ground := Ground.data }, { on := 4, ground := Ground.data }, { on := 5, ground := Ground.data }, { on := 0, ground := Ground.phase }, { on := 1, ground := Ground.phase }, { on := 2, ground := Ground.phase }, { on := 3, ground := Ground.phase }, { on := 4, ground := Ground.phase }, { on := 5, ground := Ground.phase }], guard := none }) rfl (Or.inl rfl) (fun K hKq => ?_) AllZ.nil
 obtain ⟨wm, hrun, hset, hg⟩ := (B1.out.same (KQ.block B B1.out.lt)).put Tryz.underlying180 t ht.out
 have HSET := hid hset
 have KG := hid ((Kp.kx (S := fun b => b = B) KQ).grown hg (fun k e _ => by injection e with e; exact e.symm))
 clear hset hg
 go_simp
 refine hKq.out _ _ ?_
 clear hrun
 clear hKq K
 try simp only [ps]
 refine anyZ_done (by kernel_rfl) ?_ _
 refine NoPanic.normal ?_
 go_wp2_with fail
 go_ret
 exact ⟨by rw [HQE.out]; rfl, HSET.out.more, (Kp.kx K1.out).trans KG.out⟩
end Go.Proofs.YtnajcnhgeggngaaGreat.Way

/-! ### Alt -/

namespace Go.Proofs.YtnajcnhgeggngaaGreat.Way
set_option maxHeartbeats 2000000
set_option maxRecDepth 100000
open Go.RowKit Go.Proofs.YtnajcnhgeggngaaGreat

abbrev KR (M : Nat → Option Memo) (R : Nat) (w w' : World) : Prop := Kx (fun b => M b ≠ none ∨ b = R) w w'
theorem RowW.new {M : Nat → Option Memo} {O : Nat → Prop} {R h : Nat} {w w' : World} (hM : MemOk M O w) (hh : h < 8) (k : Kp w w') (hR : w.heap.size ≤ R) (hb : w'.heap[R]? = some (roA h (.slice none 0 0) 0 none)) : RowW M O w'.heap.size R h [] (.slice none 0 0) 0 none w' := by
 refine ⟨hb, ⟨hh, SpR.nil _ _, ⟨by decide, fun i hi => ?_⟩, (fun b e => by cases e), List.nodup_nil⟩, ?_⟩
 ·
  constructor
  ·
   intro e
   simp at e
  ·
   rintro ⟨y, hy, _⟩
   cases hy
 ·
  refine hM.keep (S := fun _ => False) (Kp.kx k) (fun _ _ e => e.elim) (fun b hl e => ?_) (fun b e => ?_)
  ·
   rcases e with e | e | e | e
   ·
    exact e
   ·
    omega
   ·
    cases e
   ·
    cases e
  ·
   rcases e with e | e | e | e
   ·
    exact hM.own b e
   ·
    exact hM.lt (by omega)
   ·
    cases e
   ·
    cases e
theorem RowW.spl {M : Nat → Option Memo} {O : Nat → Prop} {base R h : Nat} {xs : List Sp} {lv : Value} {pl : Nat} {sn : Option Nat} {w : World} (q : RowW M O base R h xs lv pl sn w) (hO : ∀ b, O b → b < base) : SpL w (okB M O) lv xs :=
 q.i.row.spl (fun b e => ⟨fun o => by have := (q.i.row.block b e).1; have := hO b o; omega, q.m.own b (Or.inr (Or.inr (Or.inl e)))⟩)
theorem RowW.mem {M : Nat → Option Memo} {O : Nat → Prop} {base R h : Nat} {xs : List Sp} {lv : Value} {pl : Nat} {sn : Option Nat} {w : World} (q : RowW M O base R h xs lv pl sn w) : MemOk M O w :=
 q.m.more (fun _ _ o => Or.inl o) (fun b o => q.m.own b (Or.inl o))
theorem RowW.step {M : Nat → Option Memo} {O : Nat → Prop} {R h : Nat} {xs : List Sp} {lv : Value} {pl : Nat} {sn : Option Nat} {w1 w w' : World} (q : RowW M O w1.heap.size R h xs lv pl sn w) (K : KR M R w1 w) (k : Kx (fun b => M b ≠ none ∨ rowB R lv sn b) w w') : KR M R w1 w' := by
 refine K.past2 k (fun b hb e => ?_)
 rcases e with e | e | e | e
 ·
  exact Or.inl e
 ·
  exact Or.inr e
 ·
  have := (q.i.row.block b e).1; omega
 ·
  have := (q.i.set b e).1; omega
theorem RowW.okb {M : Nat → Option Memo} {O : Nat → Prop} {R h : Nat} {xs : List Sp} {lv : Value} {pl : Nat} {sn : Option Nat} {w0 w1 w : World} (q : RowW M O w1.heap.size R h xs lv pl sn w) (k0 : Kp w0 w1) (hR : w0.heap.size ≤ R) (K : KR M R w1 w) : ∀ b, okB M O b → b < w0.heap.size → okB M (oR O R lv sn) b ∧ w.heap[b]? = w0.heap[b]? := by
 intro b hb hl
 have h01 := k0.size
 refine ⟨⟨fun o => ?_, hb.2⟩, (K.block b (by omega) (fun e => ?_)).trans (k0.block b hl)⟩
 ·
  rcases o with o | o | o | o
  ·
   exact hb.1 o
  ·
   omega
  ·
   have := (q.i.row.block b o).1; omega
  ·
   have := (q.i.set b o).1; omega
 ·
  rcases e with e | e
  ·
   exact e hb.2
  ·
   omega
theorem KR.km {M : Nat → Option Memo} {R : Nat} {w0 w1 w : World} (K : KR M R w1 w) (k0 : Kp w0 w1) (hR : w0.heap.size ≤ R) : Km M w0 w :=
 Kx.past2 (S := fun b => M b ≠ none) (Kp.kx k0) K (fun b hb e => e.elim id (fun e => by omega))
theorem KR.size {M : Nat → Option Memo} {R : Nat} {w0 w1 w : World} (K : KR M R w1 w) (k0 : Kp w0 w1) : w0.heap.size ≤ w.heap.size := Nat.le_trans k0.size (Kx.size K)
theorem walt_any (s : ByteArray) (bol : Bool) (h60 : s.size ≤ 60) (M : Nat → Option Memo) (p : Pt) (HS : ∀ (j : Nat) q, p.kids[j]? = some q → WSaid s bol M q) (HW : WdOk p.kids) (hd8 : p.hd < 8) (hf : p.kids.length ≤ 4398046511104) (O : Nat → Prop) (x : Sp) (hx : x.Ok) (hN : x.In s.size) (w : World) (hO : ∀ b, O b → b < w.heap.size) (hM : MemOk M O w) (hP : PtAt w (okB M O) p) :
  Calls Tryz.prog 83 #[wkv s bol, ptv p.P, spv x] w fun e w' => WaysD (altW s.data.toList bol p.hd p.kids x []) (okB M O) (fun w' => Km M w w' ∧ MemOk M O w') e w' := by
 obtain ⟨k, low, high, n, t, kn, so, kids, ad, c, hp, hokP, hblk, hks, hpts⟩ := hP.form
 have hkk : p.kids = kids := congrArg Pt.kids hp
 rw [hkk] at HS HW hf ⊢
 clear hp hkk hP
 obtain ⟨P, hPP⟩ : ∃ P, p.P = P := ⟨_, rfl⟩
 obtain ⟨h, hh⟩ : ∃ h, p.hd = h := ⟨_, rfl⟩
 rw [hPP] at hblk hokP ⊢
 rw [hh] at hblk hd8 ⊢
 clear hPP hh
 obtain ⟨L, hL⟩ : ∃ L, kids.length = L := ⟨_, rfl⟩
 rw [hL] at hblk hf
 have hcap := hks.cap
 rw [hL] at hcap
 have HL := hid hL
 have HSD := hid HS
 have HWD := hid HW
 have HX := hid hx
 have HN := hid hN
 have HO := hid hO
 have HM := hid hM
 have HP := hid hblk
 have HK := hid hks
 have HPT := hid hpts
 have HPM := hid hokP.2
 obtain ⟨T, hT⟩ : ∃ T, altW s.data.toList bol h kids x [] = T := ⟨_, rfl⟩
 have HT := hid hT
 rw [hT]
 clear hL hx hN hO hM hblk hks hpts hokP HS HW hT
 go_enter Tryz.func83, Tryz.ntmps83
 go_upto_region 1 with fail
 refine opq (fun W0 => W0.heap[w.heap.size]? = some (.cells #[.string s, .bool bol] 70) ∧ W0.heap[(w.heap.size + 1)]? = some (spo x) ∧ W0.heap[P]? = some (pto k low high n t (.slice ad L c) p.rd p.st h kn so) ∧ Kp w W0 ∧ w.heap.size + 2 = W0.heap.size) ⟨by exact bl_alloc (last_of _ _) _, by exact last_at _ _ _ (by simp), by exact bl_kp HP.out kpt, by exact kpt, by simp⟩ ?_
 rintro W0 ⟨xT0, xX0, xP0, xK0, xZ0⟩
 have T0 := hid xT0
 have X0 := hid xX0
 have P0 := hid xP0
 have K0 := hid xK0
 have Z0 := hid xZ0
 clear xT0 xX0 xP0 xK0 xZ0
 obtain ⟨p0, p1, p2, p3, p4, p5, p6, p7, p8, p9, p10, p11, p12, p13⟩ := cells14 (P0.out)
 go_upto_region 2 with fail
 refine opq (fun W1 => W1.heap[W0.heap.size]? = some (roA h (.slice none 0 0) 0 none) ∧ W1.heap[w.heap.size]? = some (.cells #[.string s, .bool bol] 70) ∧ W1.heap[(w.heap.size + 1)]? = some (spo x) ∧ W1.heap[P]? = some (pto k low high n t (.slice ad L c) p.rd p.st h kn so) ∧ Kp w W1) ⟨by exact last_of _ _, by exact bl_alloc T0.out _, by exact bl_alloc X0.out _, by exact bl_alloc P0.out _, by exact K0.out.alloc _⟩ ?_
 rintro W1 ⟨xR1, xT1, xX1, xP1, xK1⟩
 have R1 := hid xR1
 have T1 := hid xT1
 have X1 := hid xX1
 have P1 := hid xP1
 have K1 := hid xK1
 clear xR1 xT1 xX1 xP1 xK1
 clear T0 X0 P0 K0 p0 p1 p2 p3 p4 p5 p6 p7 p8 p9 p10 p11 p12 p13
 have ZR := hid Z0.out
 have RW := hid (RowW.new HM.out hd8 K1.out (R := W0.heap.size) (by have := ZR.out; omega) R1.out)
 have HRW := hid (bl_lt R1.out)
 clear Z0 R1 hd8
 obtain ⟨p0, p1, p2, p3, p4, p5, p6, p7, p8, p9, p10, p11, p12, p13⟩ := cells14 (P1.out)
 go_wp2_with fail
 clear p0 p1 p2 p3 p4 p5 p6 p7 p8 p9 p10 p11 p12 p13
 go_loopg [20] L (fun gg i wr => ∃ (q : Nat) (lv : Value) (pl : Nat) (sn : Option Nat) (ys : List Sp), q + gg = L ∧ i = .int .i64 (q : Int) ∧ RowW M O W1.heap.size W0.heap.size h ys lv pl sn wr ∧ altW s.data.toList bol h (kids.drop q) x ys = T ∧ KR M W0.heap.size W1 wr)
 case atStart => exact ⟨0, _, _, _, [], by omega, rfl, RW.out, HT.out, Kx.refl _ _⟩
 case round =>
  obtain ⟨q, lv, pl, sn, ys, hq, rfl, hR, hA, hK⟩ := hrel
  have R6 := hid hR
  have A6 := hid hA
  have K6 := hid hK
  have T6 := hid (bl_kx T1.out hK (fun e => e.elim (fun e => e (HM.out.lt (Nat.le_refl _))) (fun e => by have := ZR.out; omega)))
  have X6 := hid (bl_kx X1.out hK (fun e => e.elim (fun e => e (HM.out.lt (Nat.le_succ _))) (fun e => by have := ZR.out; omega)))
  have OB := hid (hR.okb K1.out (by have := ZR.out; omega) hK)
  have SZ := hid (hK.size K1.out)
  clear hR hA hK
  by_cases hlt : q < L
  ·
   have gkw : IntKind.i64.wrap ((q : Int) + 1) = (q : Int) + 1 := by rw [IntKind.wrap_i64]; omega
   have ga : (q : Int) < (L : Int) := by omega
   have g0 : (0 : Int) ≤ (q : Int) := by omega
   obtain ⟨kid, hkid⟩ : ∃ kid, kids[q]? = some kid := ⟨_, List.getElem?_eq_getElem (by rw [HL.out]; exact hlt)⟩
   obtain ⟨bb, rfl, -, hbb, hce⟩ := (HK.out.keep SZ.out OB.out).at_ (by rw [HL.out]; omega)
   have cp := hce q kid hkid
   have HTK : Hid (altW s.data.toList bol h (kids.drop (q + 1)) x (walkF (ways s.data.toList bol kid) kid.rd h ys x) = T) := by
    show _ = _
    rw [← A6.out, List.drop_eq_getElem_cons (i := q) (by rw [HL.out]; exact hlt), (List.getElem?_eq_some_iff.1 hkid).2]
    rfl
   have WK := hid (walk_any s bol h60 M kid (HWD.out.get q kid hkid).1 (HSD.out q kid hkid) O W1.heap.size W0.heap.size h pl ys lv sn x HX.out HN.out wr (fun b o => Nat.lt_of_lt_of_le (HO.out b o) SZ.out) HM.out.own R6.out (PtAt.keep SZ.out OB.out kid (HPT.out.get q kid hkid)) HRW.out (Kx.size K6.out))
   clear hce hbb hkid
   have t0 := bl_cell (T6.out) 0 _ rfl
   have t1 := bl_cell (T6.out) 1 _ rfl
   obtain ⟨x0, x1, x2, x3, x4, x5, x6⟩ := cells7 (X6.out)
   go_wp2_with fail
   clear t0 t1 x0 x1 x2 x3 x4 x5 x6 cp
   refine (WK.out).mono ?_
   rintro e yw hd
   obtain ⟨rfl, l2, p2, n2, hr2, -, -, hk2⟩ := hd.ex
   have RC := hid hr2
   have KC := hid (R6.out.step K6.out hk2)
   clear hd hr2 hk2
   go_wp2_with fail
   go_roundg (gk - 1)
   case measure => omega
   case rel => exact ⟨q + 1, l2, p2, n2, _, by omega, by go_num, RC.out, HTK.out, KC.out⟩
  ·
   have ga : ¬ (q : Int) < (L : Int) := by omega
   have HE : Hid (ys = T) := by
    show _ = _
    rw [← A6.out, List.drop_of_length_le (by rw [HL.out]; omega)]
    rfl
   have r1 := bl_cell (R6.out.b) 1 _ rfl
   go_wp2_with fail
   go_ret
   exact ⟨_, rfl, by rw [← HE.out]; exact R6.out.spl (fun b o => Nat.lt_of_lt_of_le (HO.out b o) K1.out.size), K6.out.km K1.out (by have := ZR.out; omega), R6.out.mem⟩
end Go.Proofs.YtnajcnhgeggngaaGreat.Way

/-! ### RepW -/

namespace Go.Proofs.YtnajcnhgeggngaaGreat.Way
open Go.RowKit Go.Proofs.YtnajcnhgeggngaaGreat

abbrev roB (s : ByteArray) (bol : Bool) (P B h : Nat) (lv : Value) (pl : Nat) (sn : Option Nat) : Obj := .cells #[.string s, .bool bol, ptv P, .map (some B), .int .u8 (h : Int), lv, .int .u64 (pl : Int), .map sn] 182
def oRep (O : Nat → Prop) (R B : Nat) (lv : Value) (sn : Option Nat) (b : Nat) : Prop := oR O R lv sn b ∨ b = B
def repB (R B : Nat) (lv : Value) (sn : Option Nat) (b : Nat) : Prop := rowB R lv sn b ∨ b = B
structure RepW (s : ByteArray) (bol : Bool) (P : Nat) (M : Nat → Option Memo) (O : Nat → Prop) (base R B h : Nat) (xs : List Sp) (S : List Turn) (lv : Value) (pl : Nat) (sn : Option Nat) (w : World) : Prop where
 b : w.heap[R]? = some (roB s bol P B h lv pl sn)
 i : RowI base w h xs lv pl sn
 t : TurnsAt w B S
 m : MemOk M (oRep O R B lv sn) w
 rb : R < base
 bb : B < base
 ne : R ≠ B
 le : base ≤ w.heap.size
theorem RepW.own {s : ByteArray} {bol : Bool} {P : Nat} {M : Nat → Option Memo} {O : Nat → Prop} {base R B h : Nat} {xs : List Sp} {S : List Turn} {lv : Value} {pl : Nat} {sn : Option Nat} {w : World} (q : RepW s bol P M O base R B h xs S lv pl sn w) : ∀ b, repB R B lv sn b → M b = none := fun b e => q.m.own b (e.elim (fun e => Or.inl (Or.inr e)) Or.inr)
theorem RepW.km {s : ByteArray} {bol : Bool} {P : Nat} {M : Nat → Option Memo} {O : Nat → Prop} {base R B h : Nat} {xs : List Sp} {S : List Turn} {lv : Value} {pl : Nat} {sn : Option Nat} {w w' : World} (q : RepW s bol P M O base R B h xs S lv pl sn w) (k : Km M w w') (hm : MemOk M (oRep O R B lv sn) w') : RepW s bol P M O base R B h xs S lv pl sn w' := by
 have off : ∀ b, b < w.heap.size → repB R B lv sn b → w'.heap[b]? = w.heap[b]? := fun b hl hb => k.block b hl (fun e => e (q.own b hb))
 exact ⟨(off R (bl_lt q.b) (Or.inl (Or.inl rfl))).trans q.b, q.i.turn (fun b hl hb => off b hl (Or.inl (hb.elim (fun e => Or.inr (Or.inl e)) (fun e => Or.inr (Or.inr e))))), q.t.same (off B q.t.lt (Or.inr rfl)), hm, q.rb, q.bb, q.ne, Nat.le_trans q.le k.size⟩
theorem RepW.kp {s : ByteArray} {bol : Bool} {P : Nat} {M : Nat → Option Memo} {O : Nat → Prop} {base R B h : Nat} {xs : List Sp} {S : List Turn} {lv : Value} {pl : Nat} {sn : Option Nat} {w w' : World} (q : RepW s bol P M O base R B h xs S lv pl sn w) (k : Kp w w') : RepW s bol P M O base R B h xs S lv pl sn w' :=
 q.km (Kp.kx k) (q.m.keep (S := fun _ => False) (Kp.kx k) (fun _ _ e => e.elim) (fun _ _ e => e) q.m.own)
theorem RepW.turn {s : ByteArray} {bol : Bool} {P : Nat} {M : Nat → Option Memo} {O : Nat → Prop} {base R B h : Nat} {xs : List Sp} {S S' : List Turn} {lv : Value} {pl : Nat} {sn : Option Nat} {w w' : World} (q : RepW s bol P M O base R B h xs S lv pl sn w) (k : Kx (fun b => b = B) w w') (ht : TurnsAt w' B S') : RepW s bol P M O base R B h xs S' lv pl sn w' := by
 have hl := q.t.lt
 refine ⟨(k.block R (bl_lt q.b) q.ne).trans q.b, q.i.turn (fun b hl hb => k.block b hl (fun e => ?_)), ht, q.m.keep k (fun b _ e => Or.inr e) (fun _ _ e => e) q.m.own, q.rb, q.bb, q.ne, Nat.le_trans q.le k.size⟩
 have := q.bb
 rcases hb with hb | hb
 ·
  have := (q.i.row.block b hb).1; omega
 ·
  have := (q.i.set b hb).1; omega
theorem RepW.add {s : ByteArray} {bol : Bool} {P : Nat} {M : Nat → Option Memo} {O : Nat → Prop} {base R B h : Nat} {xs : List Sp} {S : List Turn} {x : Sp} {lv : Value} {pl : Nat} {sn : Option Nat} {w w' : World} {e : Ending} (q : RepW s bol P M O base R B h xs S lv pl sn w) (d : AddD (roB s bol P B h) base h xs x lv sn R w e w') :
  e = .returned (.tuple #[]) ∧ ∃ lv' pl' sn', RepW s bol P M O base R B h (addL h xs x) S lv' pl' sn' w' ∧ (∀ b, lv'.ownBlock = some b → lv.ownBlock = some b ∨ w.heap.size ≤ b) ∧ (∀ b, sn' = some b → sn = some b ∨ w.heap.size ≤ b) ∧ Kx (rowB R lv sn) w w' := by
 obtain ⟨he, lv', pl', sn', h1, h2, h3, h4, h5⟩ := d.ex
 have hB : ¬ rowB R lv sn B := by
  have := q.bb
  rintro (e | e | e)
  ·
   exact q.ne e.symm
  ·
   have := (q.i.row.block B e).1; omega
  ·
   have := (q.i.set B e).1; omega
 refine ⟨he, lv', pl', sn', ⟨h1, h2, q.t.same (h5.block B q.t.lt hB), q.m.keep (S := rowB R lv sn) h5 (fun b _ e => Or.inl (Or.inr e)) (fun b hl e => ?_) (fun b e => ?_), q.rb, q.bb, q.ne, Nat.le_trans q.le h5.size⟩, h3, h4, h5⟩
 ·
  rcases e with (e | e | e | e) | e
  ·
   exact Or.inl (Or.inl e)
  ·
   exact Or.inl (Or.inr (Or.inl e))
  ·
   rcases h3 b e with e | e
   ·
    exact Or.inl (Or.inr (Or.inr (Or.inl e)))
   ·
    omega
  ·
   rcases h4 b e with e | e
   ·
    exact Or.inl (Or.inr (Or.inr (Or.inr e)))
   ·
    omega
  ·
   exact Or.inr e
 ·
  rcases e with (e | e | e | e) | e
  ·
   exact q.m.own b (Or.inl (Or.inl e))
  ·
   exact q.own b (Or.inl (Or.inl e))
  ·
   rcases h3 b e with e | e
   ·
    exact q.own b (Or.inl (Or.inr (Or.inl e)))
   ·
    exact q.m.lt e
  ·
   rcases h4 b e with e | e
   ·
    exact q.own b (Or.inl (Or.inr (Or.inr e)))
   ·
    exact q.m.lt e
  ·
   exact q.own b (Or.inr e)
theorem RepW.new {s : ByteArray} {bol : Bool} {P : Nat} {M : Nat → Option Memo} {O : Nat → Prop} {R B h : Nat} {w w' : World} (hM : MemOk M O w) (hh : h < 8) (k : Kp w w') (hR : w.heap.size ≤ R) (hB : w.heap.size ≤ B) (hne : R ≠ B) (hb : w'.heap[R]? = some (roB s bol P B h (.slice none 0 0) 0 none)) (ht : TurnsAt w' B []) : RepW s bol P M O w'.heap.size R B h [] [] (.slice none 0 0) 0 none w' := by
 refine ⟨hb, ⟨hh, SpR.nil _ _, ⟨by decide, fun i hi => ?_⟩, (fun b e => by cases e), List.nodup_nil⟩, ht, ?_, bl_lt hb, ht.lt, hne, Nat.le_refl _⟩
 ·
  constructor
  ·
   intro e
   simp at e
  ·
   rintro ⟨y, hy, _⟩
   cases hy
 ·
  refine hM.keep (S := fun _ => False) (Kp.kx k) (fun _ _ e => e.elim) (fun b hl e => ?_) (fun b e => ?_)
  ·
   rcases e with (e | e | e | e) | e
   ·
    exact e
   ·
    omega
   ·
    cases e
   ·
    cases e
   ·
    omega
  ·
   rcases e with (e | e | e | e) | e
   ·
    exact hM.own b e
   ·
    exact hM.lt (by omega)
   ·
    cases e
   ·
    cases e
   ·
    exact hM.lt (by omega)
theorem RepW.spl {s : ByteArray} {bol : Bool} {P : Nat} {M : Nat → Option Memo} {O : Nat → Prop} {base R B h : Nat} {xs : List Sp} {S : List Turn} {lv : Value} {pl : Nat} {sn : Option Nat} {w : World} (q : RepW s bol P M O base R B h xs S lv pl sn w) (hO : ∀ b, O b → b < base) : SpL w (okB M O) lv xs :=
 q.i.row.spl (fun b e => ⟨fun o => by have := (q.i.row.block b e).1; have := hO b o; omega, q.own b (Or.inl (Or.inr (Or.inl e)))⟩)
theorem RepW.mem {s : ByteArray} {bol : Bool} {P : Nat} {M : Nat → Option Memo} {O : Nat → Prop} {base R B h : Nat} {xs : List Sp} {S : List Turn} {lv : Value} {pl : Nat} {sn : Option Nat} {w : World} (q : RepW s bol P M O base R B h xs S lv pl sn w) : MemOk M O w :=
 q.m.more (fun _ _ o => Or.inl (Or.inl o)) (fun b o => q.m.own b (Or.inl (Or.inl o)))
abbrev KB (M : Nat → Option Memo) (R B : Nat) (w w' : World) : Prop := Kx (fun b => M b ≠ none ∨ b = R ∨ b = B) w w'
theorem RepW.okb {s : ByteArray} {bol : Bool} {P : Nat} {M : Nat → Option Memo} {O : Nat → Prop} {R B h : Nat} {xs : List Sp} {S : List Turn} {lv : Value} {pl : Nat} {sn : Option Nat} {w0 w1 w : World} (q : RepW s bol P M O w1.heap.size R B h xs S lv pl sn w) (k0 : Kp w0 w1) (hR : w0.heap.size ≤ R) (hB : w0.heap.size ≤ B) (K : KB M R B w1 w) : ∀ b, okB M O b → b < w0.heap.size → okB M (oRep O R B lv sn) b ∧ w.heap[b]? = w0.heap[b]? := by
 intro b hb hl
 have h01 := k0.size
 refine ⟨⟨fun o => ?_, hb.2⟩, (K.block b (by omega) (fun e => ?_)).trans (k0.block b hl)⟩
 ·
  rcases o with (o | o | o | o) | o
  ·
   exact hb.1 o
  ·
   omega
  ·
   have := (q.i.row.block b o).1; omega
  ·
   have := (q.i.set b o).1; omega
  ·
   omega
 ·
  rcases e with e | e | e
  ·
   exact e hb.2
  ·
   omega
  ·
   omega
end Go.Proofs.YtnajcnhgeggngaaGreat.Way
