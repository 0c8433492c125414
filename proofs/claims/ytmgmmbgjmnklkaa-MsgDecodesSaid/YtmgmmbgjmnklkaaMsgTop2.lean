/-
  The program's Decode, ReadLetter, ReadEntry. Walks; no statement.
-/
import Derived.Test.YtmgmmbgjmnklkaaMsgTop1
namespace Go.Proofs.Ytmgmmbgjmnklkaa
set_option maxRecDepth 100000
open Go.RowKit
open Pk
set_option linter.unusedVariables false

theorem put_kind {m m' : Mg} {p : Nat} {f : List UInt8} (h : m.put p f = some m') : m'.kind = m.kind := by
  match p with
  | 0 | 1 | 2 | 3 => obtain ⟨v, _, rfl⟩ := Option.map_eq_some_iff.1 h; rfl
  | 4 => obtain ⟨v, _, rfl⟩ := Option.map_eq_some_iff.1 h; rfl
  | 5 => injection h with h; subst h; rfl
  | 6 => injection h with h; subst h; rfl
  | 7 => obtain ⟨v, _, rfl⟩ := Option.map_eq_some_iff.1 h; rfl
  | k + 8 => obtain ⟨v, _, rfl⟩ := Option.map_eq_some_iff.1 h; rfl
theorem rdNum_range {f : List UInt8} {v : Int} (h : rdNum f = some v) : 0 ≤ v ∧ v < 4611686018427387904 := by
  unfold rdNum at h
  split at h
  · rename_i x hx
    injection h with h
    subst h
    exact (rdNums_range hx).2 x (List.mem_cons_self ..)
  · cases h
theorem rdEn_range {f : List UInt8} {e : En} (h : rdEn f = some e) : I64 e.c ∧ I64 e.s ∧ I64 e.t := by
  unfold rdEn at h
  split at h
  · split at h
    · rename_i x y z hx
      injection h with h
      subst h
      have h1 := (rdNums_range hx).2
      have a := h1 x (by simp)
      have b := h1 y (by simp)
      have c := h1 z (by simp)
      exact ⟨by unfold I64; simp only; omega, by unfold I64; simp only; omega, by unfold I64; simp only; omega⟩
    · cases h
  · cases h
theorem put_wf {m m' : Mg} {p : Nat} {f : List UInt8} (hm : m.wf) (h : m.put p f = some m') : m'.wf := by
  have n64 : ∀ {v : Int}, rdNum f = some v → I64 v := by intro v hv; have := rdNum_range hv; unfold I64; omega
  match p with
  | 0 => obtain ⟨v, hv, rfl⟩ := Option.map_eq_some_iff.1 h; exact ⟨n64 hv, hm.seq, hm.client, hm.stamp, hm.c, hm.s, hm.t⟩
  | 1 => obtain ⟨v, hv, rfl⟩ := Option.map_eq_some_iff.1 h; exact ⟨hm.view, n64 hv, hm.client, hm.stamp, hm.c, hm.s, hm.t⟩
  | 2 => obtain ⟨v, hv, rfl⟩ := Option.map_eq_some_iff.1 h; exact ⟨hm.view, hm.seq, n64 hv, hm.stamp, hm.c, hm.s, hm.t⟩
  | 3 => obtain ⟨v, hv, rfl⟩ := Option.map_eq_some_iff.1 h; exact ⟨hm.view, hm.seq, hm.client, n64 hv, hm.c, hm.s, hm.t⟩
  | 4 => obtain ⟨v, hv, rfl⟩ := Option.map_eq_some_iff.1 h; have := rdEn_range hv; exact ⟨hm.view, hm.seq, hm.client, hm.stamp, this.1, this.2.1, this.2.2⟩
  | 5 => injection h with h; subst h; exact ⟨hm.view, hm.seq, hm.client, hm.stamp, hm.c, hm.s, hm.t⟩
  | 6 => injection h with h; subst h; exact ⟨hm.view, hm.seq, hm.client, hm.stamp, hm.c, hm.s, hm.t⟩
  | 7 => obtain ⟨v, hv, rfl⟩ := Option.map_eq_some_iff.1 h; exact ⟨hm.view, hm.seq, hm.client, hm.stamp, hm.c, hm.s, hm.t⟩
  | k + 8 => obtain ⟨v, hv, rfl⟩ := Option.map_eq_some_iff.1 h; exact ⟨hm.view, hm.seq, hm.client, hm.stamp, hm.c, hm.s, hm.t⟩
theorem puts_facts : ∀ (ps : List Nat) (fs : List (List UInt8)) (m m' : Mg), m.puts ps fs = some m' → m'.kind = m.kind ∧ (m.wf → m'.wf)
  | [], [], m, m', h => by simp only [Mg.puts, Option.some.injEq] at h; subst h; exact ⟨rfl, id⟩
  | [], _ :: _, _, _, h => by simp [Mg.puts] at h
  | _ :: _, [], _, _, h => by simp [Mg.puts] at h
  | p :: ps, f :: fs, m, m', h => by
    simp only [Mg.puts] at h
    cases hp : m.put p f with
    | none => rw [hp] at h; cases h
    | some m2 =>
      rw [hp] at h
      have := puts_facts ps fs m2 m' h
      exact ⟨this.1.trans (put_kind hp), fun hm => this.2 (put_wf hm hp)⟩
theorem rdMg_facts {l : List UInt8} {m : Mg} (h : rdMg l = some m) : kindB m.kind = true ∧ m.wf := by
  unfold rdMg at h
  split at h
  · split at h
    · split at h
      · rename_i k _ hk
        have h1 := puts_facts _ _ _ _ h
        refine ⟨by rw [h1.1]; exact hk, h1.2 ?_⟩
        have z : I64 0 := by unfold I64; omega
        exact ⟨z, z, z, z, z, z, z⟩
      · cases h
    · cases h
  · cases h
theorem LtR.keep {F F' : Nat → Prop} {w w' : World} {l : Lt} {A B : Option Addr} {c d : Nat} (h : LtR F w l A c B d) (hk : Kp F w w') (hf : ∀ b, F b → b < w.heap.size → F' b) : LtR F' w' l A c B d := ⟨h.1.keep hk hf, h.2.keep hk hf⟩

/-- what was read, from block B on -/
def ROKM (l : List UInt8) (B : Nat) (m : Mg) (q : Mad) (w' : World) : Prop := decMg l = some m ∧ MgR (From B) w' m q

theorem readCloM (L : Option Addr) (ln lc : Nat) (l : List UInt8) (b1 b2 b3 : Nat) (W : World) (k1 : Bk W b1 77 [.func (.func 48) #[] #[]]) (k2 : Bk W b2 22 [.slice L ln lc]) (k3 : Bk W b3 66 [.func (.func 37) #[] #[]]) (h : Sl W L ln lc l) (hn : ln ≤ 4294967296) :
    Calls Try.prog 83 #[.pointer (some ⟨b1, 0, none⟩), .pointer (some ⟨b2, 0, none⟩), .pointer (some ⟨b3, 0, none⟩)] W (DoesM (ROKM l W.heap.size) (fun k => decMg l = none ∧ k ≠ 0) W) := by
  have hal := (Below.refl W.heap.size W).alloc (Nat.le_refl _) (.cells #[.int .i64 0, .int .i64 0, .int .i64 0, .int .i64 0, .int .i64 0, .int .i64 0, .int .i64 0, .int .i64 0, .slice none 0 0, .slice none 0 0, .slice none 0 0, .slice none 0 0, .slice none 0 0] 28)
  have HB0 := Lib.hid hal
  have HK0 := Lib.hid (Bk.new W 28 [.int .i64 0, .int .i64 0, .int .i64 0, .int .i64 0, .int .i64 0, .int .i64 0, .int .i64 0, .int .i64 0, .slice none 0 0, .slice none 0 0, .slice none 0 0, .slice none 0 0, .slice none 0 0])
  have K3 := Lib.hid (k3.kept hal)
  have HS := Lib.hid (h.below hal)
  have HN := Lib.hid hn
  have a0 := (k1.kept hal).at_ (i := 0) rfl
  have a1 := (k2.kept hal).at_ (i := 0) rfl
  clear h hn hal k1 k2 k3
  go_enter Try.func83, Try.ntmps83
  go_wp2_with fail
  refine (readMsg_any L ln lc l _ HS.out HN.out).mono ?_
  rintro e w1 ⟨hb1, ⟨m, hm, q, rfl, hr1⟩ | ⟨hm, kk, rfl, hk0⟩⟩
  rotate_left
  · exact ⟨rfl, below_next HB0.out hb1 HB0.out.size, .inr ⟨kk, rfl, by unfold decMg okX; rw [hm], hk0⟩⟩
  have HM := Lib.hid hm
  have HB1 := Lib.hid (below_next HB0.out hb1 HB0.out.size)
  have HK1 := Lib.hid (HK0.out.kept hb1)
  have K31 := Lib.hid (K3.out.kept hb1)
  have hal := (Below.refl w1.heap.size w1).alloc (Nat.le_refl _) (.cells #[.int .i64 m.kind, .int .i64 m.view, .int .i64 m.seq, .int .i64 m.client, .int .i64 m.stamp, .int .i64 m.e.c, .int .i64 m.e.s, .int .i64 m.e.t, .slice q.ea m.e.dig.length q.ec, .slice q.ga m.dig.length q.gc, .slice q.da m.data.length q.dc, .slice q.pa m.proof.length q.pc, .slice q.va m.proven.length q.vc] 28)
  have HR2 := Lib.hid (show MgR (From (W.heap.size + 1)) (w1.alloc (.cells #[.int .i64 m.kind, .int .i64 m.view, .int .i64 m.seq, .int .i64 m.client, .int .i64 m.stamp, .int .i64 m.e.c, .int .i64 m.e.s, .int .i64 m.e.t, .slice q.ea m.e.dig.length q.ec, .slice q.ga m.dig.length q.gc, .slice q.da m.data.length q.dc, .slice q.pa m.proof.length q.pc, .slice q.va m.proven.length q.vc] 28)) m q from by
    have := hr1.keep (F' := From (W.heap.size + 1)) ⟨Nat.le_refl _, fun _ _ _ => rfl⟩ (fun b hb _ => by unfold From at *; simpa using hb)
    exact this.below hal)
  have HB2 := Lib.hid (below_next HB1.out hal HB1.out.size)
  have HK2 := Lib.hid (HK1.out.kept hal)
  have a3 := (K31.out.kept hal).at_ (i := 0) rfl
  have HX2 := Lib.hid (Bk.new w1 28 [.int .i64 m.kind, .int .i64 m.view, .int .i64 m.seq, .int .i64 m.client, .int .i64 m.stamp, .int .i64 m.e.c, .int .i64 m.e.s, .int .i64 m.e.t, .slice q.ea m.e.dig.length q.ec, .slice q.ga m.dig.length q.gc, .slice q.da m.data.length q.dc, .slice q.pa m.proof.length q.pc, .slice q.va m.proven.length q.vc])
  obtain ⟨gx, hgx⟩ : ∃ gx, gx = w1.heap.size := ⟨_, rfl⟩
  clear hm hb1 hr1 hal a0 a1 HB0 HK0 HS K3
  go_wp2_with fail
  refine (checkMsg_any m q (From (W.heap.size + 1)) _ HR2.out (rdMg_facts HM.out).2).mono ?_
  rintro e w3 ⟨hb3, ⟨hk, rfl⟩ | ⟨hk, ho, rfl⟩ | ⟨hk, ho, rfl⟩⟩
  · rw [(rdMg_facts HM.out).1] at hk; cases hk
  · exact ⟨rfl, below_next HB2.out hb3 HB2.out.size, .inr ⟨81, rfl, by unfold decMg okX; rw [HM.out]; simp only [ho]; rfl, by decide⟩⟩
  have HB3 := Lib.hid (below_next HB2.out hb3 HB2.out.size)
  have HR3 := Lib.hid (HR2.out.below hb3)
  have HK3 := Lib.hid (HK2.out.kept hb3)
  have hx3 := HX2.out.kept hb3
  have HO := Lib.hid (show m.ok = true from ho)
  have k0 := hx3.at_ (i := 0) rfl
  have k1 := hx3.at_ (i := 1) rfl
  have k2 := hx3.at_ (i := 2) rfl
  have k3 := hx3.at_ (i := 3) rfl
  have k4 := hx3.at_ (i := 4) rfl
  have k5 := hx3.at_ (i := 5) rfl
  have k6 := hx3.at_ (i := 6) rfl
  have k7 := hx3.at_ (i := 7) rfl
  have k8 := hx3.at_ (i := 8) rfl
  have k9 := hx3.at_ (i := 9) rfl
  have k10 := hx3.at_ (i := 10) rfl
  have k11 := hx3.at_ (i := 11) rfl
  have k12 := hx3.at_ (i := 12) rfl
  have j0 := HK3.out.at_ (i := 0) rfl
  have z0 := HK3.out.frozen 0
  have j1 := HK3.out.at_ (i := 1) rfl
  have z1 := HK3.out.frozen 1
  have j2 := HK3.out.at_ (i := 2) rfl
  have z2 := HK3.out.frozen 2
  have j3 := HK3.out.at_ (i := 3) rfl
  have z3 := HK3.out.frozen 3
  have j4 := HK3.out.at_ (i := 4) rfl
  have z4 := HK3.out.frozen 4
  have j5 := HK3.out.at_ (i := 5) rfl
  have z5 := HK3.out.frozen 5
  have j6 := HK3.out.at_ (i := 6) rfl
  have z6 := HK3.out.frozen 6
  have j7 := HK3.out.at_ (i := 7) rfl
  have z7 := HK3.out.frozen 7
  have j8 := HK3.out.at_ (i := 8) rfl
  have z8 := HK3.out.frozen 8
  have j9 := HK3.out.at_ (i := 9) rfl
  have z9 := HK3.out.frozen 9
  have j10 := HK3.out.at_ (i := 10) rfl
  have z10 := HK3.out.frozen 10
  have j11 := HK3.out.at_ (i := 11) rfl
  have z11 := HK3.out.frozen 11
  have j12 := HK3.out.at_ (i := 12) rfl
  have z12 := HK3.out.frozen 12
  clear hb3 ho hx3 a3 hgx
  go_wp2_with fail
  have kk := (((((((((((((HK3.out.set 0 (.int .i64 m.kind)).set 1 (.int .i64 m.view)).set 2 (.int .i64 m.seq)).set 3 (.int .i64 m.client)).set 4 (.int .i64 m.stamp)).set 5 (.int .i64 m.e.c)).set 6 (.int .i64 m.e.s)).set 7 (.int .i64 m.e.t)).set 8 (.slice q.ea m.e.dig.length q.ec)).set 9 (.slice q.ga m.dig.length q.gc)).set 10 (.slice q.da m.data.length q.dc)).set 11 (.slice q.pa m.proof.length q.pc)).set 12 (.slice q.va m.proven.length q.vc))
  have gr := (grown_set (grown_set (grown_set (grown_set (grown_set (grown_set (grown_set (grown_set (grown_set (grown_set (grown_set (grown_set (grown_set (grown_refl w3 (some W.heap.size)) 0 (.int .i64 m.kind)) 1 (.int .i64 m.view)) 2 (.int .i64 m.seq)) 3 (.int .i64 m.client)) 4 (.int .i64 m.stamp)) 5 (.int .i64 m.e.c)) 6 (.int .i64 m.e.s)) 7 (.int .i64 m.e.t)) 8 (.slice q.ea m.e.dig.length q.ec)) 9 (.slice q.ga m.dig.length q.gc)) 10 (.slice q.da m.data.length q.dc)) 11 (.slice q.pa m.proof.length q.pc)) 12 (.slice q.va m.proven.length q.vc))
  have hr := HR3.out.keep (F' := From W.heap.size) (Kp.of_grown gr fun b hb e => by injection e with e; unfold From at hb; omega) (fun b hb _ => by unfold From at *; omega)
  refine bodyPost_ret_by (results_row1 rfl _ _ W.heap.size 28 _ _ rfl kk Try.underlying28 rfl info1_M) rfl ?_
  exact ⟨HB3.out.grown gr HB3.out.size (fun g hg => by cases hg; omega), .inl ⟨m, q, rfl, by unfold decMg okX; rw [HM.out]; simp only [HO.out]; rfl, hr⟩⟩

/-- what Decode answers -/
def DecM (l : List UInt8) (w : World) (e : Ending) (w' : World) : Prop := Below w.heap.size w w' ∧ ((∃ (m : Mg) (q : Mad), decMg l = some m ∧ e = .returned (.tuple #[.agg #[.int .i64 m.kind, .int .i64 m.view, .int .i64 m.seq, .int .i64 m.client, .int .i64 m.stamp, .int .i64 m.e.c, .int .i64 m.e.s, .int .i64 m.e.t, .slice q.ea m.e.dig.length q.ec, .slice q.ga m.dig.length q.gc, .slice q.da m.data.length q.dc, .slice q.pa m.proof.length q.pc, .slice q.va m.proven.length q.vc], .int .i64 0]) ∧ MgR (From w.heap.size) w' m q) ∨ (decMg l = none ∧ e = .returned (.tuple #[.agg #[.int .i64 0, .int .i64 0, .int .i64 0, .int .i64 0, .int .i64 0, .int .i64 0, .int .i64 0, .int .i64 0, .slice none 0 0, .slice none 0 0, .slice none 0 0, .slice none 0 0, .slice none 0 0], .int .i64 12])))
set_option maxHeartbeats 1600000 in
theorem readRightM_any (L : Option Addr) (ln lc : Nat) (l : List UInt8) (w : World) (h : Sl w L ln lc l) (hn : ln ≤ 4294967296) :
    Calls Try.prog 47 #[.slice L ln lc, .func (.func 48) #[] #[], .func (.func 37) #[] #[]] w (DecM l w) := by
  have hmf : ∀ (fn : Fn) (first cap : Array Value) (w : World), (Instr.makeFunc fn first cap).run Try.prog w = .ok (.func fn first cap) w := fun _ _ _ _ => rfl
  have s1 : (w.alloc (.cells #[.slice L ln lc] 22)).heap.size = w.heap.size + 1 := by simp
  have s2 : ((w.alloc (.cells #[.slice L ln lc] 22)).alloc (.cells #[.func (.func 48) #[] #[]] 77)).heap.size = w.heap.size + 1 + 1 := by simp
  have s3 : (((w.alloc (.cells #[.slice L ln lc] 22)).alloc (.cells #[.func (.func 48) #[] #[]] 77)).alloc (.cells #[.func (.func 37) #[] #[]] 66)).heap.size = w.heap.size + 1 + 1 + 1 := by simp
  have hB := (((((Below.refl w.heap.size w).alloc (Nat.le_refl _) (.cells #[.slice L ln lc] 22)).alloc (by rw [s1]; omega) (.cells #[.func (.func 48) #[] #[]] 77)).alloc (by rw [s2]; omega) (.cells #[.func (.func 37) #[] #[]] 66)).alloc (by rw [s3]; omega) (.cells #[.int .i64 0, .int .i64 0, .int .i64 0, .int .i64 0, .int .i64 0, .int .i64 0, .int .i64 0, .int .i64 0, .slice none 0 0, .slice none 0 0, .slice none 0 0, .slice none 0 0, .slice none 0 0] 28))
  have HB := Lib.hid hB
  have HS := Lib.hid (h.below hB)
  have k2 := ((((Bk.new w 22 [.slice L ln lc]).alloc (.cells #[.func (.func 48) #[] #[]] 77)).alloc (.cells #[.func (.func 37) #[] #[]] 66)).alloc (.cells #[.int .i64 0, .int .i64 0, .int .i64 0, .int .i64 0, .int .i64 0, .int .i64 0, .int .i64 0, .int .i64 0, .slice none 0 0, .slice none 0 0, .slice none 0 0, .slice none 0 0, .slice none 0 0] 28))
  have k1 := ((Bk.new (w.alloc (.cells #[.slice L ln lc] 22)) 77 [.func (.func 48) #[] #[]]).alloc (.cells #[.func (.func 37) #[] #[]] 66)).alloc (.cells #[.int .i64 0, .int .i64 0, .int .i64 0, .int .i64 0, .int .i64 0, .int .i64 0, .int .i64 0, .int .i64 0, .slice none 0 0, .slice none 0 0, .slice none 0 0, .slice none 0 0, .slice none 0 0] 28)
  have k3 := (Bk.new ((w.alloc (.cells #[.slice L ln lc] 22)).alloc (.cells #[.func (.func 48) #[] #[]] 77)) 66 [.func (.func 37) #[] #[]]).alloc (.cells #[.int .i64 0, .int .i64 0, .int .i64 0, .int .i64 0, .int .i64 0, .int .i64 0, .int .i64 0, .int .i64 0, .slice none 0 0, .slice none 0 0, .slice none 0 0, .slice none 0 0, .slice none 0 0] 28)
  have k4 := Bk.new (((w.alloc (.cells #[.slice L ln lc] 22)).alloc (.cells #[.func (.func 48) #[] #[]] 77)).alloc (.cells #[.func (.func 37) #[] #[]] 66)) 28 [.int .i64 0, .int .i64 0, .int .i64 0, .int .i64 0, .int .i64 0, .int .i64 0, .int .i64 0, .int .i64 0, .slice none 0 0, .slice none 0 0, .slice none 0 0, .slice none 0 0, .slice none 0 0]
  rw [s1] at k1
  rw [s2] at k3
  rw [s3] at k4
  have K1 := Lib.hid k1
  have K2 := Lib.hid k2
  have K3 := Lib.hid k3
  have K4 := Lib.hid k4
  have HN := Lib.hid hn
  clear h hn hB k1 k2 k3 k4 s1 s2 s3
  go_enter Try.func47, Try.ntmps47
  go_wp2_with fail
  obtain ⟨X, hX⟩ : ∃ X, X = (((w.alloc (.cells #[.slice L ln lc] 22)).alloc (.cells #[.func (.func 48) #[] #[]] 77)).alloc (.cells #[.func (.func 37) #[] #[]] 66)).alloc (.cells #[.int .i64 0, .int .i64 0, .int .i64 0, .int .i64 0, .int .i64 0, .int .i64 0, .int .i64 0, .int .i64 0, .slice none 0 0, .slice none 0 0, .slice none 0 0, .slice none 0 0, .slice none 0 0] 28) := ⟨_, rfl⟩
  rw [← hX] at HB HS K1 K2 K3 K4 ⊢
  clear hX
  have t1 : (X.alloc (.cells #[.int .i64 0, .int .i64 0, .int .i64 0, .int .i64 0, .int .i64 0, .int .i64 0, .int .i64 0, .int .i64 0, .slice none 0 0, .slice none 0 0, .slice none 0 0, .slice none 0 0, .slice none 0 0] 28)).heap.size = X.heap.size + 1 := by simp
  have hal := ((Below.refl X.heap.size X).alloc (Nat.le_refl _) (.cells #[.int .i64 0, .int .i64 0, .int .i64 0, .int .i64 0, .int .i64 0, .int .i64 0, .int .i64 0, .int .i64 0, .slice none 0 0, .slice none 0 0, .slice none 0 0, .slice none 0 0, .slice none 0 0] 28)).alloc (by rw [t1]; omega) (.cells #[.int .i64 81] 32)
  have t2 : ((X.alloc (.cells #[.int .i64 0, .int .i64 0, .int .i64 0, .int .i64 0, .int .i64 0, .int .i64 0, .int .i64 0, .int .i64 0, .slice none 0 0, .slice none 0 0, .slice none 0 0, .slice none 0 0, .slice none 0 0] 28)).alloc (.cells #[.int .i64 81] 32)).heap.size = X.heap.size + 2 := by simp
  refine (caughtM_any 83 ⟨w.heap.size + 1, 0, none⟩ ⟨w.heap.size, 0, none⟩ ⟨w.heap.size + 1 + 1, 0, none⟩ X (ROKM l (X.heap.size + 2)) (fun k => decMg l = none ∧ k ≠ 0) (fun _ _ => rfl) ?_).mono ?_
  · have := readCloM L ln lc l (w.heap.size + 1) w.heap.size (w.heap.size + 1 + 1) ((X.alloc (.cells #[.int .i64 0, .int .i64 0, .int .i64 0, .int .i64 0, .int .i64 0, .int .i64 0, .int .i64 0, .int .i64 0, .slice none 0 0, .slice none 0 0, .slice none 0 0, .slice none 0 0, .slice none 0 0] 28)).alloc (.cells #[.int .i64 81] 32)) (K1.out.kept hal) (K2.out.kept hal) (K3.out.kept hal) (HS.out.below hal) HN.out
    rw [t2] at this
    exact this
  rintro e w2 ⟨hb2, ⟨m, q, w3, rfl, ⟨hd, hr⟩, ht⟩ | ⟨k, rfl, hd, hk⟩⟩
  · have HB2 := Lib.hid (below_next HB.out hb2 HB.out.size)
    have HD := Lib.hid hd
    have hr2 := hr.keep (ht (From (X.heap.size + 2)) fun b hb => hb) (F' := From (w.heap.size + 4)) (fun b hb _ => by have := K4.out.lt; unfold From at *; omega)
    have hal2 := (Below.refl w2.heap.size w2).alloc (Nat.le_refl _) (.cells #[.int .i64 m.kind, .int .i64 m.view, .int .i64 m.seq, .int .i64 m.client, .int .i64 m.stamp, .int .i64 m.e.c, .int .i64 m.e.s, .int .i64 m.e.t, .slice q.ea m.e.dig.length q.ec, .slice q.ga m.dig.length q.gc, .slice q.da m.data.length q.dc, .slice q.pa m.proof.length q.pc, .slice q.va m.proven.length q.vc] 28)
    have HR := Lib.hid (hr2.below hal2)
    have HB3 := Lib.hid (below_next HB2.out hal2 HB2.out.size)
    have HK4 := Lib.hid ((K4.out.kept hb2).kept hal2)
    have hx := Bk.new w2 28 [.int .i64 m.kind, .int .i64 m.view, .int .i64 m.seq, .int .i64 m.client, .int .i64 m.stamp, .int .i64 m.e.c, .int .i64 m.e.s, .int .i64 m.e.t, .slice q.ea m.e.dig.length q.ec, .slice q.ga m.dig.length q.gc, .slice q.da m.data.length q.dc, .slice q.pa m.proof.length q.pc, .slice q.va m.proven.length q.vc]
    have j0 := HK4.out.at_ (i := 0) rfl
    have z0 := HK4.out.frozen 0
    have j1 := HK4.out.at_ (i := 1) rfl
    have z1 := HK4.out.frozen 1
    have j2 := HK4.out.at_ (i := 2) rfl
    have z2 := HK4.out.frozen 2
    have j3 := HK4.out.at_ (i := 3) rfl
    have z3 := HK4.out.frozen 3
    have j4 := HK4.out.at_ (i := 4) rfl
    have z4 := HK4.out.frozen 4
    have j5 := HK4.out.at_ (i := 5) rfl
    have z5 := HK4.out.frozen 5
    have j6 := HK4.out.at_ (i := 6) rfl
    have z6 := HK4.out.frozen 6
    have j7 := HK4.out.at_ (i := 7) rfl
    have z7 := HK4.out.frozen 7
    have j8 := HK4.out.at_ (i := 8) rfl
    have z8 := HK4.out.frozen 8
    have j9 := HK4.out.at_ (i := 9) rfl
    have z9 := HK4.out.frozen 9
    have j10 := HK4.out.at_ (i := 10) rfl
    have z10 := HK4.out.frozen 10
    have j11 := HK4.out.at_ (i := 11) rfl
    have z11 := HK4.out.frozen 11
    have j12 := HK4.out.at_ (i := 12) rfl
    have z12 := HK4.out.frozen 12
    clear hb2 hd hr ht hr2 hal hal2 t1 t2 hx
    go_wp2_with fail
    have kk := (((((((((((((HK4.out.set 0 (.int .i64 m.kind)).set 1 (.int .i64 m.view)).set 2 (.int .i64 m.seq)).set 3 (.int .i64 m.client)).set 4 (.int .i64 m.stamp)).set 5 (.int .i64 m.e.c)).set 6 (.int .i64 m.e.s)).set 7 (.int .i64 m.e.t)).set 8 (.slice q.ea m.e.dig.length q.ec)).set 9 (.slice q.ga m.dig.length q.gc)).set 10 (.slice q.da m.data.length q.dc)).set 11 (.slice q.pa m.proof.length q.pc)).set 12 (.slice q.va m.proven.length q.vc))
    have gr := (grown_set (grown_set (grown_set (grown_set (grown_set (grown_set (grown_set (grown_set (grown_set (grown_set (grown_set (grown_set (grown_set (grown_refl (w2.alloc (.cells #[.int .i64 m.kind, .int .i64 m.view, .int .i64 m.seq, .int .i64 m.client, .int .i64 m.stamp, .int .i64 m.e.c, .int .i64 m.e.s, .int .i64 m.e.t, .slice q.ea m.e.dig.length q.ec, .slice q.ga m.dig.length q.gc, .slice q.da m.data.length q.dc, .slice q.pa m.proof.length q.pc, .slice q.va m.proven.length q.vc] 28)) (some (w.heap.size + 1 + 1 + 1))) 0 (.int .i64 m.kind)) 1 (.int .i64 m.view)) 2 (.int .i64 m.seq)) 3 (.int .i64 m.client)) 4 (.int .i64 m.stamp)) 5 (.int .i64 m.e.c)) 6 (.int .i64 m.e.s)) 7 (.int .i64 m.e.t)) 8 (.slice q.ea m.e.dig.length q.ec)) 9 (.slice q.ga m.dig.length q.gc)) 10 (.slice q.da m.data.length q.dc)) 11 (.slice q.pa m.proof.length q.pc)) 12 (.slice q.va m.proven.length q.vc))
    have hr := HR.out.keep (F' := From w.heap.size) (Kp.of_grown gr fun b hb e => by injection e with e; unfold From at hb; omega) (fun b hb _ => by unfold From at *; omega)
    refine bodyPost_ret_by (results_row_tmp rfl _ _ (w.heap.size + 1 + 1 + 1) 28 _ _ rfl kk Try.underlying28 rfl info1_M) rfl ?_
    exact ⟨HB3.out.grown gr HB3.out.size (fun g hg => by cases hg; omega), .inl ⟨m, q, HD.out, rfl, hr⟩⟩
  · have HB2 := Lib.hid (below_next HB.out hb2 HB.out.size)
    have HD := Lib.hid hd
    have hk1 : (k != 0) = true := by rw [bne_iff_ne]; exact hk
    have hal2 := (Below.refl w2.heap.size w2).alloc (Nat.le_refl _) (.cells #[.int .i64 0, .int .i64 0, .int .i64 0, .int .i64 0, .int .i64 0, .int .i64 0, .int .i64 0, .int .i64 0, .slice none 0 0, .slice none 0 0, .slice none 0 0, .slice none 0 0, .slice none 0 0] 28)
    have HB3 := Lib.hid (below_next HB2.out hal2 HB2.out.size)
    have HK4 := Lib.hid ((K4.out.kept hb2).kept hal2)
    have hx := Bk.new w2 28 [.int .i64 0, .int .i64 0, .int .i64 0, .int .i64 0, .int .i64 0, .int .i64 0, .int .i64 0, .int .i64 0, .slice none 0 0, .slice none 0 0, .slice none 0 0, .slice none 0 0, .slice none 0 0]
    have j0 := HK4.out.at_ (i := 0) rfl
    have z0 := HK4.out.frozen 0
    have j1 := HK4.out.at_ (i := 1) rfl
    have z1 := HK4.out.frozen 1
    have j2 := HK4.out.at_ (i := 2) rfl
    have z2 := HK4.out.frozen 2
    have j3 := HK4.out.at_ (i := 3) rfl
    have z3 := HK4.out.frozen 3
    have j4 := HK4.out.at_ (i := 4) rfl
    have z4 := HK4.out.frozen 4
    have j5 := HK4.out.at_ (i := 5) rfl
    have z5 := HK4.out.frozen 5
    have j6 := HK4.out.at_ (i := 6) rfl
    have z6 := HK4.out.frozen 6
    have j7 := HK4.out.at_ (i := 7) rfl
    have z7 := HK4.out.frozen 7
    have j8 := HK4.out.at_ (i := 8) rfl
    have z8 := HK4.out.frozen 8
    have j9 := HK4.out.at_ (i := 9) rfl
    have z9 := HK4.out.frozen 9
    have j10 := HK4.out.at_ (i := 10) rfl
    have z10 := HK4.out.frozen 10
    have j11 := HK4.out.at_ (i := 11) rfl
    have z11 := HK4.out.frozen 11
    have j12 := HK4.out.at_ (i := 12) rfl
    have z12 := HK4.out.frozen 12
    clear hb2 hd hal hal2 t1 t2 hx hk
    go_wp2_with fail
    have kk := (((((((((((((HK4.out.set 0 (.int .i64 0)).set 1 (.int .i64 0)).set 2 (.int .i64 0)).set 3 (.int .i64 0)).set 4 (.int .i64 0)).set 5 (.int .i64 0)).set 6 (.int .i64 0)).set 7 (.int .i64 0)).set 8 (.slice none 0 0)).set 9 (.slice none 0 0)).set 10 (.slice none 0 0)).set 11 (.slice none 0 0)).set 12 (.slice none 0 0))
    have gr := (grown_set (grown_set (grown_set (grown_set (grown_set (grown_set (grown_set (grown_set (grown_set (grown_set (grown_set (grown_set (grown_set (grown_refl (w2.alloc (.cells #[.int .i64 0, .int .i64 0, .int .i64 0, .int .i64 0, .int .i64 0, .int .i64 0, .int .i64 0, .int .i64 0, .slice none 0 0, .slice none 0 0, .slice none 0 0, .slice none 0 0, .slice none 0 0] 28)) (some (w.heap.size + 1 + 1 + 1))) 0 (.int .i64 0)) 1 (.int .i64 0)) 2 (.int .i64 0)) 3 (.int .i64 0)) 4 (.int .i64 0)) 5 (.int .i64 0)) 6 (.int .i64 0)) 7 (.int .i64 0)) 8 (.slice none 0 0)) 9 (.slice none 0 0)) 10 (.slice none 0 0)) 11 (.slice none 0 0)) 12 (.slice none 0 0))
    refine bodyPost_ret_by (results_row_tmp rfl _ _ (w.heap.size + 1 + 1 + 1) 28 _ _ rfl kk Try.underlying28 rfl info1_M) rfl ?_
    exact ⟨HB3.out.grown gr HB3.out.size (fun g hg => by cases hg; omega), .inr ⟨HD.out, rfl⟩⟩
theorem decode_any (L : Option Addr) (ln lc : Nat) (l : List UInt8) (w : World) (h : Sl w L ln lc l) (hn : ln ≤ 4294967296) :
    Calls Try.prog 18 #[.slice L ln lc] w (DecM l w) := by
  have hB := (Below.refl w.heap.size w).alloc (Nat.le_refl _) (.cells #[.int .i64 0, .int .i64 0, .int .i64 0, .int .i64 0, .int .i64 0, .int .i64 0, .int .i64 0, .int .i64 0, .slice none 0 0, .slice none 0 0, .slice none 0 0, .slice none 0 0, .slice none 0 0] 28)
  have HB := Lib.hid hB
  have HK := Lib.hid (Bk.new w 28 [.int .i64 0, .int .i64 0, .int .i64 0, .int .i64 0, .int .i64 0, .int .i64 0, .int .i64 0, .int .i64 0, .slice none 0 0, .slice none 0 0, .slice none 0 0, .slice none 0 0, .slice none 0 0])
  have HC := Lib.hid (readRightM_any L ln lc l _ (h.below hB) hn)
  clear h hn hB
  go_enter Try.func18, Try.ntmps18
  go_wp2_with fail
  refine HC.out.mono ?_
  rintro e w2 ⟨hb2, ⟨m, q, hd, rfl, hr⟩ | ⟨hd, rfl⟩⟩
  · have HB2 := Lib.hid (below_next HB.out hb2 HB.out.size)
    have HD := Lib.hid hd
    have HK2 := Lib.hid (HK.out.kept hb2)
    have HR := Lib.hid hr
    have j0 := HK2.out.at_ (i := 0) rfl
    have z0 := HK2.out.frozen 0
    have j1 := HK2.out.at_ (i := 1) rfl
    have z1 := HK2.out.frozen 1
    have j2 := HK2.out.at_ (i := 2) rfl
    have z2 := HK2.out.frozen 2
    have j3 := HK2.out.at_ (i := 3) rfl
    have z3 := HK2.out.frozen 3
    have j4 := HK2.out.at_ (i := 4) rfl
    have z4 := HK2.out.frozen 4
    have j5 := HK2.out.at_ (i := 5) rfl
    have z5 := HK2.out.frozen 5
    have j6 := HK2.out.at_ (i := 6) rfl
    have z6 := HK2.out.frozen 6
    have j7 := HK2.out.at_ (i := 7) rfl
    have z7 := HK2.out.frozen 7
    have j8 := HK2.out.at_ (i := 8) rfl
    have z8 := HK2.out.frozen 8
    have j9 := HK2.out.at_ (i := 9) rfl
    have z9 := HK2.out.frozen 9
    have j10 := HK2.out.at_ (i := 10) rfl
    have z10 := HK2.out.frozen 10
    have j11 := HK2.out.at_ (i := 11) rfl
    have z11 := HK2.out.frozen 11
    have j12 := HK2.out.at_ (i := 12) rfl
    have z12 := HK2.out.frozen 12
    clear hb2 hd hr
    go_wp2_with fail
    have kk := (((((((((((((HK2.out.set 0 (.int .i64 m.kind)).set 1 (.int .i64 m.view)).set 2 (.int .i64 m.seq)).set 3 (.int .i64 m.client)).set 4 (.int .i64 m.stamp)).set 5 (.int .i64 m.e.c)).set 6 (.int .i64 m.e.s)).set 7 (.int .i64 m.e.t)).set 8 (.slice q.ea m.e.dig.length q.ec)).set 9 (.slice q.ga m.dig.length q.gc)).set 10 (.slice q.da m.data.length q.dc)).set 11 (.slice q.pa m.proof.length q.pc)).set 12 (.slice q.va m.proven.length q.vc))
    have gr := (grown_set (grown_set (grown_set (grown_set (grown_set (grown_set (grown_set (grown_set (grown_set (grown_set (grown_set (grown_set (grown_set (grown_refl w2 (some w.heap.size)) 0 (.int .i64 m.kind)) 1 (.int .i64 m.view)) 2 (.int .i64 m.seq)) 3 (.int .i64 m.client)) 4 (.int .i64 m.stamp)) 5 (.int .i64 m.e.c)) 6 (.int .i64 m.e.s)) 7 (.int .i64 m.e.t)) 8 (.slice q.ea m.e.dig.length q.ec)) 9 (.slice q.ga m.dig.length q.gc)) 10 (.slice q.da m.data.length q.dc)) 11 (.slice q.pa m.proof.length q.pc)) 12 (.slice q.va m.proven.length q.vc))
    have hr := HR.out.keep (F' := From w.heap.size) (Kp.of_grown gr fun b hb e => by injection e with e; unfold From at hb; simp at hb; omega) (fun b hb _ => by unfold From at *; simp at hb; omega)
    refine bodyPost_ret_by (results_row_tmp rfl _ _ w.heap.size 28 _ _ rfl kk Try.underlying28 rfl info1_M) rfl ?_
    exact ⟨HB2.out.grown gr HB2.out.size (fun g hg => by cases hg; omega), .inl ⟨m, q, HD.out, rfl, hr⟩⟩
  · have HB2 := Lib.hid (below_next HB.out hb2 HB.out.size)
    have HD := Lib.hid hd
    have HK2 := Lib.hid (HK.out.kept hb2)
    have j0 := HK2.out.at_ (i := 0) rfl
    have z0 := HK2.out.frozen 0
    have j1 := HK2.out.at_ (i := 1) rfl
    have z1 := HK2.out.frozen 1
    have j2 := HK2.out.at_ (i := 2) rfl
    have z2 := HK2.out.frozen 2
    have j3 := HK2.out.at_ (i := 3) rfl
    have z3 := HK2.out.frozen 3
    have j4 := HK2.out.at_ (i := 4) rfl
    have z4 := HK2.out.frozen 4
    have j5 := HK2.out.at_ (i := 5) rfl
    have z5 := HK2.out.frozen 5
    have j6 := HK2.out.at_ (i := 6) rfl
    have z6 := HK2.out.frozen 6
    have j7 := HK2.out.at_ (i := 7) rfl
    have z7 := HK2.out.frozen 7
    have j8 := HK2.out.at_ (i := 8) rfl
    have z8 := HK2.out.frozen 8
    have j9 := HK2.out.at_ (i := 9) rfl
    have z9 := HK2.out.frozen 9
    have j10 := HK2.out.at_ (i := 10) rfl
    have z10 := HK2.out.frozen 10
    have j11 := HK2.out.at_ (i := 11) rfl
    have z11 := HK2.out.frozen 11
    have j12 := HK2.out.at_ (i := 12) rfl
    have z12 := HK2.out.frozen 12
    clear hb2 hd
    go_wp2_with fail
    have kk := (((((((((((((HK2.out.set 0 (.int .i64 0)).set 1 (.int .i64 0)).set 2 (.int .i64 0)).set 3 (.int .i64 0)).set 4 (.int .i64 0)).set 5 (.int .i64 0)).set 6 (.int .i64 0)).set 7 (.int .i64 0)).set 8 (.slice none 0 0)).set 9 (.slice none 0 0)).set 10 (.slice none 0 0)).set 11 (.slice none 0 0)).set 12 (.slice none 0 0))
    have gr := (grown_set (grown_set (grown_set (grown_set (grown_set (grown_set (grown_set (grown_set (grown_set (grown_set (grown_set (grown_set (grown_set (grown_refl w2 (some w.heap.size)) 0 (.int .i64 0)) 1 (.int .i64 0)) 2 (.int .i64 0)) 3 (.int .i64 0)) 4 (.int .i64 0)) 5 (.int .i64 0)) 6 (.int .i64 0)) 7 (.int .i64 0)) 8 (.slice none 0 0)) 9 (.slice none 0 0)) 10 (.slice none 0 0)) 11 (.slice none 0 0)) 12 (.slice none 0 0))
    refine bodyPost_ret_by (results_row_tmp rfl _ _ w.heap.size 28 _ _ rfl kk Try.underlying28 rfl info1_M) rfl ?_
    exact ⟨HB2.out.grown gr HB2.out.size (fun g hg => by cases hg; omega), .inr ⟨HD.out, rfl⟩⟩

/-- what was read, from block B on -/
def ROKL (l : List UInt8) (B0 : Nat) (x : Lt) (A : Option Addr) (c : Nat) (B : Option Addr) (d : Nat) (w' : World) : Prop := decLt l = some x ∧ LtR (From B0) w' x A c B d

theorem readCloL (L : Option Addr) (ln lc : Nat) (l : List UInt8) (b1 b2 b3 : Nat) (W : World) (k1 : Bk W b1 96 [.func (.func 63) #[] #[]]) (k2 : Bk W b2 22 [.slice L ln lc]) (k3 : Bk W b3 87 [.func (.func 54) #[] #[]]) (h : Sl W L ln lc l) (hn : ln ≤ 4294967296) :
    Calls Try.prog 100 #[.pointer (some ⟨b1, 0, none⟩), .pointer (some ⟨b2, 0, none⟩), .pointer (some ⟨b3, 0, none⟩)] W (DoesL (ROKL l W.heap.size) (fun k => decLt l = none ∧ k ≠ 0) W) := by
  have hal := (Below.refl W.heap.size W).alloc (Nat.le_refl _) (.cells #[.int .i64 0, .int .i64 0, .int .i64 0, .slice none 0 0, .slice none 0 0] 46)
  have HB0 := Lib.hid hal
  have HK0 := Lib.hid (Bk.new W 46 [.int .i64 0, .int .i64 0, .int .i64 0, .slice none 0 0, .slice none 0 0])
  have K3 := Lib.hid (k3.kept hal)
  have HS := Lib.hid (h.below hal)
  have HN := Lib.hid hn
  have a0 := (k1.kept hal).at_ (i := 0) rfl
  have a1 := (k2.kept hal).at_ (i := 0) rfl
  clear h hn hal k1 k2 k3
  go_enter Try.func100, Try.ntmps100
  go_wp2_with fail
  refine (readLetter_any L ln lc l _ HS.out HN.out).mono ?_
  rintro e w1 ⟨hb1, ⟨x, hm, A, c, B, d, rfl, hr1⟩ | ⟨hm, kk, rfl, hk0⟩⟩
  rotate_left
  · exact ⟨rfl, below_next HB0.out hb1 HB0.out.size, .inr ⟨kk, rfl, by unfold decLt okX; rw [hm], hk0⟩⟩
  have HM := Lib.hid hm
  have HB1 := Lib.hid (below_next HB0.out hb1 HB0.out.size)
  have HK1 := Lib.hid (HK0.out.kept hb1)
  have K31 := Lib.hid (K3.out.kept hb1)
  have hal := (Below.refl w1.heap.size w1).alloc (Nat.le_refl _) (.cells #[.int .i64 x.f1, .int .i64 x.f2, .int .i64 x.r, .slice A x.body.length c, .slice B x.tags.length d] 46)
  have HR2 := Lib.hid (show LtR (From (W.heap.size + 1)) (w1.alloc (.cells #[.int .i64 x.f1, .int .i64 x.f2, .int .i64 x.r, .slice A x.body.length c, .slice B x.tags.length d] 46)) x A c B d from by
    have := hr1.keep (F' := From (W.heap.size + 1)) ⟨Nat.le_refl _, fun _ _ _ => rfl⟩ (fun b hb _ => by unfold From at *; simpa using hb)
    exact this.below hal)
  have HB2 := Lib.hid (below_next HB1.out hal HB1.out.size)
  have HK2 := Lib.hid (HK1.out.kept hal)
  have a3 := (K31.out.kept hal).at_ (i := 0) rfl
  have HX2 := Lib.hid (Bk.new w1 46 [.int .i64 x.f1, .int .i64 x.f2, .int .i64 x.r, .slice A x.body.length c, .slice B x.tags.length d])
  obtain ⟨gx, hgx⟩ : ∃ gx, gx = w1.heap.size := ⟨_, rfl⟩
  clear hm hb1 hr1 hal a0 a1 HB0 HK0 HS K3
  go_wp2_with fail
  refine (checkLetter_any x A c B d (From (W.heap.size + 1)) _ HR2.out.2).mono ?_
  rintro e w3 ⟨hb3, ⟨ho, rfl⟩ | ⟨ho, rfl⟩⟩
  rotate_left
  · exact ⟨rfl, below_next HB2.out hb3 HB2.out.size, .inr ⟨81, rfl, by unfold decLt okX; rw [HM.out]; simp only [ho]; rfl, by decide⟩⟩
  have HB3 := Lib.hid (below_next HB2.out hb3 HB2.out.size)
  have HR3 := Lib.hid (HR2.out.below hb3)
  have HK3 := Lib.hid (HK2.out.kept hb3)
  have hx3 := HX2.out.kept hb3
  have HO := Lib.hid (show x.ok = true from ho)
  have k0 := hx3.at_ (i := 0) rfl
  have k1 := hx3.at_ (i := 1) rfl
  have k2 := hx3.at_ (i := 2) rfl
  have k3 := hx3.at_ (i := 3) rfl
  have k4 := hx3.at_ (i := 4) rfl
  have j0 := HK3.out.at_ (i := 0) rfl
  have z0 := HK3.out.frozen 0
  have j1 := HK3.out.at_ (i := 1) rfl
  have z1 := HK3.out.frozen 1
  have j2 := HK3.out.at_ (i := 2) rfl
  have z2 := HK3.out.frozen 2
  have j3 := HK3.out.at_ (i := 3) rfl
  have z3 := HK3.out.frozen 3
  have j4 := HK3.out.at_ (i := 4) rfl
  have z4 := HK3.out.frozen 4
  clear hb3 ho hx3 a3 hgx
  go_wp2_with fail
  have kk := (((((HK3.out.set 0 (.int .i64 x.f1)).set 1 (.int .i64 x.f2)).set 2 (.int .i64 x.r)).set 3 (.slice A x.body.length c)).set 4 (.slice B x.tags.length d))
  have gr := (grown_set (grown_set (grown_set (grown_set (grown_set (grown_refl w3 (some W.heap.size)) 0 (.int .i64 x.f1)) 1 (.int .i64 x.f2)) 2 (.int .i64 x.r)) 3 (.slice A x.body.length c)) 4 (.slice B x.tags.length d))
  have hr := HR3.out.keep (F' := From W.heap.size) (Kp.of_grown gr fun b hb e => by injection e with e; unfold From at hb; omega) (fun b hb _ => by unfold From at *; omega)
  refine bodyPost_ret_by (results_row1 rfl _ _ W.heap.size 46 _ _ rfl kk Try.underlying46 rfl info1_L) rfl ?_
  exact ⟨HB3.out.grown gr HB3.out.size (fun g hg => by cases hg; omega), .inl ⟨x, A, c, B, d, rfl, by unfold decLt okX; rw [HM.out]; simp only [HO.out]; rfl, hr⟩⟩

/-- what ReadLetter answers -/
def DecL (l : List UInt8) (w : World) (e : Ending) (w' : World) : Prop := Below w.heap.size w w' ∧ ((∃ (x : Lt) (A : Option Addr) (c : Nat) (B : Option Addr) (d : Nat), decLt l = some x ∧ e = .returned (.tuple #[.agg #[.int .i64 x.f1, .int .i64 x.f2, .int .i64 x.r, .slice A x.body.length c, .slice B x.tags.length d], .int .i64 0]) ∧ LtR (From w.heap.size) w' x A c B d) ∨ (decLt l = none ∧ e = .returned (.tuple #[.agg #[.int .i64 0, .int .i64 0, .int .i64 0, .slice none 0 0, .slice none 0 0], .int .i64 12])))
set_option maxHeartbeats 1600000 in
theorem readRightL_any (L : Option Addr) (ln lc : Nat) (l : List UInt8) (w : World) (h : Sl w L ln lc l) (hn : ln ≤ 4294967296) :
    Calls Try.prog 62 #[.slice L ln lc, .func (.func 63) #[] #[], .func (.func 54) #[] #[]] w (DecL l w) := by
  have hmf : ∀ (fn : Fn) (first cap : Array Value) (w : World), (Instr.makeFunc fn first cap).run Try.prog w = .ok (.func fn first cap) w := fun _ _ _ _ => rfl
  have s1 : (w.alloc (.cells #[.slice L ln lc] 22)).heap.size = w.heap.size + 1 := by simp
  have s2 : ((w.alloc (.cells #[.slice L ln lc] 22)).alloc (.cells #[.func (.func 63) #[] #[]] 96)).heap.size = w.heap.size + 1 + 1 := by simp
  have s3 : (((w.alloc (.cells #[.slice L ln lc] 22)).alloc (.cells #[.func (.func 63) #[] #[]] 96)).alloc (.cells #[.func (.func 54) #[] #[]] 87)).heap.size = w.heap.size + 1 + 1 + 1 := by simp
  have hB := (((((Below.refl w.heap.size w).alloc (Nat.le_refl _) (.cells #[.slice L ln lc] 22)).alloc (by rw [s1]; omega) (.cells #[.func (.func 63) #[] #[]] 96)).alloc (by rw [s2]; omega) (.cells #[.func (.func 54) #[] #[]] 87)).alloc (by rw [s3]; omega) (.cells #[.int .i64 0, .int .i64 0, .int .i64 0, .slice none 0 0, .slice none 0 0] 46))
  have HB := Lib.hid hB
  have HS := Lib.hid (h.below hB)
  have k2 := ((((Bk.new w 22 [.slice L ln lc]).alloc (.cells #[.func (.func 63) #[] #[]] 96)).alloc (.cells #[.func (.func 54) #[] #[]] 87)).alloc (.cells #[.int .i64 0, .int .i64 0, .int .i64 0, .slice none 0 0, .slice none 0 0] 46))
  have k1 := ((Bk.new (w.alloc (.cells #[.slice L ln lc] 22)) 96 [.func (.func 63) #[] #[]]).alloc (.cells #[.func (.func 54) #[] #[]] 87)).alloc (.cells #[.int .i64 0, .int .i64 0, .int .i64 0, .slice none 0 0, .slice none 0 0] 46)
  have k3 := (Bk.new ((w.alloc (.cells #[.slice L ln lc] 22)).alloc (.cells #[.func (.func 63) #[] #[]] 96)) 87 [.func (.func 54) #[] #[]]).alloc (.cells #[.int .i64 0, .int .i64 0, .int .i64 0, .slice none 0 0, .slice none 0 0] 46)
  have k4 := Bk.new (((w.alloc (.cells #[.slice L ln lc] 22)).alloc (.cells #[.func (.func 63) #[] #[]] 96)).alloc (.cells #[.func (.func 54) #[] #[]] 87)) 46 [.int .i64 0, .int .i64 0, .int .i64 0, .slice none 0 0, .slice none 0 0]
  rw [s1] at k1
  rw [s2] at k3
  rw [s3] at k4
  have K1 := Lib.hid k1
  have K2 := Lib.hid k2
  have K3 := Lib.hid k3
  have K4 := Lib.hid k4
  have HN := Lib.hid hn
  clear h hn hB k1 k2 k3 k4 s1 s2 s3
  go_enter Try.func62, Try.ntmps62
  go_wp2_with fail
  obtain ⟨X, hX⟩ : ∃ X, X = (((w.alloc (.cells #[.slice L ln lc] 22)).alloc (.cells #[.func (.func 63) #[] #[]] 96)).alloc (.cells #[.func (.func 54) #[] #[]] 87)).alloc (.cells #[.int .i64 0, .int .i64 0, .int .i64 0, .slice none 0 0, .slice none 0 0] 46) := ⟨_, rfl⟩
  rw [← hX] at HB HS K1 K2 K3 K4 ⊢
  clear hX
  have t1 : (X.alloc (.cells #[.int .i64 0, .int .i64 0, .int .i64 0, .slice none 0 0, .slice none 0 0] 46)).heap.size = X.heap.size + 1 := by simp
  have hal := ((Below.refl X.heap.size X).alloc (Nat.le_refl _) (.cells #[.int .i64 0, .int .i64 0, .int .i64 0, .slice none 0 0, .slice none 0 0] 46)).alloc (by rw [t1]; omega) (.cells #[.int .i64 81] 32)
  have t2 : ((X.alloc (.cells #[.int .i64 0, .int .i64 0, .int .i64 0, .slice none 0 0, .slice none 0 0] 46)).alloc (.cells #[.int .i64 81] 32)).heap.size = X.heap.size + 2 := by simp
  refine (caughtL_any 100 ⟨w.heap.size + 1, 0, none⟩ ⟨w.heap.size, 0, none⟩ ⟨w.heap.size + 1 + 1, 0, none⟩ X (ROKL l (X.heap.size + 2)) (fun k => decLt l = none ∧ k ≠ 0) (fun _ _ => rfl) ?_).mono ?_
  · have := readCloL L ln lc l (w.heap.size + 1) w.heap.size (w.heap.size + 1 + 1) ((X.alloc (.cells #[.int .i64 0, .int .i64 0, .int .i64 0, .slice none 0 0, .slice none 0 0] 46)).alloc (.cells #[.int .i64 81] 32)) (K1.out.kept hal) (K2.out.kept hal) (K3.out.kept hal) (HS.out.below hal) HN.out
    rw [t2] at this
    exact this
  rintro e w2 ⟨hb2, ⟨x, A, c, B, d, w3, rfl, ⟨hd, hr⟩, ht⟩ | ⟨k, rfl, hd, hk⟩⟩
  · have HB2 := Lib.hid (below_next HB.out hb2 HB.out.size)
    have HD := Lib.hid hd
    have hr2 := hr.keep (ht (From (X.heap.size + 2)) fun b hb => hb) (F' := From (w.heap.size + 4)) (fun b hb _ => by have := K4.out.lt; unfold From at *; omega)
    have hal2 := (Below.refl w2.heap.size w2).alloc (Nat.le_refl _) (.cells #[.int .i64 x.f1, .int .i64 x.f2, .int .i64 x.r, .slice A x.body.length c, .slice B x.tags.length d] 46)
    have HR := Lib.hid (hr2.below hal2)
    have HB3 := Lib.hid (below_next HB2.out hal2 HB2.out.size)
    have HK4 := Lib.hid ((K4.out.kept hb2).kept hal2)
    have hx := Bk.new w2 46 [.int .i64 x.f1, .int .i64 x.f2, .int .i64 x.r, .slice A x.body.length c, .slice B x.tags.length d]
    have j0 := HK4.out.at_ (i := 0) rfl
    have z0 := HK4.out.frozen 0
    have j1 := HK4.out.at_ (i := 1) rfl
    have z1 := HK4.out.frozen 1
    have j2 := HK4.out.at_ (i := 2) rfl
    have z2 := HK4.out.frozen 2
    have j3 := HK4.out.at_ (i := 3) rfl
    have z3 := HK4.out.frozen 3
    have j4 := HK4.out.at_ (i := 4) rfl
    have z4 := HK4.out.frozen 4
    clear hb2 hd hr ht hr2 hal hal2 t1 t2 hx
    go_wp2_with fail
    have kk := (((((HK4.out.set 0 (.int .i64 x.f1)).set 1 (.int .i64 x.f2)).set 2 (.int .i64 x.r)).set 3 (.slice A x.body.length c)).set 4 (.slice B x.tags.length d))
    have gr := (grown_set (grown_set (grown_set (grown_set (grown_set (grown_refl (w2.alloc (.cells #[.int .i64 x.f1, .int .i64 x.f2, .int .i64 x.r, .slice A x.body.length c, .slice B x.tags.length d] 46)) (some (w.heap.size + 1 + 1 + 1))) 0 (.int .i64 x.f1)) 1 (.int .i64 x.f2)) 2 (.int .i64 x.r)) 3 (.slice A x.body.length c)) 4 (.slice B x.tags.length d))
    have hr := HR.out.keep (F' := From w.heap.size) (Kp.of_grown gr fun b hb e => by injection e with e; unfold From at hb; omega) (fun b hb _ => by unfold From at *; omega)
    refine bodyPost_ret_by (results_row_tmp rfl _ _ (w.heap.size + 1 + 1 + 1) 46 _ _ rfl kk Try.underlying46 rfl info1_L) rfl ?_
    exact ⟨HB3.out.grown gr HB3.out.size (fun g hg => by cases hg; omega), .inl ⟨x, A, c, B, d, HD.out, rfl, hr⟩⟩
  · have HB2 := Lib.hid (below_next HB.out hb2 HB.out.size)
    have HD := Lib.hid hd
    have hk1 : (k != 0) = true := by rw [bne_iff_ne]; exact hk
    have hal2 := (Below.refl w2.heap.size w2).alloc (Nat.le_refl _) (.cells #[.int .i64 0, .int .i64 0, .int .i64 0, .slice none 0 0, .slice none 0 0] 46)
    have HB3 := Lib.hid (below_next HB2.out hal2 HB2.out.size)
    have HK4 := Lib.hid ((K4.out.kept hb2).kept hal2)
    have hx := Bk.new w2 46 [.int .i64 0, .int .i64 0, .int .i64 0, .slice none 0 0, .slice none 0 0]
    have j0 := HK4.out.at_ (i := 0) rfl
    have z0 := HK4.out.frozen 0
    have j1 := HK4.out.at_ (i := 1) rfl
    have z1 := HK4.out.frozen 1
    have j2 := HK4.out.at_ (i := 2) rfl
    have z2 := HK4.out.frozen 2
    have j3 := HK4.out.at_ (i := 3) rfl
    have z3 := HK4.out.frozen 3
    have j4 := HK4.out.at_ (i := 4) rfl
    have z4 := HK4.out.frozen 4
    clear hb2 hd hal hal2 t1 t2 hx hk
    go_wp2_with fail
    have kk := (((((HK4.out.set 0 (.int .i64 0)).set 1 (.int .i64 0)).set 2 (.int .i64 0)).set 3 (.slice none 0 0)).set 4 (.slice none 0 0))
    have gr := (grown_set (grown_set (grown_set (grown_set (grown_set (grown_refl (w2.alloc (.cells #[.int .i64 0, .int .i64 0, .int .i64 0, .slice none 0 0, .slice none 0 0] 46)) (some (w.heap.size + 1 + 1 + 1))) 0 (.int .i64 0)) 1 (.int .i64 0)) 2 (.int .i64 0)) 3 (.slice none 0 0)) 4 (.slice none 0 0))
    refine bodyPost_ret_by (results_row_tmp rfl _ _ (w.heap.size + 1 + 1 + 1) 46 _ _ rfl kk Try.underlying46 rfl info1_L) rfl ?_
    exact ⟨HB3.out.grown gr HB3.out.size (fun g hg => by cases hg; omega), .inr ⟨HD.out, rfl⟩⟩
theorem readLetterX_any (L : Option Addr) (ln lc : Nat) (l : List UInt8) (w : World) (h : Sl w L ln lc l) (hn : ln ≤ 4294967296) :
    Calls Try.prog 27 #[.slice L ln lc] w (DecL l w) := by
  have hB := (Below.refl w.heap.size w).alloc (Nat.le_refl _) (.cells #[.int .i64 0, .int .i64 0, .int .i64 0, .slice none 0 0, .slice none 0 0] 46)
  have HB := Lib.hid hB
  have HK := Lib.hid (Bk.new w 46 [.int .i64 0, .int .i64 0, .int .i64 0, .slice none 0 0, .slice none 0 0])
  have HC := Lib.hid (readRightL_any L ln lc l _ (h.below hB) hn)
  clear h hn hB
  go_enter Try.func27, Try.ntmps27
  go_wp2_with fail
  refine HC.out.mono ?_
  rintro e w2 ⟨hb2, ⟨x, A, c, B, d, hd, rfl, hr⟩ | ⟨hd, rfl⟩⟩
  · have HB2 := Lib.hid (below_next HB.out hb2 HB.out.size)
    have HD := Lib.hid hd
    have HK2 := Lib.hid (HK.out.kept hb2)
    have HR := Lib.hid hr
    have j0 := HK2.out.at_ (i := 0) rfl
    have z0 := HK2.out.frozen 0
    have j1 := HK2.out.at_ (i := 1) rfl
    have z1 := HK2.out.frozen 1
    have j2 := HK2.out.at_ (i := 2) rfl
    have z2 := HK2.out.frozen 2
    have j3 := HK2.out.at_ (i := 3) rfl
    have z3 := HK2.out.frozen 3
    have j4 := HK2.out.at_ (i := 4) rfl
    have z4 := HK2.out.frozen 4
    clear hb2 hd hr
    go_wp2_with fail
    have kk := (((((HK2.out.set 0 (.int .i64 x.f1)).set 1 (.int .i64 x.f2)).set 2 (.int .i64 x.r)).set 3 (.slice A x.body.length c)).set 4 (.slice B x.tags.length d))
    have gr := (grown_set (grown_set (grown_set (grown_set (grown_set (grown_refl w2 (some w.heap.size)) 0 (.int .i64 x.f1)) 1 (.int .i64 x.f2)) 2 (.int .i64 x.r)) 3 (.slice A x.body.length c)) 4 (.slice B x.tags.length d))
    have hr := HR.out.keep (F' := From w.heap.size) (Kp.of_grown gr fun b hb e => by injection e with e; unfold From at hb; simp at hb; omega) (fun b hb _ => by unfold From at *; simp at hb; omega)
    refine bodyPost_ret_by (results_row_tmp rfl _ _ w.heap.size 46 _ _ rfl kk Try.underlying46 rfl info1_L) rfl ?_
    exact ⟨HB2.out.grown gr HB2.out.size (fun g hg => by cases hg; omega), .inl ⟨x, A, c, B, d, HD.out, rfl, hr⟩⟩
  · have HB2 := Lib.hid (below_next HB.out hb2 HB.out.size)
    have HD := Lib.hid hd
    have HK2 := Lib.hid (HK.out.kept hb2)
    have j0 := HK2.out.at_ (i := 0) rfl
    have z0 := HK2.out.frozen 0
    have j1 := HK2.out.at_ (i := 1) rfl
    have z1 := HK2.out.frozen 1
    have j2 := HK2.out.at_ (i := 2) rfl
    have z2 := HK2.out.frozen 2
    have j3 := HK2.out.at_ (i := 3) rfl
    have z3 := HK2.out.frozen 3
    have j4 := HK2.out.at_ (i := 4) rfl
    have z4 := HK2.out.frozen 4
    clear hb2 hd
    go_wp2_with fail
    have kk := (((((HK2.out.set 0 (.int .i64 0)).set 1 (.int .i64 0)).set 2 (.int .i64 0)).set 3 (.slice none 0 0)).set 4 (.slice none 0 0))
    have gr := (grown_set (grown_set (grown_set (grown_set (grown_set (grown_refl w2 (some w.heap.size)) 0 (.int .i64 0)) 1 (.int .i64 0)) 2 (.int .i64 0)) 3 (.slice none 0 0)) 4 (.slice none 0 0))
    refine bodyPost_ret_by (results_row_tmp rfl _ _ w.heap.size 46 _ _ rfl kk Try.underlying46 rfl info1_L) rfl ?_
    exact ⟨HB2.out.grown gr HB2.out.size (fun g hg => by cases hg; omega), .inr ⟨HD.out, rfl⟩⟩

/-- what was read, from block B on -/
def ROKE (l : List UInt8) (B : Nat) (x : En) (A : Option Addr) (c : Nat) (w' : World) : Prop := decEn l = some x ∧ BF (From B) w' A c x.dig

theorem readCloE (L : Option Addr) (ln lc : Nat) (l : List UInt8) (b1 b2 b3 : Nat) (W : World) (k1 : Bk W b1 98 [.func (.func 65) #[] #[]]) (k2 : Bk W b2 22 [.slice L ln lc]) (k3 : Bk W b3 92 [.func (.func 59) #[] #[]]) (h : Sl W L ln lc l) (hn : ln ≤ 4294967296) :
    Calls Try.prog 103 #[.pointer (some ⟨b1, 0, none⟩), .pointer (some ⟨b2, 0, none⟩), .pointer (some ⟨b3, 0, none⟩)] W (DoesE (ROKE l W.heap.size) (fun k => decEn l = none ∧ k ≠ 0) W) := by
  have hal := (Below.refl W.heap.size W).alloc (Nat.le_refl _) (.cells #[.int .i64 0, .int .i64 0, .int .i64 0, .slice none 0 0] 24)
  have HB0 := Lib.hid hal
  have HK0 := Lib.hid (Bk.new W 24 [.int .i64 0, .int .i64 0, .int .i64 0, .slice none 0 0])
  have K3 := Lib.hid (k3.kept hal)
  have HS := Lib.hid (h.below hal)
  have HN := Lib.hid hn
  have a0 := (k1.kept hal).at_ (i := 0) rfl
  have a1 := (k2.kept hal).at_ (i := 0) rfl
  clear h hn hal k1 k2 k3
  go_enter Try.func103, Try.ntmps103
  go_wp2_with fail
  refine (readEntry_any L ln lc l _ HS.out HN.out).mono ?_
  rintro e w1 ⟨hb1, ⟨x, hm, A, c, rfl, hr1⟩ | ⟨hm, kk, rfl, hk0⟩⟩
  rotate_left
  · exact ⟨rfl, below_next HB0.out hb1 HB0.out.size, .inr ⟨kk, rfl, by unfold decEn okX; rw [hm], hk0⟩⟩
  have HM := Lib.hid hm
  have HB1 := Lib.hid (below_next HB0.out hb1 HB0.out.size)
  have HK1 := Lib.hid (HK0.out.kept hb1)
  have K31 := Lib.hid (K3.out.kept hb1)
  have hal := (Below.refl w1.heap.size w1).alloc (Nat.le_refl _) (.cells #[.int .i64 x.c, .int .i64 x.s, .int .i64 x.t, .slice A x.dig.length c] 24)
  have HR2 := Lib.hid (show BF (From (W.heap.size + 1)) (w1.alloc (.cells #[.int .i64 x.c, .int .i64 x.s, .int .i64 x.t, .slice A x.dig.length c] 24)) A c x.dig from by
    have := hr1.keep (F' := From (W.heap.size + 1)) ⟨Nat.le_refl _, fun _ _ _ => rfl⟩ (fun b hb _ => by unfold From at *; simpa using hb)
    exact this.below hal)
  have HB2 := Lib.hid (below_next HB1.out hal HB1.out.size)
  have HK2 := Lib.hid (HK1.out.kept hal)
  have a3 := (K31.out.kept hal).at_ (i := 0) rfl
  have HX2 := Lib.hid (Bk.new w1 24 [.int .i64 x.c, .int .i64 x.s, .int .i64 x.t, .slice A x.dig.length c])
  obtain ⟨gx, hgx⟩ : ∃ gx, gx = w1.heap.size := ⟨_, rfl⟩
  clear hm hb1 hr1 hal a0 a1 HB0 HK0 HS K3
  go_wp2_with fail
  refine (checkEntry_any x.c x.s x.t A x.dig.length c x.dig _ rfl).mono ?_
  rintro e w3 ⟨hb3, ⟨ho, rfl⟩ | ⟨ho, rfl⟩⟩
  rotate_left
  · exact ⟨rfl, below_next HB2.out hb3 HB2.out.size, .inr ⟨81, rfl, by unfold decEn okX; rw [HM.out]; simp only [show x.ok = false from ho]; rfl, by decide⟩⟩
  have HB3 := Lib.hid (below_next HB2.out hb3 HB2.out.size)
  have HR3 := Lib.hid (HR2.out.below hb3)
  have HK3 := Lib.hid (HK2.out.kept hb3)
  have hx3 := HX2.out.kept hb3
  have HO := Lib.hid (show x.ok = true from ho)
  have k0 := hx3.at_ (i := 0) rfl
  have k1 := hx3.at_ (i := 1) rfl
  have k2 := hx3.at_ (i := 2) rfl
  have k3 := hx3.at_ (i := 3) rfl
  have j0 := HK3.out.at_ (i := 0) rfl
  have z0 := HK3.out.frozen 0
  have j1 := HK3.out.at_ (i := 1) rfl
  have z1 := HK3.out.frozen 1
  have j2 := HK3.out.at_ (i := 2) rfl
  have z2 := HK3.out.frozen 2
  have j3 := HK3.out.at_ (i := 3) rfl
  have z3 := HK3.out.frozen 3
  clear hb3 ho hx3 a3 hgx
  go_wp2_with fail
  have kk := ((((HK3.out.set 0 (.int .i64 x.c)).set 1 (.int .i64 x.s)).set 2 (.int .i64 x.t)).set 3 (.slice A x.dig.length c))
  have gr := (grown_set (grown_set (grown_set (grown_set (grown_refl w3 (some W.heap.size)) 0 (.int .i64 x.c)) 1 (.int .i64 x.s)) 2 (.int .i64 x.t)) 3 (.slice A x.dig.length c))
  have hr := HR3.out.keep (F' := From W.heap.size) (Kp.of_grown gr fun b hb e => by injection e with e; unfold From at hb; omega) (fun b hb _ => by unfold From at *; omega)
  refine bodyPost_ret_by (results_row1 rfl _ _ W.heap.size 24 _ _ rfl kk Try.underlying24 rfl info1_E) rfl ?_
  exact ⟨HB3.out.grown gr HB3.out.size (fun g hg => by cases hg; omega), .inl ⟨x, A, c, rfl, by unfold decEn okX; rw [HM.out]; simp only [HO.out]; rfl, hr⟩⟩

/-- what ReadEntry answers -/
def DecE (l : List UInt8) (w : World) (e : Ending) (w' : World) : Prop := Below w.heap.size w w' ∧ ((∃ (x : En) (A : Option Addr) (c : Nat), decEn l = some x ∧ e = .returned (.tuple #[.agg #[.int .i64 x.c, .int .i64 x.s, .int .i64 x.t, .slice A x.dig.length c], .int .i64 0]) ∧ BF (From w.heap.size) w' A c x.dig) ∨ (decEn l = none ∧ e = .returned (.tuple #[.agg #[.int .i64 0, .int .i64 0, .int .i64 0, .slice none 0 0], .int .i64 12])))
set_option maxHeartbeats 1600000 in
theorem readRightE_any (L : Option Addr) (ln lc : Nat) (l : List UInt8) (w : World) (h : Sl w L ln lc l) (hn : ln ≤ 4294967296) :
    Calls Try.prog 64 #[.slice L ln lc, .func (.func 65) #[] #[], .func (.func 59) #[] #[]] w (DecE l w) := by
  have hmf : ∀ (fn : Fn) (first cap : Array Value) (w : World), (Instr.makeFunc fn first cap).run Try.prog w = .ok (.func fn first cap) w := fun _ _ _ _ => rfl
  have s1 : (w.alloc (.cells #[.slice L ln lc] 22)).heap.size = w.heap.size + 1 := by simp
  have s2 : ((w.alloc (.cells #[.slice L ln lc] 22)).alloc (.cells #[.func (.func 65) #[] #[]] 98)).heap.size = w.heap.size + 1 + 1 := by simp
  have s3 : (((w.alloc (.cells #[.slice L ln lc] 22)).alloc (.cells #[.func (.func 65) #[] #[]] 98)).alloc (.cells #[.func (.func 59) #[] #[]] 92)).heap.size = w.heap.size + 1 + 1 + 1 := by simp
  have hB := (((((Below.refl w.heap.size w).alloc (Nat.le_refl _) (.cells #[.slice L ln lc] 22)).alloc (by rw [s1]; omega) (.cells #[.func (.func 65) #[] #[]] 98)).alloc (by rw [s2]; omega) (.cells #[.func (.func 59) #[] #[]] 92)).alloc (by rw [s3]; omega) (.cells #[.int .i64 0, .int .i64 0, .int .i64 0, .slice none 0 0] 24))
  have HB := Lib.hid hB
  have HS := Lib.hid (h.below hB)
  have k2 := ((((Bk.new w 22 [.slice L ln lc]).alloc (.cells #[.func (.func 65) #[] #[]] 98)).alloc (.cells #[.func (.func 59) #[] #[]] 92)).alloc (.cells #[.int .i64 0, .int .i64 0, .int .i64 0, .slice none 0 0] 24))
  have k1 := ((Bk.new (w.alloc (.cells #[.slice L ln lc] 22)) 98 [.func (.func 65) #[] #[]]).alloc (.cells #[.func (.func 59) #[] #[]] 92)).alloc (.cells #[.int .i64 0, .int .i64 0, .int .i64 0, .slice none 0 0] 24)
  have k3 := (Bk.new ((w.alloc (.cells #[.slice L ln lc] 22)).alloc (.cells #[.func (.func 65) #[] #[]] 98)) 92 [.func (.func 59) #[] #[]]).alloc (.cells #[.int .i64 0, .int .i64 0, .int .i64 0, .slice none 0 0] 24)
  have k4 := Bk.new (((w.alloc (.cells #[.slice L ln lc] 22)).alloc (.cells #[.func (.func 65) #[] #[]] 98)).alloc (.cells #[.func (.func 59) #[] #[]] 92)) 24 [.int .i64 0, .int .i64 0, .int .i64 0, .slice none 0 0]
  rw [s1] at k1
  rw [s2] at k3
  rw [s3] at k4
  have K1 := Lib.hid k1
  have K2 := Lib.hid k2
  have K3 := Lib.hid k3
  have K4 := Lib.hid k4
  have HN := Lib.hid hn
  clear h hn hB k1 k2 k3 k4 s1 s2 s3
  go_enter Try.func64, Try.ntmps64
  go_wp2_with fail
  obtain ⟨X, hX⟩ : ∃ X, X = (((w.alloc (.cells #[.slice L ln lc] 22)).alloc (.cells #[.func (.func 65) #[] #[]] 98)).alloc (.cells #[.func (.func 59) #[] #[]] 92)).alloc (.cells #[.int .i64 0, .int .i64 0, .int .i64 0, .slice none 0 0] 24) := ⟨_, rfl⟩
  rw [← hX] at HB HS K1 K2 K3 K4 ⊢
  clear hX
  have t1 : (X.alloc (.cells #[.int .i64 0, .int .i64 0, .int .i64 0, .slice none 0 0] 24)).heap.size = X.heap.size + 1 := by simp
  have hal := ((Below.refl X.heap.size X).alloc (Nat.le_refl _) (.cells #[.int .i64 0, .int .i64 0, .int .i64 0, .slice none 0 0] 24)).alloc (by rw [t1]; omega) (.cells #[.int .i64 81] 32)
  have t2 : ((X.alloc (.cells #[.int .i64 0, .int .i64 0, .int .i64 0, .slice none 0 0] 24)).alloc (.cells #[.int .i64 81] 32)).heap.size = X.heap.size + 2 := by simp
  refine (caughtE_any 103 ⟨w.heap.size + 1, 0, none⟩ ⟨w.heap.size, 0, none⟩ ⟨w.heap.size + 1 + 1, 0, none⟩ X (ROKE l (X.heap.size + 2)) (fun k => decEn l = none ∧ k ≠ 0) (fun _ _ => rfl) ?_).mono ?_
  · have := readCloE L ln lc l (w.heap.size + 1) w.heap.size (w.heap.size + 1 + 1) ((X.alloc (.cells #[.int .i64 0, .int .i64 0, .int .i64 0, .slice none 0 0] 24)).alloc (.cells #[.int .i64 81] 32)) (K1.out.kept hal) (K2.out.kept hal) (K3.out.kept hal) (HS.out.below hal) HN.out
    rw [t2] at this
    exact this
  rintro e w2 ⟨hb2, ⟨x, A, c, w3, rfl, ⟨hd, hr⟩, ht⟩ | ⟨k, rfl, hd, hk⟩⟩
  · have HB2 := Lib.hid (below_next HB.out hb2 HB.out.size)
    have HD := Lib.hid hd
    have hr2 := hr.keep (ht (From (X.heap.size + 2)) fun b hb => hb) (F' := From (w.heap.size + 4)) (fun b hb _ => by have := K4.out.lt; unfold From at *; omega)
    have hal2 := (Below.refl w2.heap.size w2).alloc (Nat.le_refl _) (.cells #[.int .i64 x.c, .int .i64 x.s, .int .i64 x.t, .slice A x.dig.length c] 24)
    have HR := Lib.hid (hr2.below hal2)
    have HB3 := Lib.hid (below_next HB2.out hal2 HB2.out.size)
    have HK4 := Lib.hid ((K4.out.kept hb2).kept hal2)
    have hx := Bk.new w2 24 [.int .i64 x.c, .int .i64 x.s, .int .i64 x.t, .slice A x.dig.length c]
    have j0 := HK4.out.at_ (i := 0) rfl
    have z0 := HK4.out.frozen 0
    have j1 := HK4.out.at_ (i := 1) rfl
    have z1 := HK4.out.frozen 1
    have j2 := HK4.out.at_ (i := 2) rfl
    have z2 := HK4.out.frozen 2
    have j3 := HK4.out.at_ (i := 3) rfl
    have z3 := HK4.out.frozen 3
    clear hb2 hd hr ht hr2 hal hal2 t1 t2 hx
    go_wp2_with fail
    have kk := ((((HK4.out.set 0 (.int .i64 x.c)).set 1 (.int .i64 x.s)).set 2 (.int .i64 x.t)).set 3 (.slice A x.dig.length c))
    have gr := (grown_set (grown_set (grown_set (grown_set (grown_refl (w2.alloc (.cells #[.int .i64 x.c, .int .i64 x.s, .int .i64 x.t, .slice A x.dig.length c] 24)) (some (w.heap.size + 1 + 1 + 1))) 0 (.int .i64 x.c)) 1 (.int .i64 x.s)) 2 (.int .i64 x.t)) 3 (.slice A x.dig.length c))
    have hr := HR.out.keep (F' := From w.heap.size) (Kp.of_grown gr fun b hb e => by injection e with e; unfold From at hb; omega) (fun b hb _ => by unfold From at *; omega)
    refine bodyPost_ret_by (results_row_tmp rfl _ _ (w.heap.size + 1 + 1 + 1) 24 _ _ rfl kk Try.underlying24 rfl info1_E) rfl ?_
    exact ⟨HB3.out.grown gr HB3.out.size (fun g hg => by cases hg; omega), .inl ⟨x, A, c, HD.out, rfl, hr⟩⟩
  · have HB2 := Lib.hid (below_next HB.out hb2 HB.out.size)
    have HD := Lib.hid hd
    have hk1 : (k != 0) = true := by rw [bne_iff_ne]; exact hk
    have hal2 := (Below.refl w2.heap.size w2).alloc (Nat.le_refl _) (.cells #[.int .i64 0, .int .i64 0, .int .i64 0, .slice none 0 0] 24)
    have HB3 := Lib.hid (below_next HB2.out hal2 HB2.out.size)
    have HK4 := Lib.hid ((K4.out.kept hb2).kept hal2)
    have hx := Bk.new w2 24 [.int .i64 0, .int .i64 0, .int .i64 0, .slice none 0 0]
    have j0 := HK4.out.at_ (i := 0) rfl
    have z0 := HK4.out.frozen 0
    have j1 := HK4.out.at_ (i := 1) rfl
    have z1 := HK4.out.frozen 1
    have j2 := HK4.out.at_ (i := 2) rfl
    have z2 := HK4.out.frozen 2
    have j3 := HK4.out.at_ (i := 3) rfl
    have z3 := HK4.out.frozen 3
    clear hb2 hd hal hal2 t1 t2 hx hk
    go_wp2_with fail
    have kk := ((((HK4.out.set 0 (.int .i64 0)).set 1 (.int .i64 0)).set 2 (.int .i64 0)).set 3 (.slice none 0 0))
    have gr := (grown_set (grown_set (grown_set (grown_set (grown_refl (w2.alloc (.cells #[.int .i64 0, .int .i64 0, .int .i64 0, .slice none 0 0] 24)) (some (w.heap.size + 1 + 1 + 1))) 0 (.int .i64 0)) 1 (.int .i64 0)) 2 (.int .i64 0)) 3 (.slice none 0 0))
    refine bodyPost_ret_by (results_row_tmp rfl _ _ (w.heap.size + 1 + 1 + 1) 24 _ _ rfl kk Try.underlying24 rfl info1_E) rfl ?_
    exact ⟨HB3.out.grown gr HB3.out.size (fun g hg => by cases hg; omega), .inr ⟨HD.out, rfl⟩⟩
theorem readEntryX_any (L : Option Addr) (ln lc : Nat) (l : List UInt8) (w : World) (h : Sl w L ln lc l) (hn : ln ≤ 4294967296) :
    Calls Try.prog 30 #[.slice L ln lc] w (DecE l w) := by
  have hB := (Below.refl w.heap.size w).alloc (Nat.le_refl _) (.cells #[.int .i64 0, .int .i64 0, .int .i64 0, .slice none 0 0] 24)
  have HB := Lib.hid hB
  have HK := Lib.hid (Bk.new w 24 [.int .i64 0, .int .i64 0, .int .i64 0, .slice none 0 0])
  have HC := Lib.hid (readRightE_any L ln lc l _ (h.below hB) hn)
  clear h hn hB
  go_enter Try.func30, Try.ntmps30
  go_wp2_with fail
  refine HC.out.mono ?_
  rintro e w2 ⟨hb2, ⟨x, A, c, hd, rfl, hr⟩ | ⟨hd, rfl⟩⟩
  · have HB2 := Lib.hid (below_next HB.out hb2 HB.out.size)
    have HD := Lib.hid hd
    have HK2 := Lib.hid (HK.out.kept hb2)
    have HR := Lib.hid hr
    have j0 := HK2.out.at_ (i := 0) rfl
    have z0 := HK2.out.frozen 0
    have j1 := HK2.out.at_ (i := 1) rfl
    have z1 := HK2.out.frozen 1
    have j2 := HK2.out.at_ (i := 2) rfl
    have z2 := HK2.out.frozen 2
    have j3 := HK2.out.at_ (i := 3) rfl
    have z3 := HK2.out.frozen 3
    clear hb2 hd hr
    go_wp2_with fail
    have kk := ((((HK2.out.set 0 (.int .i64 x.c)).set 1 (.int .i64 x.s)).set 2 (.int .i64 x.t)).set 3 (.slice A x.dig.length c))
    have gr := (grown_set (grown_set (grown_set (grown_set (grown_refl w2 (some w.heap.size)) 0 (.int .i64 x.c)) 1 (.int .i64 x.s)) 2 (.int .i64 x.t)) 3 (.slice A x.dig.length c))
    have hr := HR.out.keep (F' := From w.heap.size) (Kp.of_grown gr fun b hb e => by injection e with e; unfold From at hb; simp at hb; omega) (fun b hb _ => by unfold From at *; simp at hb; omega)
    refine bodyPost_ret_by (results_row_tmp rfl _ _ w.heap.size 24 _ _ rfl kk Try.underlying24 rfl info1_E) rfl ?_
    exact ⟨HB2.out.grown gr HB2.out.size (fun g hg => by cases hg; omega), .inl ⟨x, A, c, HD.out, rfl, hr⟩⟩
  · have HB2 := Lib.hid (below_next HB.out hb2 HB.out.size)
    have HD := Lib.hid hd
    have HK2 := Lib.hid (HK.out.kept hb2)
    have j0 := HK2.out.at_ (i := 0) rfl
    have z0 := HK2.out.frozen 0
    have j1 := HK2.out.at_ (i := 1) rfl
    have z1 := HK2.out.frozen 1
    have j2 := HK2.out.at_ (i := 2) rfl
    have z2 := HK2.out.frozen 2
    have j3 := HK2.out.at_ (i := 3) rfl
    have z3 := HK2.out.frozen 3
    clear hb2 hd
    go_wp2_with fail
    have kk := ((((HK2.out.set 0 (.int .i64 0)).set 1 (.int .i64 0)).set 2 (.int .i64 0)).set 3 (.slice none 0 0))
    have gr := (grown_set (grown_set (grown_set (grown_set (grown_refl w2 (some w.heap.size)) 0 (.int .i64 0)) 1 (.int .i64 0)) 2 (.int .i64 0)) 3 (.slice none 0 0))
    refine bodyPost_ret_by (results_row_tmp rfl _ _ w.heap.size 24 _ _ rfl kk Try.underlying24 rfl info1_E) rfl ?_
    exact ⟨HB2.out.grown gr HB2.out.size (fun g hg => by cases hg; omega), .inr ⟨HD.out, rfl⟩⟩
end Go.Proofs.Ytmgmmbgjmnklkaa
