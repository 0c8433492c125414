/-
  The program's reading of a message. A walk; no statement.
-/
import Derived.Test.YtmgmmbgjmnklkaaMsgRead4
namespace Go.Proofs.Ytmgmmbgjmnklkaa
set_option maxRecDepth 100000
open Go.RowKit
open Pk
set_option linter.unusedVariables false

/-- a message came back, if there is one; else a panic -/
def RdM (r : Option Mg) (w : World) (e : Ending) (w' : World) : Prop :=
  Below w.heap.size w w' ∧ ((∃ m, r = some m ∧ ∃ q, e = .returned (.agg #[.int .i64 m.kind, .int .i64 m.view, .int .i64 m.seq, .int .i64 m.client, .int .i64 m.stamp, .int .i64 m.e.c, .int .i64 m.e.s, .int .i64 m.e.t, .slice q.ea m.e.dig.length q.ec, .slice q.ga m.dig.length q.gc, .slice q.da m.data.length q.dc, .slice q.pa m.proof.length q.pc, .slice q.va m.proven.length q.vc]) ∧ MgR (From w.heap.size) w' m q) ∨ (r = none ∧ PnX e))
theorem info_msg1 : (Try.prog.info? 28).map (·.size) = some 13 := by kernel_rfl
theorem RdS.tail {α : Type} {R : Rdr α} {F : Nat → Prop} {w : World} {a : Addr} {c : Nat} {x : α} {xs : List α} (hs : R.sz = 1) (h : RdS R F w (some a) c (x :: xs)) : RdS R F w (if c = 1 then some a else some (a.add 1)) (c - 1) xs := by
  obtain ⟨h1, h2, h3, h4⟩ := h
  simp only [List.length_cons] at h1
  refine ⟨by omega, by omega, fun e => (by split at e <;> cases e), fun k y hy => ?_⟩
  have hk := (List.getElem?_eq_some_iff.1 hy).1
  obtain ⟨a', cs, e, hF, hb, hc, hr⟩ := h4 (k + 1) y (by simpa using hy)
  obtain rfl := Option.some.inj e
  rw [if_neg (by omega)]
  refine ⟨a.add 1, cs, rfl, by rw [add_block]; exact hF, by rw [add_block]; exact hb, fun j u hu => ?_, hr⟩
  rw [add_plus, hs]
  have := hc j u hu
  rw [hs] at this
  rw [show 1 + (k * 1 + j) = (k + 1) * 1 + j by omega]
  exact this
theorem slice_lR (A : Option Addr) (n c k : Nat) (hk : k ≤ n) (hn : n ≤ c) (hc : c ≤ maxLen) (wx : World) : (Instr.slice 44 (.slice A n c) (some (.int .i64 (k : Int))) none none).run Try.prog wx = .ok (.slice (cutA A c k) (n - k) (c - k)) wx := by
  rw [run_slice_l wx _ _ _ _ (by kernel_rfl) .i64 (k : Int) (by simp only [maxLen] at hc; omega) (by simp only [maxLen] at hc; omega)]
  have e : Try.prog.elem 44 = 22 := by kernel_rfl
  have s : ∀ w, (sizeOf 22).run Try.prog w = .ok 1 w := fun w => by kernel_rfl
  rw [e, s]
  simp [Result.andThen, sliced, cutA]
theorem puts_len : ∀ (ps : List Nat) (fs : List (List UInt8)) (m m' : Mg), m.puts ps fs = some m' → ps.length = fs.length
  | [], [], _, _, _ => rfl
  | [], _ :: _, _, _, h => by simp [Mg.puts] at h
  | _ :: _, [], _, _, h => by simp [Mg.puts] at h
  | p :: ps, f :: fs, m, m', h => by
    simp only [Mg.puts] at h
    cases hp : m.put p f with
    | none => rw [hp] at h; cases h
    | some m2 =>
      rw [hp] at h
      have := puts_len ps fs m2 m' h
      simp [this]
theorem puts_step {m : Mg} {ps : List Nat} {fs : List (List UInt8)} {k : Nat} {p : Nat} {f : List UInt8} (hp : ps[k]? = some p) (hf : fs[k]? = some f) :
    m.puts (ps.drop k) (fs.drop k) = match m.put p f with | none => none | some m' => m'.puts (ps.drop (k + 1)) (fs.drop (k + 1)) := by
  obtain ⟨h1, rfl⟩ := List.getElem?_eq_some_iff.1 hp
  obtain ⟨h2, rfl⟩ := List.getElem?_eq_some_iff.1 hf
  rw [List.drop_eq_getElem_cons h1, List.drop_eq_getElem_cons h2]
  rfl
/-- only the kind -/
def kindMg (k : Int) : Mg := ⟨k, 0, 0, 0, 0, ⟨0, 0, 0, []⟩, [], [], [], []⟩
theorem rdMg_none {l : List UInt8} (h : (splitN l).1 ≠ 0) : rdMg l = none := by unfold rdMg rdSplit; rw [if_neg h]
theorem rdMg_some {l : List UInt8} (h : (splitN l).1 = 0) : rdMg l = match (splitN l).2 with
    | f0 :: fs => (match rdNum f0 with
      | some k => if kindB k then (kindMg k).puts (partsN k) fs else none
      | none => none)
    | _ => none := by unfold rdMg rdSplit; rw [if_pos h]; cases (splitN l).2 <;> rfl
set_option maxHeartbeats 3200000 in
theorem readMsg_any (A : Option Addr) (n c : Nat) (l : List UInt8) (w : World) (h : Sl w A n c l) (hn : n ≤ 4294967296) :
    Calls Try.prog 48 #[.slice A n c] w (RdM (rdMg l) w) := by
  have HB := Lib.hid ((Below.refl w.heap.size w).alloc (Nat.le_refl _) (.cells #[.int .i64 0, .int .i64 0, .int .i64 0, .int .i64 0, .int .i64 0, .int .i64 0, .int .i64 0, .int .i64 0, .slice none 0 0, .slice none 0 0, .slice none 0 0, .slice none 0 0, .slice none 0 0] 28))
  have HK := Lib.hid (Bk.new w 28 [.int .i64 0, .int .i64 0, .int .i64 0, .int .i64 0, .int .i64 0, .int .i64 0, .int .i64 0, .int .i64 0, .slice none 0 0, .slice none 0 0, .slice none 0 0, .slice none 0 0, .slice none 0 0])
  have HS := Lib.hid (h.below HB.out)
  have HN := Lib.hid hn
  clear h hn
  go_enter Try.func48, Try.ntmps48
  go_wp2_with fail
  refine (split_any A n c l _ HS.out.rd HS.out.1 HS.out.2.1 (by have := HN.out; omega)).mono ?_
  rintro e w1 ⟨hb1, ⟨hz, rfl⟩ | ⟨hz, A1, n1, c1, rfl, ho1⟩⟩
  · have HZ := Lib.hid (show ((splitN l).1 : Int) ≠ 0 by omega)
    have HR := Lib.hid (rdMg_none hz)
    have HB1 := Lib.hid (below_next HB.out hb1 HB.out.size)
    clear hz hb1
    go_wp2_with fail
    refine (mustR_no _ _ HZ.out _).mono ?_
    rintro e w2 ⟨rfl, rfl⟩
    exact ⟨rfl, HB1.out, .inr ⟨HR.out, _, rfl, by first | decide | assumption | exact HZ.out | exact HZ5.out⟩⟩
  have HD := Lib.hid (rdMg_some hz)
  have HB1 := Lib.hid (below_next HB.out hb1 HB.out.size)
  have HK1 := Lib.hid (HK.out.kept hb1)
  have HF := Lib.hid (RdS.of_own ho1)
  have HSF := Lib.hid (split_fields hz)
  have hfn := split_len hz
  obtain rfl : (splitN l).2.length = n1 := ho1.1
  clear hz hb1 ho1 HB HK HS
  generalize (splitN l).2 = fs at *
  generalize rdMg l = r at *
  go_wp2_with fail
  refine (mustR_yes _ _ _ _).mono ?_
  rintro e w2 ⟨rfl, rfl⟩
  match fs with
  | [] =>
    go_wp2_with fail
    refine (need_no _).mono ?_
    rintro e w2 ⟨rfl, rfl⟩
    exact ⟨rfl, HB1.out, .inr ⟨HD.out, _, rfl, by first | decide | assumption | exact HZ.out | exact HZ5.out⟩⟩
  | f0 :: fs =>
    obtain ⟨x, B0, d0, rfl, hxb, hc0, hB0⟩ := HF.out.b1 (k := 0) rfl
    have HX := Lib.hid (show w.heap.size + 1 ≤ x.block by have := HF.out.2.2.2 0 f0 rfl; obtain ⟨x', _, e, hF, _⟩ := this; injection e with e; subst e; unfold From at hF; simpa using hF)
    have HXB := Lib.hid hxb
    have HC := Lib.hid (readNum_any B0 f0.length d0 f0 w1 hB0.sl (by have := HSF.out f0 (List.mem_cons_self ..); omega))
    have HCAP := Lib.hid HF.out.1
    have y1 : (0 : Int) < ((fs.length : Int) + 1) := by omega
    have y2 : (fs.length + 1 : Nat) ≤ c1 := HF.out.1
    have hc0' : w1.cell? x = some (.slice B0 f0.length d0) := by simpa [Addr.add] using hc0
    clear hxb hc0 hB0
    go_wp2_with fail
    refine (need_yes _).mono ?_
    rintro e w2 ⟨rfl, rfl⟩
    go_wp2_with fail
    refine HC.out.mono ?_
    rintro e w2 ⟨hb2, ⟨kd, hkd, rfl, hkr⟩ | ⟨hkd, kk, rfl, hk0⟩⟩
    rotate_left
    · exact ⟨rfl, below_next HB1.out hb2 HB1.out.size, .inr ⟨by rw [HD.out]; simp only [hkd], _, rfl, by first | decide | assumption | exact HZ.out | exact HZ5.out⟩⟩
    have HB2 := Lib.hid (below_next HB1.out hb2 HB1.out.size)
    have HK2 := Lib.hid (HK1.out.kept hb2)
    have HF2 := Lib.hid (show RdS RB (fun b => w.heap.size < b ∧ b ≠ w2.heap.size) w2 (some x) c1 (f0 :: fs) from (HF.out.below hb2).keep ⟨Nat.le_refl _, fun _ _ _ => rfl⟩ fun b hb hl => ⟨by unfold From at hb; simp at hb; omega, by omega⟩)
    have HCM := Lib.hid HF.out.2.1
    have HXB2 := Lib.hid (Nat.lt_of_lt_of_le HXB.out hb2.size)
    have HD2 := Lib.hid (show r = if kindB kd then (kindMg kd).puts (partsN kd) fs else none by rw [HD.out]; simp only [hkd])
    have HKM := Lib.hid (Bk.new w2 28 [.int .i64 kd, .int .i64 0, .int .i64 0, .int .i64 0, .int .i64 0, .int .i64 0, .int .i64 0, .int .i64 0, .slice none 0 0, .slice none 0 0, .slice none 0 0, .slice none 0 0, .slice none 0 0])
    have hal := (Below.refl w2.heap.size w2).alloc (Nat.le_refl _) (.cells #[.int .i64 kd, .int .i64 0, .int .i64 0, .int .i64 0, .int .i64 0, .int .i64 0, .int .i64 0, .int .i64 0, .slice none 0 0, .slice none 0 0, .slice none 0 0, .slice none 0 0, .slice none 0 0] 28)
    have HB3 := Lib.hid (below_next HB2.out hal HB2.out.size)
    have HK3 := Lib.hid (HK2.out.kept hal)
    have HF3 := Lib.hid (HF2.out.below hal)
    have HGS := Lib.hid (show w.heap.size < w2.heap.size from HK2.out.lt)
    clear hb2 hkd hal HB1 HK1 HF HB2 HK2 HF2 HD HXB HC hc0'
    go_wp2_with fail
    refine (partsOf_any kd _).mono ?_
    rintro e w4 ⟨hb4, ⟨hkb, a, rfl, hr4, ha4⟩ | ⟨hkb, rfl⟩⟩
    rotate_left
    · exact ⟨rfl, below_next HB3.out hb4 HB3.out.size, .inr ⟨by rw [HD2.out, hkb]; rfl, _, rfl, by first | decide | assumption | exact HZ.out | exact HZ5.out⟩⟩
    have HB4 := Lib.hid (below_next HB3.out hb4 HB3.out.size)
    have HK4 := Lib.hid (HK3.out.kept hb4)
    have HM4 := Lib.hid (HKM.out.kept hb4)
    have HF4 := Lib.hid (HF3.out.below hb4)
    have HP4 := Lib.hid hr4
    have HA4 := Lib.hid (show w2.heap.size + 1 ≤ a.block by simpa using ha4)
    have HD3 := Lib.hid (show r = (kindMg kd).puts (partsN kd) fs by rw [HD2.out, hkb]; rfl)
    have HPL := Lib.hid (parts_lt kd)
    have HPN := Lib.hid (parts_len kd)
    have HTL := Lib.hid (HF4.out.tail rfl)
    have HXW := Lib.hid HXB2.out
    clear hb4 hkb hr4 ha4 HD2 HB3 HK3 HKM HF3
    generalize partsN kd = ps at *
    obtain ⟨xt, hxt⟩ : ∃ xt, xt = cutA (some x) c1 1 := ⟨_, rfl⟩
    have hTL : RdS RB (fun b => w.heap.size < b ∧ b ≠ w2.heap.size) w4 xt (c1 - 1) fs := by
      have := HTL.out
      rw [hxt]
      unfold cutA
      split
      · rename_i e; rwa [if_pos e] at this
      · rename_i e; rwa [if_neg e] at this
    have HTL := Lib.hid hTL
    have hsl := fun wx => slice_lR (some x) (fs.length + 1) c1 1 (by omega) y2 HCM.out wx
    rw [← hxt] at hsl
    simp only [Nat.add_sub_cancel] at hsl
    have hsl' : ∀ wx, (Instr.slice 44 (.slice (some x) (fs.length + 1) c1) (some (.int .i64 1)) none none).run Try.prog wx = .ok (.slice xt fs.length (c1 - 1)) wx := hsl
    clear hsl hTL hxt
    generalize c1 - 1 = ct at *
    go_wp2_with fail
    refine (exactlyR_any _ _ _ ps.length _).mono ?_
    rintro e w5 ⟨rfl, ⟨hk, rfl⟩ | ⟨hk, rfl⟩⟩
    rotate_left
    · refine ⟨rfl, HB4.out, .inr ⟨?_, _, rfl, by first | decide | assumption | exact HZ.out | exact HZ5.out⟩⟩
      rw [HD3.out]
      cases hp : (kindMg kd).puts ps fs with
      | none => rfl
      | some m' => exact absurd (puts_len _ _ _ _ hp).symm hk
    have HLE := Lib.hid hk
    have hle4 : fs.length ≤ 4 := by have := HPN.out; omega
    have HQ0 := Lib.hid (show MgR (fun b => w.heap.size < b ∧ b ≠ w2.heap.size) w4 (kindMg kd) ⟨none, 0, none, 0, none, 0, none, 0, none, 0⟩ from ⟨BF.nil_ _ _, BF.nil_ _ _, BF.nil_ _ _, RdS.nil_ _ _ _, RdS.nil_ _ _ _⟩)
    have HM5 := Lib.hid (show Bk w4 w2.heap.size 28 (mgC (kindMg kd) ⟨none, 0, none, 0, none, 0, none, 0, none, 0⟩) from HM4.out)
    clear hk HM4
    go_wp2_with fail
    go_loopw [31] (fun i wr => ∃ (k : Nat) (mk : Mg) (qk : Mad), k ≤ fs.length ∧ i = .int .i64 k ∧ Bk wr w2.heap.size 28 (mgC mk qk) ∧ MgR (fun b => w.heap.size < b ∧ b ≠ w2.heap.size) wr mk qk ∧ mk.puts (ps.drop k) (fs.drop k) = r ∧ Rd wr (some a) ps.length (ps.map pv) ∧ RdS RB (fun b => w.heap.size < b ∧ b ≠ w2.heap.size) wr xt ct fs ∧
      Bk wr w.heap.size 28 [.int .i64 0, .int .i64 0, .int .i64 0, .int .i64 0, .int .i64 0, .int .i64 0, .int .i64 0, .int .i64 0, .slice none 0 0, .slice none 0 0, .slice none 0 0, .slice none 0 0, .slice none 0 0] ∧ w4.grownBy wr (some w2.heap.size)) (fun i _ => fs.length - (intOf i).toNat)
    case atStart => exact ⟨0, _, _, by omega, rfl, HM5.out, HQ0.out, HD3.out.symm, HP4.out, HTL.out, HK4.out, grown_refl _ _⟩
    case round =>
      obtain ⟨k, mk, qk, hk, rfl, hbm, hmr, hpu, hrp, hrf, hbk, hgr⟩ := hrel
      have HBM := Lib.hid hbm
      have HMR := Lib.hid hmr
      have HPU := Lib.hid hpu
      have HRP := Lib.hid hrp
      have HRF := Lib.hid hrf
      have HBK := Lib.hid hbk
      have HGR := Lib.hid hgr
      clear hbm hmr hpu hbk hgr
      by_cases hlt : k < fs.length
      · obtain ⟨f, hf⟩ : ∃ f, fs[k]? = some f := ⟨_, List.getElem?_eq_getElem hlt⟩
        obtain ⟨y, B, d, rfl, hyb, hcy, hBy⟩ := hrf.b1 hf
        have hlp : k < ps.length := by have := HLE.out; omega
        obtain ⟨a', ea, hab, hca⟩ := hrp.at_ hlp
        obtain rfl := Option.some.inj ea
        have hx : ps[k]? = some ps[k] := List.getElem?_eq_getElem hlp
        have gx : (ps.map pv).getD k undef = .int .i64 (ps[k] : Int) := by simp [pv, hlp]
        rw [gx] at hca
        have hmem := HPL.out ps[k] (List.getElem_mem hlp)
        have HST := Lib.hid (puts_step (m := mk) hx hf)
        have HC := Lib.hid (readPart_any mk qk w2.heap.size (fun b => w.heap.size < b ∧ b ≠ w2.heap.size) B d f wr HBM.out HMR.out (fun b hb => hb.2) (fun b hb => by have h1 := HBM.out.lt; have h2 := HGS.out; exact ⟨by omega, by omega⟩) hBy (by
          have h1 : f ∈ f0 :: fs := by obtain ⟨hh, rfl⟩ := List.getElem?_eq_some_iff.1 hf; exact List.mem_cons_of_mem _ (List.getElem_mem hh)
          have := HSF.out f h1
          omega) ps[k] hmem)
        unfold pv at HC
        have z1 : (0 : Int) ≤ (k : Int) := by omega
        have z2 : (k : Int) < (fs.length : Int) := by omega
        have z3 : (k : Int) < (ps.length : Int) := by omega
        generalize ps[k] = p at *
        clear hrp hrf hf hBy hyb hab hx gx hmem ea
        go_wp2_with fail
        refine HC.out.mono ?_
        rintro e w6 ⟨hg6, ⟨m', hm', rfl, q', hb6, hr6⟩ | ⟨hm', kk, rfl, hk0⟩⟩
        · have HG6 := Lib.hid hg6
          have HM6 := Lib.hid hm'
          have HB6 := Lib.hid hb6
          have HR6 := Lib.hid hr6
          clear hg6 hm' hb6 hr6 hcy hca
          go_wp2_with fail
          go_roundw
          case rel =>
            refine ⟨k + 1, m', q', by omega, by go_num, HB6.out, HR6.out, ?_, ?_, ?_, ?_, grown_trans HGR.out HG6.out (.inl rfl)⟩
            · rw [← HPU.out, HST.out]; simp only [HM6.out]
            · exact HRP.out.grown HG6.out (fun a2 e e2 => by cases e; injection e2 with e2; have := HA4.out; omega)
            · exact HRF.out.keep (Kp.of_grown HG6.out fun b hb e => hb.2 (Option.some.inj e)) fun _ h _ => h
            · exact HBK.out.grown HG6.out (fun e => by injection e with e; have := HGS.out; omega)
          case measure => simp [intOf]; omega
        · refine ⟨rfl, ?_, .inr ⟨?_, _, rfl, by first | decide | assumption | exact HZ.out | exact HZ5.out⟩⟩
          · exact (HB4.out.grown HGR.out HB4.out.size (fun g hg => by cases hg; have := HGS.out; omega)).grown hg6 (by have := HGR.out.size; have := HB4.out.size; omega) (fun g hg => by cases hg; have := HGS.out; omega)
          · rw [← HPU.out, HST.out]; simp only [hm']
      · have hke : k = fs.length := by omega
        have HRS := Lib.hid (show r = some mk by
          rw [← HPU.out, List.drop_of_length_le (by have := HLE.out; omega), List.drop_of_length_le (by omega)]; rfl)
        have k0 : wr.cell? ⟨w2.heap.size, 0, none⟩ = some (.int .i64 mk.kind) := HBM.out.at_ (i := 0) rfl
        have k1 : wr.cell? ⟨w2.heap.size, 1, none⟩ = some (.int .i64 mk.view) := HBM.out.at_ (i := 1) rfl
        have k2 : wr.cell? ⟨w2.heap.size, 2, none⟩ = some (.int .i64 mk.seq) := HBM.out.at_ (i := 2) rfl
        have k3 : wr.cell? ⟨w2.heap.size, 3, none⟩ = some (.int .i64 mk.client) := HBM.out.at_ (i := 3) rfl
        have k4 : wr.cell? ⟨w2.heap.size, 4, none⟩ = some (.int .i64 mk.stamp) := HBM.out.at_ (i := 4) rfl
        have k5 : wr.cell? ⟨w2.heap.size, 5, none⟩ = some (.int .i64 mk.e.c) := HBM.out.at_ (i := 5) rfl
        have k6 : wr.cell? ⟨w2.heap.size, 6, none⟩ = some (.int .i64 mk.e.s) := HBM.out.at_ (i := 6) rfl
        have k7 : wr.cell? ⟨w2.heap.size, 7, none⟩ = some (.int .i64 mk.e.t) := HBM.out.at_ (i := 7) rfl
        have k8 : wr.cell? ⟨w2.heap.size, 8, none⟩ = some (.slice qk.ea mk.e.dig.length qk.ec) := HBM.out.at_ (i := 8) rfl
        have k9 : wr.cell? ⟨w2.heap.size, 9, none⟩ = some (.slice qk.ga mk.dig.length qk.gc) := HBM.out.at_ (i := 9) rfl
        have k10 : wr.cell? ⟨w2.heap.size, 10, none⟩ = some (.slice qk.da mk.data.length qk.dc) := HBM.out.at_ (i := 10) rfl
        have k11 : wr.cell? ⟨w2.heap.size, 11, none⟩ = some (.slice qk.pa mk.proof.length qk.pc) := HBM.out.at_ (i := 11) rfl
        have k12 : wr.cell? ⟨w2.heap.size, 12, none⟩ = some (.slice qk.va mk.proven.length qk.vc) := HBM.out.at_ (i := 12) rfl
        have j0 := HBK.out.at_ (i := 0) rfl
        have z0 := HBK.out.frozen 0
        have j1 := HBK.out.at_ (i := 1) rfl
        have z1 := HBK.out.frozen 1
        have j2 := HBK.out.at_ (i := 2) rfl
        have z2 := HBK.out.frozen 2
        have j3 := HBK.out.at_ (i := 3) rfl
        have z3 := HBK.out.frozen 3
        have j4 := HBK.out.at_ (i := 4) rfl
        have z4 := HBK.out.frozen 4
        have j5 := HBK.out.at_ (i := 5) rfl
        have z5 := HBK.out.frozen 5
        have j6 := HBK.out.at_ (i := 6) rfl
        have z6 := HBK.out.frozen 6
        have j7 := HBK.out.at_ (i := 7) rfl
        have z7 := HBK.out.frozen 7
        have j8 := HBK.out.at_ (i := 8) rfl
        have z8 := HBK.out.frozen 8
        have j9 := HBK.out.at_ (i := 9) rfl
        have z9 := HBK.out.frozen 9
        have j10 := HBK.out.at_ (i := 10) rfl
        have z10 := HBK.out.frozen 10
        have j11 := HBK.out.at_ (i := 11) rfl
        have z11 := HBK.out.frozen 11
        have j12 := HBK.out.at_ (i := 12) rfl
        have z12 := HBK.out.frozen 12
        clear hrp hrf hke
        go_wp2_with fail
        have kk := (((((((((((((HBK.out.set 0 (.int .i64 mk.kind)).set 1 (.int .i64 mk.view)).set 2 (.int .i64 mk.seq)).set 3 (.int .i64 mk.client)).set 4 (.int .i64 mk.stamp)).set 5 (.int .i64 mk.e.c)).set 6 (.int .i64 mk.e.s)).set 7 (.int .i64 mk.e.t)).set 8 (.slice qk.ea mk.e.dig.length qk.ec)).set 9 (.slice qk.ga mk.dig.length qk.gc)).set 10 (.slice qk.da mk.data.length qk.dc)).set 11 (.slice qk.pa mk.proof.length qk.pc)).set 12 (.slice qk.va mk.proven.length qk.vc))
        have gr := (grown_set (grown_set (grown_set (grown_set (grown_set (grown_set (grown_set (grown_set (grown_set (grown_set (grown_set (grown_set (grown_set (grown_refl wr (some w.heap.size)) 0 (.int .i64 mk.kind)) 1 (.int .i64 mk.view)) 2 (.int .i64 mk.seq)) 3 (.int .i64 mk.client)) 4 (.int .i64 mk.stamp)) 5 (.int .i64 mk.e.c)) 6 (.int .i64 mk.e.s)) 7 (.int .i64 mk.e.t)) 8 (.slice qk.ea mk.e.dig.length qk.ec)) 9 (.slice qk.ga mk.dig.length qk.gc)) 10 (.slice qk.da mk.data.length qk.dc)) 11 (.slice qk.pa mk.proof.length qk.pc)) 12 (.slice qk.va mk.proven.length qk.vc))
        have HBE := HB4.out.grown HGR.out HB4.out.size (fun g hg => by cases hg; have := HGS.out; omega)
        refine bodyPost_ret_by (results_row1 rfl _ _ w.heap.size 28 _ _ rfl kk Try.underlying28 rfl info_msg1) rfl ?_
        exact ⟨HBE.grown gr HBE.size (fun g hg => by cases hg; omega), .inl ⟨mk, HRS.out, qk, rfl, HMR.out.keep (F' := From w.heap.size) (Kp.of_grown gr fun b hb e => by injection e with e; have := hb.1; omega) fun b hb _ => Nat.le_of_lt hb.1⟩⟩
end Go.Proofs.Ytmgmmbgjmnklkaa
