/-
  A node's data set. Walks; no statement.
-/
import Derived.Test.YtgppclmofphlfaaGreatDoorTreeDev5
namespace Go.Proofs.YtgppclmofphlfaaGreatDoor
set_option maxRecDepth 100000
open Go.RowKit
set_option linter.unusedVariables false

theorem tdid_same {F : Nat → Prop} {g : Nat} {t : List Lf} {w w' : World} (r : Value) (hT : TreeAt F w g t) (hb : Below w.heap.size w w') : TDid F g t r w (.returned r) w' :=
  ⟨rfl, F, hT.below hb, fun k h => .inl h, Chg.of_below F hb⟩
theorem info_int1 : (Tryz.prog.info? 3).map (·.size) = some 1 := by kernel_rfl
theorem tSet_err {p data : List UInt8} {v : Int} {t : List Lf} {n : Int} (h : tGet p t = (none, n)) : tSet p data v t = (t, 0, n) := by
  unfold tGet at h
  unfold tSet
  split at h
  · rename_i hp
    injection h with _ h
    rw [if_pos hp, ← h]
  · rename_i hp
    rw [if_neg hp]
    split at h
    · rename_i ha
      injection h with _ h
      rw [← h]
    · cases h
theorem tSet_has {p data : List UInt8} {v : Int} {t : List Lf} {l : Lf} (h : tGet p t = (some l, 0)) : tSet p data v t =
    (if 0 ≤ v ∧ l.ver ≠ v then (t, 0, 102) else if data.length > 128 then (t, 0, 104) else
      (tWith { l with data := data, ver := IntKind.i64.wrap (l.ver + 1) } t, IntKind.i64.wrap (l.ver + 1), 0)) := by
  unfold tGet at h
  unfold tSet
  split at h
  · cases h
  · rename_i hp
    rw [if_neg hp]
    split at h
    · cases h
    · rename_i k hk
      have e : t.getD k lfRoot = l := by injection h with h; exact Option.some.inj h
      simp only [e]
set_option maxHeartbeats 3200000 in
theorem set_any (g : Nat) (t : List Lf) (F : Nat → Prop) (p : ByteArray) (DA : Option Addr) (dc : Nat) (data : List UInt8) (FD : Nat → Prop) (v : Int) (w : World) (hE : Env w) (hT : TreeAt F w g t) (hB : BF FD w DA dc data) (hn : t.length ≤ 900) (hp : ∀ l ∈ t, l.path.length ≤ 64) :
    Calls Tryz.prog 19 #[.pointer (some ⟨g, 0, none⟩), .string p, .slice DA data.length dc, .int .i64 v] w
      (TDid F g (tSet p.data.toList data v t).1 (.tuple #[.int .i64 (tSet p.data.toList data v t).2.1, .int .i64 (tSet p.data.toList data v t).2.2]) w) := by
  obtain ⟨q, rfl⟩ : ∃ l : List UInt8, p = ⟨l.toArray⟩ := ⟨p.data.toList, (sv_of p).symm⟩
  show Calls _ _ _ _ (TDid F g (tSet q data v t).1 (.tuple #[.int .i64 (tSet q data v t).2.1, .int .i64 (tSet q data v t).2.2]) w)
  have HC := Lib.hid (find_any g t F ⟨q.toArray⟩ w hE hT)
  have HT := Lib.hid hT
  have HB := Lib.hid hB
  clear hE hT hB
  rcases tGet_cases q t with ⟨l, e, hlp, hlm, -⟩ | ⟨n, e, hn2⟩
  · replace HC := Lib.hid (show Calls _ _ _ _ (FndP F (some l, 0) w) by have := HC.out; rw [show (⟨q.toArray⟩ : ByteArray).data.toList = q from rfl, e] at this; exact this)
    rw [tSet_has e]
    have hl64 := hp l hlm
    clear e hlp hlm hp
    have HV := Lib.hid (fun A c X => isVersion_any l A c v X)
    by_cases hv : 0 ≤ v ∧ l.ver ≠ v
    · rw [if_pos hv]
      rw [show decide (v < 0 ∨ v = l.ver) = false by simp only [decide_eq_false_iff_not]; rintro (h | h) <;> omega] at HV
      clear hv
      go_enter Tryz.func19, Tryz.ntmps19
      go_wp2_with fail
      refine HC.out.mono ?_
      rintro e w1 ⟨hb1, A, c, rfl, -⟩
      have HX := Lib.hid hb1
      clear hb1
      go_wp2_with (refine wpList_load_row rfl 50 _ rfl w1.heap.size rfl 50 #[.string ⟨l.path.toArray⟩, .slice A l.data.length c, .int .i64 l.ver, .int .i64 l.own, .int .i64 l.next, .int .i64 l.born] (0, 0) _ (Bk.new w1 50 [.string ⟨l.path.toArray⟩, .slice A l.data.length c, .int .i64 l.ver, .int .i64 l.own, .int .i64 l.next, .int .i64 l.born]) Tryz.underlying50 rfl info_leaf1 ?_)
      refine (HV.out A c _).mono ?_
      rintro e w2 ⟨rfl, hb2⟩
      have HX2 := Lib.hid ((HX.out.alloc HX.out.size _).trans (hb2.mono (by have := HX.out.size; simp; omega)))
      clear hb2
      go_wp2_with fail
      go_ret2
      exact tdid_same _ HT.out HX2.out
    · rw [if_neg hv]
      rw [show decide (v < 0 ∨ v = l.ver) = true by simp only [decide_eq_true_iff]; omega] at HV
      clear hv
      by_cases hd : data.length > 128
      · rw [if_pos hd]
        have hd2 : (128 : Int) < (data.length : Int) := by omega
        go_enter Tryz.func19, Tryz.ntmps19
        go_wp2_with fail
        refine HC.out.mono ?_
        rintro e w1 ⟨hb1, A, c, rfl, -⟩
        have HX := Lib.hid hb1
        clear hb1
        go_wp2_with (refine wpList_load_row rfl 50 _ rfl w1.heap.size rfl 50 #[.string ⟨l.path.toArray⟩, .slice A l.data.length c, .int .i64 l.ver, .int .i64 l.own, .int .i64 l.next, .int .i64 l.born] (0, 0) _ (Bk.new w1 50 [.string ⟨l.path.toArray⟩, .slice A l.data.length c, .int .i64 l.ver, .int .i64 l.own, .int .i64 l.next, .int .i64 l.born]) Tryz.underlying50 rfl info_leaf1 ?_)
        refine (HV.out A c _).mono ?_
        rintro e w2 ⟨rfl, hb2⟩
        have HX2 := Lib.hid ((HX.out.alloc HX.out.size _).trans (hb2.mono (by have := HX.out.size; simp; omega)))
        clear hb2
        go_wp2_with fail
        go_ret2
        exact tdid_same _ HT.out HX2.out
      · rw [if_neg hd]
        have hd2 : ¬ (128 : Int) < (data.length : Int) := by omega
        obtain ⟨nv, hnv⟩ : ∃ nv, nv = IntKind.i64.wrap (l.ver + 1) := ⟨_, rfl⟩
        rw [← hnv]
        have y1 : IntKind.i64.wrap (l.ver + 1) = nv := hnv.symm
        have y2 : wrap64 (l.ver + 1) = nv := by rw [hnv]; unfold wrap64 IntKind.wrap IntKind.bits IntKind.signed; simp; omega
        clear hnv
        obtain ⟨l', hl'⟩ : ∃ l' : Lf, l' = { l with data := data, ver := nv } := ⟨_, rfl⟩
        rw [← hl']
        have HPUT := Lib.hid (fun X (hX : Below w.heap.size w X) => show Calls Tryz.prog _ #[_, .agg #[.string ⟨l.path.toArray⟩, .slice DA data.length dc, .int .i64 (nv), .int .i64 l.own, .int .i64 l.next, .int .i64 l.born]] X (TDid (Lw F w) g (tWith l' t) (.tuple #[]) X) by
          have := put_any g t (Lw F w) l' DA dc FD X (HT.out.low.below hX) (by rw [hl']; exact HB.out.below hX) (by rw [hl']; exact hl64) (by rw [hl']; show data.length ≤ 1000; omega) hn
          rw [hl'] at this ⊢
          exact this)
        clear hl' hl64
        go_enter Tryz.func19, Tryz.ntmps19
        go_wp2_with fail
        refine HC.out.mono ?_
        rintro e w1 ⟨hb1, A, c, rfl, -⟩
        have HX := Lib.hid hb1
        clear hb1
        go_wp2_with (refine wpList_load_row rfl 50 _ rfl w1.heap.size rfl 50 #[.string ⟨l.path.toArray⟩, .slice A l.data.length c, .int .i64 l.ver, .int .i64 l.own, .int .i64 l.next, .int .i64 l.born] (0, 0) _ (Bk.new w1 50 [.string ⟨l.path.toArray⟩, .slice A l.data.length c, .int .i64 l.ver, .int .i64 l.own, .int .i64 l.next, .int .i64 l.born]) Tryz.underlying50 rfl info_leaf1 ?_)
        refine (HV.out A c _).mono ?_
        rintro e w2 ⟨rfl, hb2⟩
        have HX2 := Lib.hid ((HX.out.alloc HX.out.size _).trans (hb2.mono (by have := HX.out.size; simp; omega)))
        have hk2 := (Bk.new w1 50 [.string ⟨l.path.toArray⟩, .slice A l.data.length c, .int .i64 l.ver, .int .i64 l.own, .int .i64 l.next, .int .i64 l.born]).kept hb2
        have HS := Lib.hid HX.out.size
        clear hb2
        go_wp2_with (first
          | (refine wpList_store_cell rfl 32 _ _ rfl w1.heap.size 1 (.slice DA data.length dc) rfl rfl rfl rfl info_bytes1 50 _ hk2 (by simp) ?_; intro w3 hk3 hg3; have q3 : w3.cell? ⟨w1.heap.size, 2, none⟩ = some (.int .i64 l.ver) := hk3.out.at_ rfl)
          | (refine wpList_store_cell rfl 3 _ _ rfl w1.heap.size 2 (.int .i64 (nv)) rfl rfl rfl rfl info_int1 50 _ hk3.out (by simp) ?_; intro w4 hk4 hg4)
          | (refine wpList_load_row rfl 50 _ rfl w1.heap.size rfl 50 #[.string ⟨l.path.toArray⟩, .slice DA data.length dc, .int .i64 (nv), .int .i64 l.own, .int .i64 l.next, .int .i64 l.born] (0, 0) _ hk4.out Tryz.underlying50 rfl info_leaf1 ?_))
        have HX4 := Lib.hid ((HX2.out.grown hg3.out HX2.out.size (fun g hg => by injection hg with hg; have := HS.out; omega)).grown hg4.out (by have := HX2.out.size; have := hg3.out.size; omega) (fun g hg => by injection hg with hg; have := HS.out; omega))
        refine (HPUT.out w4 HX4.out).mono ?_
        rintro e w5 ⟨rfl, F', ht, hF, hc⟩
        have q5 : w5.cell? ⟨w1.heap.size, 2, none⟩ = some (.int .i64 (nv)) := (hc.bk hk4.out (fun h => by have := h.2; have := HS.out; omega)).at_ rfl
        have HR := Lib.hid (show TDid F g (tWith l' t) (.tuple #[.int .i64 (nv), .int .i64 0]) w (.returned (.tuple #[.int .i64 (nv), .int .i64 0])) w5 from
          ⟨rfl, F', ht, fun k hk => (hF k hk).elim (fun h => .inl h.1) (fun h => .inr (Nat.le_trans HX4.out.size h)), (Chg.of_below F HX4.out).trans hc fun k hk => .inl hk.1⟩)
        clear ht hF hc q3
        go_wp2_with fail
        go_ret2
        exact HR.out
  · replace HC := Lib.hid (show Calls _ _ _ _ (FndP F (none, n) w) by have := HC.out; rw [show (⟨q.toArray⟩ : ByteArray).data.toList = q from rfl, e] at this; exact this)
    rw [tSet_err e]
    have hb : (n != 0) = true := by rcases hn2 with rfl | rfl <;> rfl
    clear e hn2 hp
    go_enter Tryz.func19, Tryz.ntmps19
    go_wp2_with fail
    refine HC.out.mono ?_
    rintro e w1 ⟨hb1, rfl⟩
    have HX := Lib.hid (hb1.alloc hb1.size (.cells #[.string ⟨#[]⟩, .slice none 0 0, .int .i64 0, .int .i64 0, .int .i64 0, .int .i64 0] 50))
    clear hb1
    go_wp2_with fail
    go_ret2
    exact tdid_same _ HT.out HX.out
end Go.Proofs.YtgppclmofphlfaaGreatDoor
