/- simfs: what a call leaves as it was; Create. -/
import Derived.Test.YtlnhhgmdajbepaaFs7
namespace Go.Proofs.Ytlnhhgmdajbepaa
open Go.ChangeShapes Go.WideShapes Go.ChangeAt Go.RowKit
set_option linter.unusedVariables false
set_option linter.unusedSimpArgs false
/-- block k is the disk's own -/
def Ob (q b : Nat) (L : List Fi) (k : Nat) : Prop := k = q ∨ k = b ∨ ∃ f ∈ L, f.v.ownBlock = some k
/-- from w to w' nothing has turned but the disk's own blocks; behind it they are the same ones or new -/
structure Chg (q b : Nat) (L L' : List Fi) (w w' : World) : Prop where
  os : w'.os = w.os
  tape : w'.tape = w.tape
  output : w'.output = w.output
  size : w.heap.size ≤ w'.heap.size
  block : ∀ k, k < w.heap.size → ¬ Ob q b L k → w'.heap[k]? = w.heap[k]?
  own : ∀ k, Ob q b L' k → Ob q b L k ∨ w.heap.size ≤ k
theorem Chg.of_below {q b : Nat} {L : List Fi} {w w' : World} (h : Below w.heap.size w w') : Chg q b L L w w' := ⟨h.os, h.tape, h.output, h.size, fun k hk _ => h.block k hk, fun k hk => .inl hk⟩
theorem Chg.trans {q b : Nat} {L L1 L2 : List Fi} {w w1 w2 : World} (h : Chg q b L L1 w w1) (g : Chg q b L1 L2 w1 w2) : Chg q b L L2 w w2 := by
  refine ⟨g.os.trans h.os, g.tape.trans h.tape, g.output.trans h.output, Nat.le_trans h.size g.size, fun k hk hn => ?_, fun k hk => ?_⟩
  · refine (g.block k (Nat.lt_of_lt_of_le hk h.size) (fun h1 => ?_)).trans (h.block k hk hn)
    rcases h.own k h1 with h2 | h2
    · exact hn h2
    · omega
  · rcases g.own k hk with h1 | h1
    · exact h.own k h1
    · exact .inr (Nat.le_trans h.size h1)
theorem Chg.below {q b : Nat} {L L1 : List Fi} {w w1 w2 : World} (h : Chg q b L L1 w w1) (g : Below w1.heap.size w1 w2) : Chg q b L L1 w w2 := h.trans (.of_below g)
theorem Chg.on {q b : Nat} {L L1 : List Fi} {w w1 w2 : World} (h : Chg q b L L1 w w1) (g : On q w1 w2) : Chg q b L L1 w w2 :=
  h.trans ⟨g.os, g.tape, g.output, by rw [g.size]; exact Nat.le_refl _, fun k hk hn => g.block k (fun e => hn (.inl e)), fun k hk => .inl hk⟩
theorem Chg.put {q b : Nat} {L L1 : List Fi} {w w1 w2 : World} (h : Chg q b L L1 w w1) (f : Fi) (g : Kept b b w1 w2) (hv : ∀ k, f.v.ownBlock = some k → Ob q b L k ∨ w.heap.size ≤ k) : Chg q b L (insN f L1) w w2 := by
  refine ⟨g.os.trans h.os, g.tape.trans h.tape, g.output.trans h.output, Nat.le_trans h.size g.size, fun k hk hn => ?_, fun k hk => ?_⟩
  · exact (g.block k (Nat.lt_of_lt_of_le hk h.size) (fun e => hn (.inr (.inl e))) (fun e => hn (.inr (.inl e)))).trans (h.block k hk hn)
  · rcases hk with h1 | h1 | ⟨x, hx, hxo⟩
    · exact .inl (.inl h1)
    · exact .inl (.inr (.inl h1))
    · rcases mem_ins hx with h2 | h2
      · rw [h2] at hxo; exact hv k hxo
      · exact h.own k (.inr (.inr ⟨x, h2, hxo⟩))
/-- what Create answers, and the disk behind it -/
def crE (D : Dk) (nm : List UInt8) : Nat := if barE D [nm] ≠ 0 then barE D [nm] else if (getN D.fs nm).isSome = true then 52 else if 700 ≤ D.fs.length then 53 else stepE D
def crD (D : Dk) (nm : List UInt8) : Dk := if barE D [nm] ≠ 0 ∨ (getN D.fs nm).isSome = true ∨ 700 ≤ D.fs.length then D else if stepE D ≠ 0 then stepD D else putD (stepD D) ⟨nm, .slice none 0 0, [], 0⟩
theorem len_mapS {w : World} {base q b : Nat} {D : Dk} (h : DkAt w base q b D) (ty : TypeId) : (Builtin.len_ #[73] ty #[.map (some b)]).run Try.prog w = .ok (.int .i64 (D.fs.length : Nat)) w := by
  obtain ⟨M, hm, hr⟩ := h.map
  have h1 := hm.len Try.underlying73 ty
  rw [hr.sz] at h1
  exact h1
theorem put_new (w : World) (base q b : Nat) (D : Dk) (h : DkAt w base q b D) (hfew : D.fs.length ≤ 700) (nm : List UInt8) (hl : nm.length ≤ 281474976710656) :
    Calls Try.prog 51 #[.pointer (some ⟨q, 0, none⟩), .string (bs nm), .agg #[.slice none 0 0, .int .i64 0]] w fun r w' => r = .returned (.tuple #[]) ∧ DkAt w' base q b (putD D ⟨nm, .slice none 0 0, [], 0⟩) ∧ Kept b b w w' :=
  put_any w base q b D h (by unfold maxLen; omega) nm (.slice none 0 0) [] 0 hl (DatAt.nil _ _) (fun g hg hn k hk => by simp [Value.ownBlock] at hk)
set_option maxRecDepth 100000 in
set_option maxHeartbeats 2000000 in
theorem create_ok (w : World) (base q b : Nat) (D : Dk) (h : DkAt w base q b D) (ho : DkOk D) (nm : List UInt8) (hl : nm.length ≤ 281474976710656) (hE : barE D [nm] = 0) (hN : getN D.fs nm = none) (hfew : D.fs.length < 700) (hS : stepE D = 0) :
    Calls Try.prog 26 #[.pointer (some ⟨q, 0, none⟩), .string (bs nm)] w fun r w' => r = .returned (.int .i64 0) ∧ DkAt w' base q b (putD (stepD D) ⟨nm, .slice none 0 0, [], 0⟩) ∧ Chg q b D.fs (insN ⟨nm, .slice none 0 0, [], 0⟩ D.fs) w w' := by
  have hb0 : Below w.heap.size w (w.alloc (.cells #[.string (bs nm)] 9)) := (Below.refl _ _).alloc (Nat.le_refl _) _
  have hd1 := h.keep hb0
  have hb2 : Below w.heap.size w ((w.alloc (.cells #[.string (bs nm)] 9)).alloc (.cells #[.slice none 0 0, .int .i64 0] 85)) := hb0.alloc hb0.size _
  have HD2 : Hid (DkAt ((w.alloc (.cells #[.string (bs nm)] 9)).alloc (.cells #[.slice none 0 0, .int .i64 0] 85)) base q b D) := h.keep hb2
  have HB2 : Hid (Below w.heap.size w ((w.alloc (.cells #[.string (bs nm)] 9)).alloc (.cells #[.slice none 0 0, .int .i64 0] 85))) := hb2
  have hn2 := FiAt.new (w.alloc (.cells #[.string (bs nm)] 9)) (.slice none 0 0) 0
  rw [World.size_alloc] at hn2
  have HN2 : Hid (FiAt ((w.alloc (.cells #[.string (bs nm)] 9)).alloc (.cells #[.slice none 0 0, .int .i64 0] 85)) (w.heap.size + 1) (.slice none 0 0) 0) := hn2
  have HD : Hid (DkAt w base q b D) := h
  have HL : Hid (q < w.heap.size ∧ b < w.heap.size) := h.lt
  have c1 := hd1.cells.2.1
  obtain ⟨M, hm, hr⟩ := hd1.map
  have hlk := lookS hm hr hl
  rw [hN] at hlk
  simp only [Option.isSome_none] at hlk
  have HB : Hid (barE D [nm] = 0) := hE
  have HF : Hid (0 ≤ D.fuse ∧ D.fuse ≤ 9223372036854775807) := ho.fuse
  obtain ⟨n, hn⟩ : ∃ n, D.fs.length = n := ⟨_, rfl⟩
  have hnI : (n : Int) < 700 := by omega
  have hnN : n < 700 := by omega
  have HN : Hid (D.fs.length = n) := hn
  have HSE : Hid (stepE D = 0) := hS
  have T1 : Hid True := trivial
  clear hE hN hfew hS h ho hb0 hd1 hb2 hn2 hm hr hn
  go_enter Try.func26, Try.ntmps26
  go_wp2_with (first
    | (go_at_call 55; refine (barred_one _ base q b D HD.out nm w.heap.size rfl hl).mono ?_; rw [HB.out]; rintro _ x1 ⟨rfl, rfl⟩)
    | (at_lookup; refine wpList_lookS rfl _ _ rfl rfl rfl hlk ?_)
    | ((with_reducible refine guard_store 85 ?_); clear T1; refine wpList_store_fi rfl _ _ rfl rfl HN2.out rfl rfl rfl (v2 := .slice none 0 0) (s2 := 0) ?_; intro x3 hf ho hh hs; have hb3 : Below w.heap.size w x3 := ho _ _ HB2.out (Nat.le_succ _); have hd3 := HD.out.keep hb3; have HD3 : Hid (DkAt x3 base q b D) := hd3; have HC3 : Hid (Chg q b D.fs D.fs w x3) := Chg.of_below hb3; have c13 := hd3.cells.2.1; have hlen : ∀ ty, (Builtin.len_ #[73] ty #[.map (some b)]).run Try.prog x3 = .ok (.int .i64 (n : Nat)) x3 := (fun ty => by rw [← HN.out]; exact len_mapS hd3 ty); clear hf ho hh hs hb3 hd3)
    | (go_at_call 56; refine (step_any _ base q b D HD3.out HF.out.1 HF.out.2).mono ?_; rw [HSE.out]; rintro _ x4 ⟨rfl, hd4, ho4⟩; have HD4 : Hid (DkAt x4 base q b (stepD D)) := hd4; have HC4 : Hid (Chg q b D.fs D.fs w x4) := HC3.out.on ho4; clear hd4 ho4)
    | (go_at_call 51; refine (put_new _ base q b (stepD D) HD4.out (by rw [stepD_fs, HN.out]; omega) nm hl).mono ?_; rintro _ x5 ⟨rfl, hd5, hk5⟩; have HD5 : Hid (DkAt x5 base q b (putD (stepD D) ⟨nm, .slice none 0 0, [], 0⟩)) := hd5; have HC5 : Hid (Chg q b D.fs (insN ⟨nm, .slice none 0 0, [], 0⟩ D.fs) w x5) := HC4.out.put _ hk5 (fun k hk => by simp [Value.ownBlock] at hk); clear hd5 hk5)
    | go_in)
  go_ret
  exact ⟨rfl, HD5.out, HC5.out⟩
end Go.Proofs.Ytlnhhgmdajbepaa
