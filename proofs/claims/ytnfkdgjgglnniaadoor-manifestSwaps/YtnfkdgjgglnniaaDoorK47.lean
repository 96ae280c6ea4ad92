/- Own texts, joined: Fs8, Fs9, Fsa, Fsb. -/
import Derived.Test.YtnfkdgjgglnniaaDoorK46
namespace Go.Proofs.YtnfkdgjgglnniaaDoor
open Go.ChangeShapes Go.WideShapes Go.ChangeAt Go.RowKit
set_option linter.unusedVariables false
set_option linter.unusedSimpArgs false
/-- block k is the disk's own -/
def Ob (q b : Nat) (L : List Fi) (k : Nat) : Prop := k = q ∨ k = b ∨ ∃ f ∈ L, f.v.ownBlock = some k
/-- from w to w' nothing has turned but the disk's own blocks; behind it they are the same ones or new -/
structure Chg (q b : Nat) (L L' : List Fi) (w w' : World) : Prop where
  os : w'.os = w.os
  tape : w'.tape = w.tape
  output : w'.output = w.output
  size : w.heap.size ≤ w'.heap.size
  block : ∀ k, k < w.heap.size → ¬ Ob q b L k → w'.heap[k]? = w.heap[k]?
  own : ∀ k, Ob q b L' k → Ob q b L k ∨ w.heap.size ≤ k
theorem Chg.of_below {q b : Nat} {L : List Fi} {w w' : World} (h : Below w.heap.size w w') : Chg q b L L w w' := ⟨h.os, h.tape, h.output, h.size, fun k hk _ => h.block k hk, fun k hk => .inl hk⟩
theorem Chg.trans {q b : Nat} {L L1 L2 : List Fi} {w w1 w2 : World} (h : Chg q b L L1 w w1) (g : Chg q b L1 L2 w1 w2) : Chg q b L L2 w w2 := by
  refine ⟨g.os.trans h.os, g.tape.trans h.tape, g.output.trans h.output, Nat.le_trans h.size g.size, fun k hk hn => ?_, fun k hk => ?_⟩
  · refine (g.block k (Nat.lt_of_lt_of_le hk h.size) (fun h1 => ?_)).trans (h.block k hk hn)
    rcases h.own k h1 with h2 | h2
    · exact hn h2
    · omega
  · rcases g.own k hk with h1 | h1
    · exact h.own k h1
    · exact .inr (Nat.le_trans h.size h1)
theorem Chg.below {q b : Nat} {L L1 : List Fi} {w w1 w2 : World} (h : Chg q b L L1 w w1) (g : Below w1.heap.size w1 w2) : Chg q b L L1 w w2 := h.trans (.of_below g)
theorem Chg.on {q b : Nat} {L L1 : List Fi} {w w1 w2 : World} (h : Chg q b L L1 w w1) (g : On q w1 w2) : Chg q b L L1 w w2 :=
  h.trans ⟨g.os, g.tape, g.output, by rw [g.size]; exact Nat.le_refl _, fun k hk hn => g.block k (fun e => hn (.inl e)), fun k hk => .inl hk⟩
theorem Chg.put {q b : Nat} {L L1 : List Fi} {w w1 w2 : World} (h : Chg q b L L1 w w1) (f : Fi) (g : Kept b b w1 w2) (hv : ∀ k, f.v.ownBlock = some k → Ob q b L k ∨ w.heap.size ≤ k) : Chg q b L (insN f L1) w w2 := by
  refine ⟨g.os.trans h.os, g.tape.trans h.tape, g.output.trans h.output, Nat.le_trans h.size g.size, fun k hk hn => ?_, fun k hk => ?_⟩
  · exact (g.block k (Nat.lt_of_lt_of_le hk h.size) (fun e => hn (.inr (.inl e))) (fun e => hn (.inr (.inl e)))).trans (h.block k hk hn)
  · rcases hk with h1 | h1 | ⟨x, hx, hxo⟩
    · exact .inl (.inl h1)
    · exact .inl (.inr (.inl h1))
    · rcases mem_ins hx with h2 | h2
      · rw [h2] at hxo; exact hv k hxo
      · exact h.own k (.inr (.inr ⟨x, h2, hxo⟩))
/-- what Create answers, and the disk behind it -/
def crE (D : Dk) (nm : List UInt8) : Nat := if barE D [nm] ≠ 0 then barE D [nm] else if (getN D.fs nm).isSome = true then 52 else if 700 ≤ D.fs.length then 53 else stepE D
def crD (D : Dk) (nm : List UInt8) : Dk := if barE D [nm] ≠ 0 ∨ (getN D.fs nm).isSome = true ∨ 700 ≤ D.fs.length then D else if stepE D ≠ 0 then stepD D else putD (stepD D) ⟨nm, .slice none 0 0, [], 0⟩
theorem len_mapS {w : World} {base q b : Nat} {D : Dk} (h : DkAt w base q b D) (ty : TypeId) : (Builtin.len_ #[46] ty #[.map (some b)]).run Tryd.prog w = .ok (.int .i64 (D.fs.length : Nat)) w := by
  obtain ⟨M, hm, hr⟩ := h.map
  have h1 := hm.len Tryd.underlying46 ty
  rw [hr.sz] at h1
  exact h1
theorem put_new (w : World) (base q b : Nat) (D : Dk) (h : DkAt w base q b D) (hfew : D.fs.length ≤ 700) (nm : List UInt8) (hl : nm.length ≤ 281474976710656) :
    Calls Tryd.prog 28 #[.pointer (some ⟨q, 0, none⟩), .string (bs nm), .agg #[.slice none 0 0, .int .i64 0]] w fun r w' => r = .returned (.tuple #[]) ∧ DkAt w' base q b (putD D ⟨nm, .slice none 0 0, [], 0⟩) ∧ Kept b b w w' :=
  fput_any w base q b D h (by unfold maxLen; omega) nm (.slice none 0 0) [] 0 hl (DatAt.nil _ _) (fun g hg hn k hk => by simp [Value.ownBlock] at hk)
set_option maxRecDepth 100000 in
set_option maxHeartbeats 2000000 in
theorem create_ok (w : World) (base q b : Nat) (D : Dk) (h : DkAt w base q b D) (ho : DkOk D) (nm : List UInt8) (hl : nm.length ≤ 281474976710656) (hE : barE D [nm] = 0) (hN : getN D.fs nm = none) (hfew : D.fs.length < 700) (hS : stepE D = 0) :
    Calls Tryd.prog 18 #[.pointer (some ⟨q, 0, none⟩), .string (bs nm)] w fun r w' => r = .returned (.int .i64 0) ∧ DkAt w' base q b (putD (stepD D) ⟨nm, .slice none 0 0, [], 0⟩) ∧ Chg q b D.fs (insN ⟨nm, .slice none 0 0, [], 0⟩ D.fs) w w' := by
  have hb0 : Below w.heap.size w (w.alloc (.cells #[.string (bs nm)] 9)) := (Below.refl _ _).alloc (Nat.le_refl _) _
  have hd1 := h.keep hb0
  have hb2 : Below w.heap.size w ((w.alloc (.cells #[.string (bs nm)] 9)).alloc (.cells #[.slice none 0 0, .int .i64 0] 60)) := hb0.alloc hb0.size _
  have HD2 : Hid (DkAt ((w.alloc (.cells #[.string (bs nm)] 9)).alloc (.cells #[.slice none 0 0, .int .i64 0] 60)) base q b D) := h.keep hb2
  have HB2 : Hid (Below w.heap.size w ((w.alloc (.cells #[.string (bs nm)] 9)).alloc (.cells #[.slice none 0 0, .int .i64 0] 60))) := hb2
  have hn2 := FiAt.new (w.alloc (.cells #[.string (bs nm)] 9)) (.slice none 0 0) 0
  rw [World.size_alloc] at hn2
  have HN2 : Hid (FiAt ((w.alloc (.cells #[.string (bs nm)] 9)).alloc (.cells #[.slice none 0 0, .int .i64 0] 60)) (w.heap.size + 1) (.slice none 0 0) 0) := hn2
  have HD : Hid (DkAt w base q b D) := h
  have HL : Hid (q < w.heap.size ∧ b < w.heap.size) := h.lt
  have c1 := hd1.cells.2.1
  obtain ⟨M, hm, hr⟩ := hd1.map
  have hlk := lookS hm hr hl
  rw [hN] at hlk
  simp only [Option.isSome_none] at hlk
  have HB : Hid (barE D [nm] = 0) := hE
  have HF : Hid (0 ≤ D.fuse ∧ D.fuse ≤ 9223372036854775807) := ho.fuse
  obtain ⟨n, hn⟩ : ∃ n, D.fs.length = n := ⟨_, rfl⟩
  have hnI : (n : Int) < 700 := by omega
  have hnN : n < 700 := by omega
  have HN : Hid (D.fs.length = n) := hn
  have HSE : Hid (stepE D = 0) := hS
  have T1 : Hid True := trivial
  clear hE hN hfew hS h ho hb0 hd1 hb2 hn2 hm hr hn
  go_enter Tryd.func18, Tryd.ntmps18
  go_wp2_with (first
    | (go_at_call 37; refine (barred_one _ base q b D HD.out nm w.heap.size rfl hl).mono ?_; rw [HB.out]; rintro _ x1 ⟨rfl, rfl⟩)
    | (at_lookup; refine wpList_lookS rfl _ _ rfl rfl rfl hlk ?_)
    | ((with_reducible refine guard_store 60 ?_); clear T1; refine wpList_store_fi rfl _ _ rfl rfl HN2.out rfl rfl rfl (v2 := .slice none 0 0) (s2 := 0) ?_; intro x3 hf ho hh hs; have hb3 : Below w.heap.size w x3 := ho _ _ HB2.out (Nat.le_succ _); have hd3 := HD.out.keep hb3; have HD3 : Hid (DkAt x3 base q b D) := hd3; have HC3 : Hid (Chg q b D.fs D.fs w x3) := Chg.of_below hb3; have c13 := hd3.cells.2.1; have hlen : ∀ ty, (Builtin.len_ #[46] ty #[.map (some b)]).run Tryd.prog x3 = .ok (.int .i64 (n : Nat)) x3 := (fun ty => by rw [← HN.out]; exact len_mapS hd3 ty); clear hf ho hh hs hb3 hd3)
    | (go_at_call 38; refine (step_any _ base q b D HD3.out HF.out.1 HF.out.2).mono ?_; rw [HSE.out]; rintro _ x4 ⟨rfl, hd4, ho4⟩; have HD4 : Hid (DkAt x4 base q b (stepD D)) := hd4; have HC4 : Hid (Chg q b D.fs D.fs w x4) := HC3.out.on ho4; clear hd4 ho4)
    | (go_at_call 28; refine (put_new _ base q b (stepD D) HD4.out (by rw [stepD_fs, HN.out]; omega) nm hl).mono ?_; rintro _ x5 ⟨rfl, hd5, hk5⟩; have HD5 : Hid (DkAt x5 base q b (putD (stepD D) ⟨nm, .slice none 0 0, [], 0⟩)) := hd5; have HC5 : Hid (Chg q b D.fs (insN ⟨nm, .slice none 0 0, [], 0⟩ D.fs) w x5) := HC4.out.put _ hk5 (fun k hk => by simp [Value.ownBlock] at hk); clear hd5 hk5)
    | go_in)
  go_ret
  exact ⟨rfl, HD5.out, HC5.out⟩
end Go.Proofs.YtnfkdgjgglnniaaDoor
namespace Go.Proofs.YtnfkdgjgglnniaaDoor
open Go.ChangeShapes Go.WideShapes Go.ChangeAt Go.RowKit
set_option linter.unusedVariables false
set_option linter.unusedSimpArgs false
theorem sort_eq {L : List Fi} (hs : SortN L) {f g : Fi} (hf : f ∈ L) (hg : g ∈ L) (e : g.name = f.name) : g = f := by
  induction L with
  | nil => cases hf
  | cons x r ih =>
    obtain ⟨h1, h2⟩ := List.pairwise_cons.1 hs
    rcases List.mem_cons.1 hf with a | a <;> rcases List.mem_cons.1 hg with c | c
    · rw [a, c]
    · have := h1 g c; rw [← a, e] at this; exact absurd this (lt_irr _)
    · have := h1 f a; rw [← c, e] at this; exact absurd this (lt_irr _)
    · exact ih h2 a c
theorem dist_ne {L : List Fi} (hd : OwnDist L) {f g : Fi} (hf : f ∈ L) (hg : g ∈ L) (e : g.name ≠ f.name) : ∀ k, f.v.ownBlock = some k → g.v.ownBlock ≠ some k := by
  induction L with
  | nil => cases hf
  | cons x r ih =>
    obtain ⟨h1, h2⟩ := List.pairwise_cons.1 hd
    intro k hk hk2
    rcases List.mem_cons.1 hf with a | a <;> rcases List.mem_cons.1 hg with c | c
    · exact e (by rw [a, c])
    · rw [a] at hk; exact h1 g c k hk hk2
    · rw [c] at hk2; exact h1 f a k hk2 hk
    · exact ih h2 a c k hk hk2
theorem app_at {w x4 x5 : World} {base q b : Nat} {D : Dk} {f : Fi} {l : List Nat} {v' : Value} {k : Nat} (h : DkAt w base q b D) (hf : f ∈ D.fs) (hb4 : Below w.heap.size w x4) (hk : w.heap.size ≤ k) (hF4 : FiAt x4 k f.v f.s) (hd : DatAt x5 base v' (f.l ++ l)) (ho : DatAt x5 base f.v f.l) (hg : x4.grownBy x5 f.v.ownBlock) (hn : ∀ g, v'.ownBlock = some g → f.v.ownBlock = some g ∨ x4.heap.size ≤ g) :
    FiAt x5 k f.v f.s ∧ FiAt (x5.setCell ⟨k, 0, none⟩ v') k v' f.s ∧ DkAt (x5.setCell ⟨k, 0, none⟩ v') base q b D ∧ DatAt (x5.setCell ⟨k, 0, none⟩ v') base v' (f.l ++ l) ∧ (∀ g ∈ D.fs, g.name ≠ f.name → ∀ j, v'.ownBlock = some j → g.v.ownBlock ≠ some j) ∧ Chg q b D.fs D.fs w (x5.setCell ⟨k, 0, none⟩ v') ∧ (∀ j, v'.ownBlock = some j → Ob q b D.fs j ∨ w.heap.size ≤ j) := by
  have hk4 : k < x4.heap.size := lt_of_heap hF4
  have hfb : ∀ j, f.v.ownBlock = some j → j < w.heap.size := fun j hj => ((h.dat f hf).lt hj).2
  have h5 : FiAt x5 k f.v f.s := (hg.block k hk4 (fun e => by have := hfb k e.symm; omega)).trans hF4
  have hoth : ∀ j, j ≠ k → (x5.setCell ⟨k, 0, none⟩ v').heap[j]? = x5.heap[j]? := fun j hj => heap_setCell_other x5 ⟨k, 0, none⟩ j v' hj
  have hold : ∀ j, j < w.heap.size → f.v.ownBlock ≠ some j → (x5.setCell ⟨k, 0, none⟩ v').heap[j]? = w.heap[j]? := fun j hj hne =>
    (hoth j (by omega)).trans ((hg.block j (Nat.lt_of_lt_of_le hj hb4.size) (fun e => hne e.symm)).trans (hb4.block j hj))
  have hne2 := h.dat_ne (h.dat f hf)
  have hlt := h.lt
  refine ⟨h5, ?_, ⟨(hold q hlt.1 (fun e => (hne2 q e).1 rfl)).trans h.blk, ?_, h.srt, fun g hgm => ?_, h.dist, h.lo⟩, ?_, fun g hgm hnm j hj hgj => ?_, ⟨?_, ?_, ?_, ?_, fun j hj hnb => ?_, fun j hj => .inl hj⟩, fun j hj => ?_⟩
  · unfold FiAt
    rw [heap_setCell_same x5 k 0 _ _ v' h5]
    rfl
  · obtain ⟨M, hm, hr⟩ := h.map
    exact ⟨M, owns_sameS hm (hold b hlt.2 (fun e => (hne2 b e).2 rfl)), hr⟩
  · by_cases e : g.name = f.name
    · rw [sort_eq h.srt hf hgm e]
      exact ho.moved (fun j _ _ hj => hoth j (by have := hfb j hj; omega))
    · refine (h.dat g hgm).moved (fun j _ hj hjo => hold j hj (fun e2 => dist_ne h.dist hf hgm e j e2 hjo))
  · refine hd.moved (fun j _ _ hj => hoth j ?_)
    rcases hn j hj with h1 | h1
    · have := hfb j h1; omega
    · omega
  · rcases hn j hj with h1 | h1
    · exact dist_ne h.dist hf hgm hnm j h1 hgj
    · have h2 := ((h.dat g hgm).lt hgj).2
      have := hb4.size
      omega
  · exact hg.os.trans hb4.os
  · exact hg.tape.trans hb4.tape
  · exact hg.output.trans hb4.output
  · have h1 := hb4.size
    have h2 := hg.size
    simp [World.setCell]
    omega
  · exact hold j hj (fun e => hnb (.inr (.inr ⟨f, hf, e⟩)))
  · rcases hn j hj with h1 | h1
    · exact .inl (.inr (.inr ⟨f, hf, h1⟩))
    · exact .inr (Nat.le_trans hb4.size h1)
set_option maxRecDepth 100000 in
set_option maxHeartbeats 2000000 in
theorem append_full (w : World) (base q b : Nat) (D : Dk) (h : DkAt w base q b D) (ho : DkOk D) (nm : List UInt8) (hl : nm.length ≤ 281474976710656) (hE : barE D [nm] = 0) (f : Fi) (hN : getN D.fs nm = some f) (A : Option Addr) (n C : Nat) (hn : (n : Int) ≤ 281474976710656) (hfull : D.room - (usedN D.fs : Nat) < (n : Int)) :
    Calls Tryd.prog 20 #[.pointer (some ⟨q, 0, none⟩), .string (bs nm), .slice A n C] w fun r w' => r = .returned (.int .i64 54) ∧ Below w.heap.size w w' := by
  have hone : f.v.oneCell' = true := by obtain ⟨_, _, _, _, _, _, _, h1⟩ := (h.dat f (getN_mem hN).1).bytes; exact h1
  obtain ⟨V, hV⟩ : ∃ V, f.v = V := ⟨_, rfl⟩
  obtain ⟨S, hS⟩ : ∃ S : Int, (f.s : Int) = S := ⟨_, rfl⟩
  have HVS : Hid (FiV f = fiV V S) := by show _ = _; rw [← hV, ← hS]
  obtain ⟨F, hF⟩ : ∃ F : Int, D.room - (usedN D.fs : Nat) = F := ⟨_, rfl⟩
  have hF0 : 0 ≤ F ∧ F ≤ 67108864 := by have := ho.room; have := ho.used; omega
  obtain ⟨hF1, hF2⟩ := hF0
  rw [hF] at hfull
  rw [hV] at hone
  have hnn : (0 : Int) ≤ (n : Int) := by omega
  have HF : Hid (D.room - (usedN D.fs : Nat) = F) := hF
  have HONE : Hid (V.oneCell' = true) := hone
  have HD : Hid (DkAt w base q b D) := h
  have HO : Hid (DkOk D) := ho
  have HE : Hid (barE D [nm] = 0) := hE
  have HN : Hid (getN D.fs nm = some f) := hN
  have HL : Hid (nm.length ≤ 281474976710656) := hl
  clear h ho hl hE hN hV hS hF hone
  go_enter Tryd.func20, Tryd.ntmps20
  go_wp2_with (first
    | (go_at_call 39; refine (find_ok _ base q b D HD.out nm HL.out HE.out f HN.out).mono ?_; rw [HVS.out]; rintro _ x1 ⟨rfl, hb1⟩; have HB1 : Hid (Below w.heap.size w x1) := hb1; have HF1 : Hid (FiAt (x1.alloc (.cells #[.slice none 0 0, .int .i64 0] 60)) x1.heap.size (.slice none 0 0) 0) := FiAt.new x1 _ _; clear hb1)
    | ((with_reducible refine guard_store 60 ?_); refine wpList_store_fi rfl _ _ rfl rfl HF1.out HONE.out rfl rfl (v2 := V) (s2 := S) ?_; intro x3 hf ho hh hs; have HB3 : Hid (Below w.heap.size w x3) := ho _ _ (HB1.out.alloc HB1.out.size _) HB1.out.size; clear hf ho hh hs)
    | (go_at_call 40; refine (free_any _ base q b D (HD.out.keep HB3.out) HO.out).mono ?_; rw [HF.out]; rintro _ x4 ⟨rfl, hb4⟩; have HB4 : Hid (Below w.heap.size w x4) := HB3.out.trans (hb4.mono HB3.out.size); clear hb4)
    | go_in)
  go_ret
  exact ⟨rfl, HB4.out⟩
/-- a file with bytes behind it -/
abbrev apD (D : Dk) (f : Fi) (v : Value) (l : List Nat) : Dk := stepD (putD D ⟨f.name, v, f.l ++ l, f.s⟩)
set_option maxRecDepth 100000 in
set_option maxHeartbeats 4000000 in
theorem append_ok (w : World) (base q b : Nat) (D : Dk) (h : DkAt w base q b D) (ho : DkOk D) (nm : List UInt8) (hl : nm.length ≤ 281474976710656) (hE : barE D [nm] = 0) (f : Fi) (hN : getN D.fs nm = some f) (A : Option Addr) (n C : Nat) (l : List Nat) (hln : l.length = n) (hB : Bytes w A l) (hnc : n ≤ C) (hA : A = none → C = 0) (hfit : (n : Int) ≤ D.room - (usedN D.fs : Nat)) :
    Calls Tryd.prog 20 #[.pointer (some ⟨q, 0, none⟩), .string (bs nm), .slice A n C] w fun r w' => r = .returned (.int .i64 (stepE D : Nat)) ∧ ∃ v, DkAt w' base q b (apD D f v l) ∧ Chg q b D.fs (insN ⟨f.name, v, f.l ++ l, f.s⟩ D.fs) w w' := by
  obtain ⟨hfm, hfn⟩ := getN_mem hN
  have hone : f.v.oneCell' = true := by obtain ⟨_, _, _, _, _, _, _, h1⟩ := (h.dat f hfm).bytes; exact h1
  obtain ⟨V, hV⟩ : ∃ V, f.v = V := ⟨_, rfl⟩
  obtain ⟨S, hS⟩ : ∃ S : Int, (f.s : Int) = S := ⟨_, rfl⟩
  have HVS : Hid (FiV f = fiV V S) := by show _ = _; rw [← hV, ← hS]
  obtain ⟨F, hF⟩ : ∃ F : Int, D.room - (usedN D.fs : Nat) = F := ⟨_, rfl⟩
  have hF0 : 0 ≤ F ∧ F ≤ 67108864 := by have := ho.room; have := ho.used; omega
  obtain ⟨hF1, hF2⟩ := hF0
  rw [hF] at hfit
  rw [hV] at hone
  have hnn : (0 : Int) ≤ (n : Int) := by omega
  have HLEN : Hid (f.l.length + n ≤ 70368744177664) := by
    have h1 := usedN_mem hfm
    have h2 := ho.room
    have h3 := ho.used
    show _ ≤ _
    omega
  have HF : Hid (D.room - (usedN D.fs : Nat) = F) := hF
  have HONE : Hid (V.oneCell' = true) := hone
  have HD : Hid (DkAt w base q b D) := h
  have HO : Hid (DkOk D) := ho
  have HE : Hid (barE D [nm] = 0) := hE
  have HN : Hid (getN D.fs nm = some f) := hN
  have HL : Hid (nm.length ≤ 281474976710656) := hl
  have HV : Hid (f.v = V ∧ (f.s : Int) = S ∧ f ∈ D.fs ∧ f.name = nm) := ⟨hV, hS, hfm, hfn⟩
  have HBY : Hid (Bytes w A l ∧ l.length = n ∧ n ≤ C ∧ (A = none → C = 0)) := ⟨hB, hln, hnc, hA⟩
  have HBS : Hid (base ≤ w.heap.size) := Nat.le_trans h.lo.1 (Nat.le_of_lt h.lt.1)
  have HFEW : Hid (D.fs.length < maxLen) := by have := ho.few; show _ < _; unfold maxLen; omega
  have HAPP : Hid (∀ (x4 x5 : World) (v' : Value) (k : Nat), Below w.heap.size w x4 → w.heap.size ≤ k → FiAt x4 k V S → DatAt x5 base v' (f.l ++ l) → DatAt x5 base V f.l → x4.grownBy x5 V.ownBlock → (∀ g, v'.ownBlock = some g → V.ownBlock = some g ∨ x4.heap.size ≤ g) →
    FiAt x5 k V S ∧ FiAt (x5.setCell ⟨k, 0, none⟩ v') k v' S ∧ DkAt (x5.setCell ⟨k, 0, none⟩ v') base q b D ∧ DatAt (x5.setCell ⟨k, 0, none⟩ v') base v' (f.l ++ l) ∧ (∀ g ∈ D.fs, g.name ≠ f.name → ∀ j, v'.ownBlock = some j → g.v.ownBlock ≠ some j) ∧ Chg q b D.fs D.fs w (x5.setCell ⟨k, 0, none⟩ v') ∧ (∀ j, v'.ownBlock = some j → Ob q b D.fs j ∨ w.heap.size ≤ j)) := by
    intro x4 x5 v' k a1 a2 a3 a4 a5 a6 a7
    rw [← hV] at a3 a5 a6 a7 ⊢
    rw [← hS] at a3 ⊢
    exact app_at h hfm a1 a2 a3 a4 a5 a6 a7
  clear h ho hl hE hN hV hS hF hone hB hln hnc hA hfm hfn
  go_enter Tryd.func20, Tryd.ntmps20
  go_wp2_with (first
    | (go_at_call 39; refine (find_ok _ base q b D HD.out nm HL.out HE.out f HN.out).mono ?_; rw [HVS.out]; rintro _ x1 ⟨rfl, hb1⟩; have HB1 : Hid (Below w.heap.size w x1) := hb1; have HF1 : Hid (FiAt (x1.alloc (.cells #[.slice none 0 0, .int .i64 0] 60)) x1.heap.size (.slice none 0 0) 0) := FiAt.new x1 _ _; clear hb1)
    | ((with_reducible refine guard_store 60 ?_); refine wpList_store_fi rfl _ _ rfl rfl HF1.out HONE.out rfl rfl (v2 := V) (s2 := S) ?_; intro x3 hf ho hh hs; have HB3 : Hid (Below w.heap.size w x3) := ho _ _ (HB1.out.alloc HB1.out.size _) HB1.out.size; have HF3 : Hid (FiAt x3 x1.heap.size V S) := hf; clear hf ho hh hs)
    | (go_at_call 40; refine (free_any _ base q b D (HD.out.keep HB3.out) HO.out).mono ?_; rw [HF.out]; rintro _ x4 ⟨rfl, hb4⟩; have HB4 : Hid (Below w.heap.size w x4) := HB3.out.trans (hb4.mono HB3.out.size); have HF4 : Hid (FiAt x4 x1.heap.size V S) := HF3.out.keep hb4; have cf4 := HF4.out.cells.1; clear hb4)
    | (at_builtin; refine wpList_append_dat _ rfl _ _ rfl base V f.l l A n C rfl (by rw [← HV.out.1]; exact (HD.out.keep HB4.out).dat f HV.out.2.2.1) rfl HBY.out.2.1 (HBY.out.1.keep HB4.out) HBY.out.2.2.1 HBY.out.2.2.2 HLEN.out (Nat.le_trans HBS.out HB4.out.size) ?_; intro v5 x5 hd5 hd5b hg5 hn5; obtain ⟨a5, c5, hv5, _⟩ := hd5.bytes; (obtain ⟨m5, hm5⟩ : ∃ m5, (f.l ++ l).length = m5 := ⟨_, rfl⟩); rw [hm5] at hv5; subst hv5; clear hm5; have HX5 : Hid (_) := HAPP.out x4 x5 _ x1.heap.size HB4.out HB1.out.size HF4.out hd5 hd5b hg5 hn5; have cf5 := HX5.out.1.cells.1; have zf5 := HX5.out.1.froz 0; have cf6 := HX5.out.2.1.cells.1; clear hd5 hd5b hg5 hn5)
    | ((with_reducible refine guard_load 60 ?_); refine wpList_load_fi rfl _ rfl HX5.out.2.1 rfl ?_)
    | (go_at_call 28; rw [← HV.out.2.1]; refine (fput_any _ base q b D HX5.out.2.2.1 HFEW.out nm (.slice a5 m5 c5) (f.l ++ l) f.s HL.out HX5.out.2.2.2.1 (by rw [← HV.out.2.2.2]; exact HX5.out.2.2.2.2.1)).mono ?_; rintro _ x7 ⟨rfl, hd7, hk7⟩; rw [← HV.out.2.2.2] at hd7; have HD7 : Hid (DkAt x7 base q b (putD D ⟨f.name, .slice a5 m5 c5, f.l ++ l, f.s⟩)) := hd7; have HC7 : Hid (Chg q b D.fs (insN ⟨f.name, .slice a5 m5 c5, f.l ++ l, f.s⟩ D.fs) w x7) := HX5.out.2.2.2.2.2.1.put _ hk7 HX5.out.2.2.2.2.2.2; clear hd7 hk7)
    | (go_at_call 38; refine (step_any _ base q b _ HD7.out HO.out.fuse.1 HO.out.fuse.2).mono ?_; rintro _ x8 ⟨rfl, hd8, ho8⟩; have HD8 : Hid (DkAt x8 base q b (apD D f (.slice a5 m5 c5) l)) := hd8; have HC8 : Hid (Chg q b D.fs (insN ⟨f.name, .slice a5 m5 c5, f.l ++ l, f.s⟩ D.fs) w x8) := HC7.out.on ho8; clear hd8 ho8)
    | go_in)
  go_ret
  exact ⟨rfl, _, HD8.out, HC8.out⟩
end Go.Proofs.YtnfkdgjgglnniaaDoor
namespace Go.Proofs.YtnfkdgjgglnniaaDoor
open Go.ChangeShapes Go.WideShapes Go.ChangeAt Go.RowKit
set_option linter.unusedVariables false
/-- a file, without memory -/
structure Fa where
  name : List UInt8
  l : List Nat
  s : Nat
def Fi.ab (f : Fi) : Fa := ⟨f.name, f.l, f.s⟩
/-- a disk, without memory -/
structure Ak where
  room : Int
  fuse : Int
  off : Bool
  steps : Int
  read : Int
  fs : List Fa
def Dk.ab (D : Dk) : Ak := ⟨D.room, D.fuse, D.off, D.steps, D.read, D.fs.map Fi.ab⟩
def getA (L : List Fa) (t : List UInt8) : Option Fa := L.find? (fun f => f.name == t)
def delA (L : List Fa) (t : List UInt8) : List Fa := L.filter (fun f => !(f.name == t))
def insA (f : Fa) : List Fa → List Fa
  | [] => [f]
  | g :: r => if f.name < g.name then f :: g :: r else if f.name = g.name then f :: r else g :: insA f r
abbrev SortA (L : List Fa) : Prop := L.Pairwise (fun f g => f.name < g.name)
def usedA (L : List Fa) : Nat := (L.map (fun f => f.l.length)).sum
theorem getA_cons (g : Fa) (r : List Fa) (t : List UInt8) : getA (g :: r) t = if g.name = t then some g else getA r t := by
  unfold getA
  rw [List.find?_cons]
  by_cases h : g.name = t
  · have h1 : (g.name == t) = true := by simpa using h
    rw [h1, if_pos h]
  · have h1 : (g.name == t) = false := by simpa using h
    rw [h1, if_neg h]
theorem get_ab (t : List UInt8) : ∀ L : List Fi, getA (L.map Fi.ab) t = (getN L t).map Fi.ab
  | [] => rfl
  | g :: r => by
    rw [List.map_cons, getA_cons, getN_cons, get_ab t r]
    show (if g.name = t then _ else _) = _
    split <;> rfl
theorem ins_ab (f : Fi) : ∀ L : List Fi, (insN f L).map Fi.ab = insA f.ab (L.map Fi.ab)
  | [] => rfl
  | g :: r => by
    rw [List.map_cons]
    unfold insN insA
    show List.map Fi.ab (if f.name < g.name then _ else if f.name = g.name then _ else _) = if f.name < g.name then _ else if f.name = g.name then _ else _
    split
    · rfl
    · split
      · rfl
      · rw [List.map_cons, ins_ab f r]
theorem del_ab (t : List UInt8) : ∀ L : List Fi, (delN L t).map Fi.ab = delA (L.map Fi.ab) t
  | [] => rfl
  | g :: r => by
    have ih := del_ab t r
    unfold delN delA at ih ⊢
    rw [List.map_cons, List.filter_cons, List.filter_cons]
    show List.map Fi.ab (if (!(g.name == t)) = true then _ else _) = if (!(g.name == t)) = true then _ else _
    split
    · rw [List.map_cons, ih]
    · exact ih
theorem used_ab (L : List Fi) : usedA (L.map Fi.ab) = usedN L := by
  unfold usedA usedN
  rw [List.map_map]
  rfl
theorem sort_ab (L : List Fi) : SortA (L.map Fi.ab) ↔ SortN L := by
  unfold SortA SortN
  rw [List.pairwise_map]
  exact Iff.rfl
def barA (A : Ak) (Ls : List (List UInt8)) : Nat := if A.off = true then 3 else if Ls.all rightS = true then 0 else 50
def findA (A : Ak) (nm : List UInt8) : Nat := if barA A [nm] ≠ 0 then barA A [nm] else if (getA A.fs nm).isSome = true then 0 else 51
theorem bar_ab (D : Dk) (Ls : List (List UInt8)) : barA D.ab Ls = barE D Ls := rfl
theorem find_ab (D : Dk) (nm : List UInt8) : findA D.ab nm = findE D nm := by
  unfold findA findE
  rw [bar_ab]
  show (if _ then _ else if (getA (D.fs.map Fi.ab) nm).isSome = true then 0 else 51) = _
  rw [get_ab, Option.isSome_map]
def stepA (A : Ak) : Ak := if A.fuse = 1 then { A with off := true, fuse := 0 } else { A with off := false, fuse := (if 1 ≤ A.fuse then A.fuse - 1 else 0), steps := wrap64 (A.steps + 1) }
def stepAE (A : Ak) : Nat := if A.fuse = 1 then 3 else 0
theorem step_ab (D : Dk) : stepA D.ab = (stepD D).ab := by
  unfold stepA stepD
  show (if D.fuse = 1 then _ else _) = _
  split <;> rfl
theorem stepE_ab (D : Dk) : stepAE D.ab = stepE D := rfl
/-- a disk with other files -/
abbrev Ak.put (A : Ak) (L : List Fa) : Ak := { A with fs := L }
/-- a call that gives one name of a file that must be there; X: what it makes of the files, behind a step -/
def createA (A : Ak) (nm : List UInt8) : Ak × Nat :=
  if barA A [nm] ≠ 0 then (A, barA A [nm]) else if (getA A.fs nm).isSome = true then (A, 52) else if 700 ≤ A.fs.length then (A, 53) else if A.fuse = 1 then (stepA A, 3) else ((stepA A).put (insA ⟨nm, [], 0⟩ A.fs), 0)
def stepTo (A : Ak) (L : List Fa) : Ak × Nat := if A.fuse = 1 then (stepA A, 3) else ((stepA A).put L, 0)
/-- 'find', and then what X says of the file that is there -/
def foundA {R : Type} (A : Ak) (nm : List UInt8) (bad : Nat → R) (X : Fa → R) : R :=
  match getA A.fs nm with
  | some f => if barA A [nm] ≠ 0 then bad (barA A [nm]) else X f
  | none => bad (findA A nm)
def appendA (A : Ak) (nm : List UInt8) (l : List Nat) : Ak × Nat :=
  foundA A nm (fun e => (A, e)) fun f => if A.room - (usedA A.fs : Nat) < (l.length : Int) then (A, 54) else ((stepA A).put (insA ⟨f.name, f.l ++ l, f.s⟩ A.fs), stepAE A)
def syncA (A : Ak) (nm : List UInt8) : Ak × Nat :=
  foundA A nm (fun e => (A, e)) fun f => stepTo A (insA ⟨f.name, f.l, f.l.length⟩ A.fs)
def renameA (A : Ak) (nm to : List UInt8) : Ak × Nat :=
  if barA A [nm, to] ≠ 0 then (A, barA A [nm, to]) else foundA A nm (fun e => (A, e)) fun f => stepTo A (insA ⟨to, f.l, f.s⟩ (delA A.fs nm))
def removeA (A : Ak) (nm : List UInt8) : Ak × Nat :=
  foundA A nm (fun e => (A, e)) fun f => stepTo A (delA A.fs nm)
def cutA (A : Ak) (nm : List UInt8) (n : Int) : Ak × Nat :=
  foundA A nm (fun e => (A, e)) fun f => if n < 0 ∨ (f.l.length : Int) < n then (A, 1) else stepTo A (insA ⟨f.name, f.l.take n.toNat, min f.s n.toNat⟩ A.fs)
def readA (A : Ak) (nm : List UInt8) (i n : Int) : Ak × List Nat × Nat :=
  foundA A nm (fun e => (A, [], e)) fun f => if i < 0 ∨ n < 0 ∨ (f.l.length : Int) < i ∨ (f.l.length : Int) - i < n then (A, [], 1) else ({ A with read := wrap64 (A.read + n) }, (f.l.drop i.toNat).take n.toNat, 0)
def sizeA (A : Ak) (nm : List UInt8) : Nat × Nat := foundA A nm (fun e => (0, e)) fun f => (f.l.length, 0)
def fuseA (A : Ak) (n : Int) : Ak := { A with fuse := if n < 0 then 0 else n }
/-- how many of a file's bytes outlive a loss of power -/
def keepN (f : Fa) (k : Int) : Nat := f.s + (if k < 0 then 0 else min k.toNat (f.l.length - f.s))
def lostA (f : Fa) (k : Int) : Fa := ⟨f.name, f.l.take (keepN f k), keepN f k⟩
def loseA : List Fa → List Int → List Fa
  | [], _ => []
  | f :: r, [] => lostA f 0 :: loseA r []
  | f :: r, k :: ks => lostA f k :: loseA r ks
def restartA (A : Ak) (ks : List Int) : Ak := { A with off := false, fuse := 0, fs := loseA A.fs ks }
/-- what a disk's numbers keep to -/
structure AkOk (A : Ak) : Prop where
  room : 0 ≤ A.room ∧ A.room ≤ 67108864
  used : (usedA A.fs : Int) ≤ A.room
  fuse : 0 ≤ A.fuse ∧ A.fuse ≤ 9223372036854775807
  steps : -9223372036854775808 ≤ A.steps ∧ A.steps ≤ 9223372036854775807
  read : -9223372036854775808 ≤ A.read ∧ A.read ≤ 9223372036854775807
  few : A.fs.length ≤ 700
  name : ∀ f ∈ A.fs, f.name.length ≤ 24
  safe : ∀ f ∈ A.fs, f.s ≤ f.l.length
  sort : SortA A.fs
theorem AkOk.dk {D : Dk} (h : AkOk D.ab) : DkOk D :=
  ⟨h.room, by have := h.used; rw [show usedA D.ab.fs = usedN D.fs from used_ab D.fs] at this; exact this, h.fuse, h.steps, h.read, by have := h.few; rw [show D.ab.fs.length = D.fs.length from List.length_map _] at this; exact this,
    fun f hf => h.name f.ab (List.mem_map_of_mem hf), fun f hf => h.safe f.ab (List.mem_map_of_mem hf)⟩
theorem getA_mem {L : List Fa} {t : List UInt8} {f : Fa} (h : getA L t = some f) : f ∈ L ∧ f.name = t := by
  unfold getA at h
  exact ⟨List.mem_of_find?_eq_some h, by simpa using List.find?_some h⟩
theorem getA_none {L : List Fa} {t : List UInt8} : getA L t = none ↔ ∀ f ∈ L, f.name ≠ t := by
  unfold getA
  rw [List.find?_eq_none]
  simp
theorem mem_insA {f g : Fa} : ∀ {L : List Fa}, g ∈ insA f L → g = f ∨ g ∈ L
  | [], h => by unfold insA at h; exact .inl (List.mem_singleton.1 h)
  | x :: r, h => by
    unfold insA at h
    split at h
    · rcases List.mem_cons.1 h with h1 | h1
      · exact .inl h1
      · exact .inr h1
    · split at h
      · rcases List.mem_cons.1 h with h1 | h1
        · exact .inl h1
        · exact .inr (List.mem_cons_of_mem _ h1)
      · rcases List.mem_cons.1 h with h1 | h1
        · exact .inr (by rw [h1]; exact List.mem_cons_self ..)
        · rcases mem_insA h1 with h2 | h2
          · exact .inl h2
          · exact .inr (List.mem_cons_of_mem _ h2)
theorem insA_sorted (f : Fa) : ∀ {L : List Fa}, SortA L → SortA (insA f L)
  | [], _ => by unfold insA; exact List.pairwise_singleton _ _
  | g :: r, h => by
    obtain ⟨h1, h2⟩ := List.pairwise_cons.1 h
    unfold insA
    by_cases e1 : f.name < g.name
    · rw [if_pos e1]
      exact List.pairwise_cons.2 ⟨fun x hx => by rcases List.mem_cons.1 hx with h3 | h3; rw [h3]; exact e1; exact lt_tr e1 (h1 x h3), h⟩
    · rw [if_neg e1]
      by_cases e2 : f.name = g.name
      · rw [if_pos e2]
        exact List.pairwise_cons.2 ⟨fun x hx => by rw [e2]; exact h1 x hx, h2⟩
      · rw [if_neg e2]
        refine List.pairwise_cons.2 ⟨fun x hx => ?_, insA_sorted f h2⟩
        rcases mem_insA hx with h3 | h3
        · rw [h3]; exact lt_tot e1 e2
        · exact h1 x h3
theorem usedA_cons (f : Fa) (r : List Fa) : usedA (f :: r) = f.l.length + usedA r := by unfold usedA; simp
/-- the room that a file under that name has now -/
def oldA (L : List Fa) (t : List UInt8) : Nat := match getA L t with | some f => f.l.length | none => 0
theorem oldA_none {L : List Fa} {t : List UInt8} (h : getA L t = none) : oldA L t = 0 := by unfold oldA; rw [h]
theorem oldA_some {L : List Fa} {t : List UInt8} {f : Fa} (h : getA L t = some f) : oldA L t = f.l.length := by unfold oldA; rw [h]
theorem getA_low {f : Fa} {L : List Fa} (h : ∀ g ∈ L, f.name < g.name) : getA L f.name = none :=
  getA_none.2 (fun g hg e => by have := h g hg; rw [e] at this; exact lt_irr _ this)
theorem usedA_ins (f : Fa) : ∀ {L : List Fa}, SortA L → usedA (insA f L) + oldA L f.name = usedA L + f.l.length
  | [], _ => by unfold insA; rw [oldA_none rfl, usedA_cons]; unfold usedA; simp
  | g :: r, h => by
    obtain ⟨h1, h2⟩ := List.pairwise_cons.1 h
    unfold insA
    by_cases e1 : f.name < g.name
    · have hn : getA (g :: r) f.name = none := getA_low (fun x hx => by rcases List.mem_cons.1 hx with h3 | h3; rw [h3]; exact e1; exact lt_tr e1 (h1 x h3))
      rw [if_pos e1, oldA_none hn, usedA_cons]; omega
    · rw [if_neg e1]
      by_cases e2 : f.name = g.name
      · have hg : getA (g :: r) f.name = some g := by rw [getA_cons, if_pos e2.symm]
        rw [if_pos e2, oldA_some hg, usedA_cons, usedA_cons]; omega
      · have hg : oldA (g :: r) f.name = oldA r f.name := by unfold oldA; rw [getA_cons, if_neg (fun e => e2 e.symm)]
        have ih := usedA_ins f h2
        rw [if_neg e2, hg, usedA_cons, usedA_cons]; omega
theorem usedA_del (t : List UInt8) : ∀ {L : List Fa}, SortA L → usedA (delA L t) + oldA L t = usedA L
  | [], _ => rfl
  | g :: r, h => by
    obtain ⟨h1, h2⟩ := List.pairwise_cons.1 h
    have ih := usedA_del t h2
    by_cases e : g.name = t
    · have hg : getA (g :: r) t = some g := by rw [getA_cons, if_pos e]
      have hn : getA r t = none := by rw [← e]; exact getA_low h1
      have hd : delA (g :: r) t = delA r t := by unfold delA; rw [List.filter_cons, if_neg (by simp [e])]
      rw [oldA_none hn] at ih
      rw [oldA_some hg, hd, usedA_cons]; omega
    · have hg : oldA (g :: r) t = oldA r t := by unfold oldA; rw [getA_cons, if_neg e]
      have hd : delA (g :: r) t = g :: delA r t := by unfold delA; rw [List.filter_cons, if_pos (by simp [e])]
      rw [hg, hd, usedA_cons, usedA_cons]; omega
theorem lenA_ins (f : Fa) : ∀ {L : List Fa}, (insA f L).length ≤ L.length + 1
  | [] => by unfold insA; simp
  | g :: r => by
    have := lenA_ins f (L := r)
    unfold insA
    split
    · simp
    · split
      · simp
      · simp; omega
theorem lenA_ins_old {f : Fa} : ∀ {L : List Fa}, SortA L → (getA L f.name).isSome = true → (insA f L).length = L.length
  | [], _, h => by cases h
  | g :: r, hs, h => by
    obtain ⟨h1, h2⟩ := List.pairwise_cons.1 hs
    unfold insA
    by_cases e1 : f.name < g.name
    · have hn : getA (g :: r) f.name = none := getA_low (fun x hx => by rcases List.mem_cons.1 hx with h3 | h3; rw [h3]; exact e1; exact lt_tr e1 (h1 x h3))
      rw [hn] at h; cases h
    · rw [if_neg e1]
      by_cases e2 : f.name = g.name
      · rw [if_pos e2]; rfl
      · rw [getA_cons, if_neg (fun e => e2 e.symm)] at h
        rw [if_neg e2, List.length_cons, List.length_cons, lenA_ins_old h2 h]
theorem lenA_del_old {t : List UInt8} : ∀ {L : List Fa}, (getA L t).isSome = true → (delA L t).length + 1 ≤ L.length
  | [], h => by cases h
  | g :: r, h => by
    by_cases e : g.name = t
    · have hd : delA (g :: r) t = delA r t := by unfold delA; rw [List.filter_cons, if_neg (by simp [e])]
      have : (delA r t).length ≤ r.length := by unfold delA; exact List.length_filter_le ..
      rw [hd, List.length_cons]; omega
    · have hd : delA (g :: r) t = g :: delA r t := by unfold delA; rw [List.filter_cons, if_pos (by simp [e])]
      rw [getA_cons, if_neg e] at h
      have := lenA_del_old h
      rw [hd, List.length_cons, List.length_cons]; omega
theorem delA_sorted {t : List UInt8} {L : List Fa} (h : SortA L) : SortA (delA L t) := h.sublist List.filter_sublist
theorem delA_mem {t : List UInt8} {L : List Fa} {g : Fa} (h : g ∈ delA L t) : g ∈ L ∧ g.name ≠ t := by
  unfold delA at h
  have := List.mem_filter.1 h
  exact ⟨this.1, by simpa using this.2⟩
theorem oldA_get_le (L : List Fa) (t : List UInt8) : oldA L t ≤ usedA L := by
  induction L with
  | nil => exact Nat.zero_le _
  | cons g r ih =>
    rw [usedA_cons]
    by_cases e : g.name = t
    · rw [oldA_some (by rw [getA_cons, if_pos e])]; omega
    · have hg : oldA (g :: r) t = oldA r t := by unfold oldA; rw [getA_cons, if_neg e]
      rw [hg]; omega
theorem wrap_rg (x : Int) : -9223372036854775808 ≤ wrap64 x ∧ wrap64 x ≤ 9223372036854775807 := by unfold wrap64; omega
theorem stepA_ok {A : Ak} (h : AkOk A) : AkOk (stepA A) := by
  have hf := h.fuse
  have hw := wrap_rg (A.steps + 1)
  unfold stepA
  split
  · exact ⟨h.room, h.used, ⟨by simp, by simp⟩, h.steps, h.read, h.few, h.name, h.safe, h.sort⟩
  · exact ⟨h.room, h.used, ⟨by simp only; split <;> omega, by simp only; split <;> omega⟩, hw, h.read, h.few, h.name, h.safe, h.sort⟩
theorem stepA_fs (A : Ak) : (stepA A).fs = A.fs := by unfold stepA; split <;> rfl
theorem stepA_room (A : Ak) : (stepA A).room = A.room := by unfold stepA; split <;> rfl
theorem AkOk.put {A : Ak} (h : AkOk A) {L : List Fa} (hu : (usedA L : Int) ≤ A.room) (hf : L.length ≤ 700) (hn : ∀ f ∈ L, f.name.length ≤ 24) (hs : ∀ f ∈ L, f.s ≤ f.l.length) (ho : SortA L) : AkOk (A.put L) := ⟨h.room, hu, h.fuse, h.steps, h.read, hf, hn, hs, ho⟩
theorem AkOk.ins {A : Ak} (h : AkOk A) {f : Fa} (hn : f.name.length ≤ 24) (hs : f.s ≤ f.l.length) (hu : (usedA A.fs : Int) + f.l.length ≤ A.room + oldA A.fs f.name) (hl : (insA f A.fs).length ≤ 700) : AkOk (A.put (insA f A.fs)) := by
  refine h.put ?_ hl (fun g hg => ?_) (fun g hg => ?_) (insA_sorted f h.sort)
  · have := usedA_ins f h.sort; omega
  · rcases mem_insA hg with h1 | h1
    · rw [h1]; exact hn
    · exact h.name g h1
  · rcases mem_insA hg with h1 | h1
    · rw [h1]; exact hs
    · exact h.safe g h1
theorem AkOk.step_ins {A : Ak} (h : AkOk A) {f : Fa} (hn : f.name.length ≤ 24) (hs : f.s ≤ f.l.length) (hu : (usedA A.fs : Int) + f.l.length ≤ A.room + oldA A.fs f.name) (hl : (insA f A.fs).length ≤ 700) : AkOk ((stepA A).put (insA f A.fs)) := by
  have h1 := (stepA_ok h).ins (f := f) hn hs (by rw [stepA_fs, stepA_room]; exact hu) (by rw [stepA_fs]; exact hl)
  rw [stepA_fs] at h1
  exact h1
theorem AkOk.del {A : Ak} (h : AkOk A) (t : List UInt8) : AkOk (A.put (delA A.fs t)) := by
  refine h.put ?_ ?_ (fun g hg => h.name g (delA_mem hg).1) (fun g hg => h.safe g (delA_mem hg).1) (delA_sorted h.sort)
  · have := usedA_del t h.sort; have := h.used; omega
  · have : (delA A.fs t).length ≤ A.fs.length := by unfold delA; exact List.length_filter_le ..
    have := h.few; omega
theorem AkOk.step_del {A : Ak} (h : AkOk A) (t : List UInt8) : AkOk ((stepA A).put (delA A.fs t)) := by
  have h1 := (stepA_ok h).del t
  rw [stepA_fs] at h1
  exact h1
theorem right_len {nm : List UInt8} (h : rightS nm = true) : nm.length ≤ 24 := by
  unfold rightS at h
  exact (of_decide_eq_true h).2.1
theorem bar_right {A : Ak} {Ls : List (List UInt8)} (h : barA A Ls = 0) : A.off = false ∧ ∀ x ∈ Ls, rightS x = true := by
  unfold barA at h
  split at h
  · cases h
  · rename_i h1
    split at h
    · rename_i h2
      exact ⟨by simpa using h1, List.all_eq_true.1 h2⟩
    · cases h
end Go.Proofs.YtnfkdgjgglnniaaDoor
namespace Go.Proofs.YtnfkdgjgglnniaaDoor
open Go.ChangeShapes Go.WideShapes Go.ChangeAt Go.RowKit
set_option linter.unusedVariables false
set_option linter.unusedSimpArgs false
theorem DkAt.ob {w : World} {base q b : Nat} {D : Dk} (h : DkAt w base q b D) {k : Nat} (hk : Ob q b D.fs k) : base ≤ k ∧ k < w.heap.size := by
  rcases hk with h1 | h1 | ⟨f, hf, h1⟩
  · rw [h1]; exact ⟨h.lo.1, h.lt.1⟩
  · rw [h1]; exact ⟨h.lo.2, h.lt.2⟩
  · exact (h.dat f hf).lt h1
theorem DkAt.same {w w' : World} {base q b : Nat} {D : Dk} (h : DkAt w base q b D) (hs : ∀ k, Ob q b D.fs k → w'.heap[k]? = w.heap[k]?) : DkAt w' base q b D := by
  obtain ⟨M, hm, hr⟩ := h.map
  exact ⟨(hs q (.inl rfl)).trans h.blk, ⟨M, owns_sameS hm (hs b (.inr (.inl rfl))), hr⟩, h.srt, fun f hf => (h.dat f hf).moved (fun k _ _ ho => hs k (.inr (.inr ⟨f, hf, ho⟩))), h.dist, h.lo⟩
/-- the disk's own blocks were there at w: what is written into later ones leaves it -/
theorem DkAt.box {w x y : World} {base q b : Nat} {D D4 : Dk} (h : DkAt w base q b D) (h4 : DkAt x base q b D4) (hf : D4.fs = D.fs) (hx : ∀ j, j < w.heap.size → y.heap[j]? = x.heap[j]?) : DkAt y base q b D4 :=
  h4.same (fun k hk => hx k (h.ob (by rw [hf] at hk; exact hk)).2)
theorem Chg.low {q b : Nat} {L L1 : List Fi} {w x y : World} (h : Chg q b L L1 w x) (hb : Below w.heap.size x y) : Chg q b L L1 w y :=
  ⟨hb.os.trans h.os, hb.tape.trans h.tape, hb.output.trans h.output, Nat.le_trans h.size hb.size, fun k hk hn => (hb.block k hk).trans (h.block k hk hn), h.own⟩
theorem Chg.to_below {w x y : World} {base q b : Nat} {D : Dk} {L : List Fi} (h : DkAt x base q b D) (hc : Chg q b D.fs L x y) (hb : Below base w x) (hs : base ≤ x.heap.size) : Below base w y :=
  hb.trans ⟨hc.os, hc.tape, hc.output, hc.size, fun k hk => hc.block k (by omega) (fun e => by have := (h.ob e).1; omega)⟩
/-- behind a call the disk A lies there; nothing has turned but its own blocks -/
def To (base q b : Nat) (L : List Fi) (A : Ak) (w w' : World) : Prop := ∃ D', DkAt w' base q b D' ∧ D'.ab = A ∧ Chg q b L D'.fs w w'
theorem To.of_below {base q b : Nat} {D : Dk} {w w' : World} (h : DkAt w base q b D) (hb : Below w.heap.size w w') : To base q b D.fs D.ab w w' := ⟨D, h.keep hb, rfl, .of_below hb⟩
theorem To.mk {base q b : Nat} {D D' : Dk} {L : List Fi} {A : Ak} {w w' : World} (h : DkAt w' base q b D') (hc : Chg q b L D'.fs w w') (e : D'.ab = A) : To base q b L A w w' := ⟨D', h, e, hc⟩
theorem put_ab (D : Dk) (f : Fi) : (putD (stepD D) f).ab = (stepA D.ab).put (insA f.ab D.ab.fs) := by
  rw [step_ab]
  show Ak.mk _ _ _ _ _ ((insN f (stepD D).fs).map Fi.ab) = _
  rw [ins_ab, stepD_fs]
  rfl
theorem some_ab {D : Dk} {nm : List UInt8} {f : Fi} (h : getN D.fs nm = some f) : getA D.ab.fs nm = some f.ab := by
  show getA (D.fs.map Fi.ab) nm = _
  rw [get_ab, h]; rfl
theorem none_ab {D : Dk} {nm : List UInt8} (h : getN D.fs nm = none) : getA D.ab.fs nm = none := by
  show getA (D.fs.map Fi.ab) nm = _
  rw [get_ab, h]; rfl
theorem found_ok {R : Type} {D : Dk} {nm : List UInt8} {f : Fi} (h : getN D.fs nm = some f) (hb : barE D [nm] = 0) (bad : Nat → R) (X : Fa → R) : foundA D.ab nm bad X = X f.ab := by
  unfold foundA
  rw [some_ab h]
  simp only
  rw [bar_ab, if_neg (by omega)]
theorem found_no {R : Type} {D : Dk} {nm : List UInt8} (h : barE D [nm] ≠ 0 ∨ getN D.fs nm = none) (bad : Nat → R) (X : Fa → R) : foundA D.ab nm bad X = bad (findE D nm) ∧ findE D nm ≠ 0 := by
  unfold foundA
  rcases h with h | h
  · have e : findE D nm = barE D [nm] := if_pos h
    cases hg : getN D.fs nm with
    | some f => rw [some_ab hg]; simp only; rw [bar_ab, if_pos h, e]; exact ⟨rfl, h⟩
    | none => rw [none_ab hg]; simp only; rw [find_ab, e]; exact ⟨rfl, h⟩
  · rw [none_ab h]
    simp only
    rw [find_ab]
    refine ⟨rfl, ?_⟩
    unfold findE
    split
    · assumption
    · rw [h]; simp
theorem find_err (w : World) (base q b : Nat) (D : Dk) (h : DkAt w base q b D) (nm : List UInt8) (hl : nm.length ≤ 281474976710656) (hE : barE D [nm] ≠ 0 ∨ getN D.fs nm = none) :
    Calls Tryd.prog 39 #[.pointer (some ⟨q, 0, none⟩), .string (bs nm)] w fun r w' => r = .returned (.tuple #[fiV (.slice none 0 0) 0, .int .i64 (findE D nm : Nat)]) ∧ Below w.heap.size w w' := by
  by_cases h1 : barE D [nm] ≠ 0
  · rw [show findE D nm = barE D [nm] from if_pos h1]
    exact find_bar w base q b D h nm hl h1
  · have h2 : getN D.fs nm = none := hE.resolve_left h1
    have h3 : barE D [nm] = 0 := by omega
    rw [show findE D nm = 51 from by unfold findE; rw [if_neg h1, h2]; rfl]
    exact find_none w base q b D h nm hl h3 h2
end Go.Proofs.YtnfkdgjgglnniaaDoor
