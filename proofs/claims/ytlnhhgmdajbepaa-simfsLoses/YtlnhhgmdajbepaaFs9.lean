/- simfs: Append. -/
import Derived.Test.YtlnhhgmdajbepaaFs8
namespace Go.Proofs.Ytlnhhgmdajbepaa
open Go.ChangeShapes Go.WideShapes Go.ChangeAt Go.RowKit
set_option linter.unusedVariables false
set_option linter.unusedSimpArgs false
theorem sort_eq {L : List Fi} (hs : SortN L) {f g : Fi} (hf : f ∈ L) (hg : g ∈ L) (e : g.name = f.name) : g = f := by
  induction L with
  | nil => cases hf
  | cons x r ih =>
    obtain ⟨h1, h2⟩ := List.pairwise_cons.1 hs
    rcases List.mem_cons.1 hf with a | a <;> rcases List.mem_cons.1 hg with c | c
    · rw [a, c]
    · have := h1 g c; rw [← a, e] at this; exact absurd this (lt_irr _)
    · have := h1 f a; rw [← c, e] at this; exact absurd this (lt_irr _)
    · exact ih h2 a c
theorem dist_ne {L : List Fi} (hd : OwnDist L) {f g : Fi} (hf : f ∈ L) (hg : g ∈ L) (e : g.name ≠ f.name) : ∀ k, f.v.ownBlock = some k → g.v.ownBlock ≠ some k := by
  induction L with
  | nil => cases hf
  | cons x r ih =>
    obtain ⟨h1, h2⟩ := List.pairwise_cons.1 hd
    intro k hk hk2
    rcases List.mem_cons.1 hf with a | a <;> rcases List.mem_cons.1 hg with c | c
    · exact e (by rw [a, c])
    · rw [a] at hk; exact h1 g c k hk hk2
    · rw [c] at hk2; exact h1 f a k hk2 hk
    · exact ih h2 a c k hk hk2
theorem app_at {w x4 x5 : World} {base q b : Nat} {D : Dk} {f : Fi} {l : List Nat} {v' : Value} {k : Nat} (h : DkAt w base q b D) (hf : f ∈ D.fs) (hb4 : Below w.heap.size w x4) (hk : w.heap.size ≤ k) (hF4 : FiAt x4 k f.v f.s) (hd : DatAt x5 base v' (f.l ++ l)) (ho : DatAt x5 base f.v f.l) (hg : x4.grownBy x5 f.v.ownBlock) (hn : ∀ g, v'.ownBlock = some g → f.v.ownBlock = some g ∨ x4.heap.size ≤ g) :
    FiAt x5 k f.v f.s ∧ FiAt (x5.setCell ⟨k, 0, none⟩ v') k v' f.s ∧ DkAt (x5.setCell ⟨k, 0, none⟩ v') base q b D ∧ DatAt (x5.setCell ⟨k, 0, none⟩ v') base v' (f.l ++ l) ∧ (∀ g ∈ D.fs, g.name ≠ f.name → ∀ j, v'.ownBlock = some j → g.v.ownBlock ≠ some j) ∧ Chg q b D.fs D.fs w (x5.setCell ⟨k, 0, none⟩ v') ∧ (∀ j, v'.ownBlock = some j → Ob q b D.fs j ∨ w.heap.size ≤ j) := by
  have hk4 : k < x4.heap.size := lt_of_heap hF4
  have hfb : ∀ j, f.v.ownBlock = some j → j < w.heap.size := fun j hj => ((h.dat f hf).lt hj).2
  have h5 : FiAt x5 k f.v f.s := (hg.block k hk4 (fun e => by have := hfb k e.symm; omega)).trans hF4
  have hoth : ∀ j, j ≠ k → (x5.setCell ⟨k, 0, none⟩ v').heap[j]? = x5.heap[j]? := fun j hj => heap_setCell_other x5 ⟨k, 0, none⟩ j v' hj
  have hold : ∀ j, j < w.heap.size → f.v.ownBlock ≠ some j → (x5.setCell ⟨k, 0, none⟩ v').heap[j]? = w.heap[j]? := fun j hj hne =>
    (hoth j (by omega)).trans ((hg.block j (Nat.lt_of_lt_of_le hj hb4.size) (fun e => hne e.symm)).trans (hb4.block j hj))
  have hne2 := h.dat_ne (h.dat f hf)
  have hlt := h.lt
  refine ⟨h5, ?_, ⟨(hold q hlt.1 (fun e => (hne2 q e).1 rfl)).trans h.blk, ?_, h.srt, fun g hgm => ?_, h.dist, h.lo⟩, ?_, fun g hgm hnm j hj hgj => ?_, ⟨?_, ?_, ?_, ?_, fun j hj hnb => ?_, fun j hj => .inl hj⟩, fun j hj => ?_⟩
  · unfold FiAt
    rw [heap_setCell_same x5 k 0 _ _ v' h5]
    rfl
  · obtain ⟨M, hm, hr⟩ := h.map
    exact ⟨M, owns_sameS hm (hold b hlt.2 (fun e => (hne2 b e).2 rfl)), hr⟩
  · by_cases e : g.name = f.name
    · rw [sort_eq h.srt hf hgm e]
      exact ho.moved (fun j _ _ hj => hoth j (by have := hfb j hj; omega))
    · refine (h.dat g hgm).moved (fun j _ hj hjo => hold j hj (fun e2 => dist_ne h.dist hf hgm e j e2 hjo))
  · refine hd.moved (fun j _ _ hj => hoth j ?_)
    rcases hn j hj with h1 | h1
    · have := hfb j h1; omega
    · omega
  · rcases hn j hj with h1 | h1
    · exact dist_ne h.dist hf hgm hnm j h1 hgj
    · have h2 := ((h.dat g hgm).lt hgj).2
      have := hb4.size
      omega
  · exact hg.os.trans hb4.os
  · exact hg.tape.trans hb4.tape
  · exact hg.output.trans hb4.output
  · have h1 := hb4.size
    have h2 := hg.size
    simp [World.setCell]
    omega
  · exact hold j hj (fun e => hnb (.inr (.inr ⟨f, hf, e⟩)))
  · rcases hn j hj with h1 | h1
    · exact .inl (.inr (.inr ⟨f, hf, h1⟩))
    · exact .inr (Nat.le_trans hb4.size h1)
set_option maxRecDepth 100000 in
set_option maxHeartbeats 2000000 in
theorem append_full (w : World) (base q b : Nat) (D : Dk) (h : DkAt w base q b D) (ho : DkOk D) (nm : List UInt8) (hl : nm.length ≤ 281474976710656) (hE : barE D [nm] = 0) (f : Fi) (hN : getN D.fs nm = some f) (A : Option Addr) (n C : Nat) (hn : (n : Int) ≤ 281474976710656) (hfull : D.room - (usedN D.fs : Nat) < (n : Int)) :
    Calls Try.prog 28 #[.pointer (some ⟨q, 0, none⟩), .string (bs nm), .slice A n C] w fun r w' => r = .returned (.int .i64 54) ∧ Below w.heap.size w w' := by
  have hone : f.v.oneCell' = true := by obtain ⟨_, _, _, _, _, _, _, h1⟩ := (h.dat f (getN_mem hN).1).bytes; exact h1
  obtain ⟨V, hV⟩ : ∃ V, f.v = V := ⟨_, rfl⟩
  obtain ⟨S, hS⟩ : ∃ S : Int, (f.s : Int) = S := ⟨_, rfl⟩
  have HVS : Hid (FiV f = fiV V S) := by show _ = _; rw [← hV, ← hS]
  obtain ⟨F, hF⟩ : ∃ F : Int, D.room - (usedN D.fs : Nat) = F := ⟨_, rfl⟩
  have hF0 : 0 ≤ F ∧ F ≤ 67108864 := by have := ho.room; have := ho.used; omega
  obtain ⟨hF1, hF2⟩ := hF0
  rw [hF] at hfull
  rw [hV] at hone
  have hnn : (0 : Int) ≤ (n : Int) := by omega
  have HF : Hid (D.room - (usedN D.fs : Nat) = F) := hF
  have HONE : Hid (V.oneCell' = true) := hone
  have HD : Hid (DkAt w base q b D) := h
  have HO : Hid (DkOk D) := ho
  have HE : Hid (barE D [nm] = 0) := hE
  have HN : Hid (getN D.fs nm = some f) := hN
  have HL : Hid (nm.length ≤ 281474976710656) := hl
  clear h ho hl hE hN hV hS hF hone
  go_enter Try.func28, Try.ntmps28
  go_wp2_with (first
    | (go_at_call 57; refine (find_ok _ base q b D HD.out nm HL.out HE.out f HN.out).mono ?_; rw [HVS.out]; rintro _ x1 ⟨rfl, hb1⟩; have HB1 : Hid (Below w.heap.size w x1) := hb1; have HF1 : Hid (FiAt (x1.alloc (.cells #[.slice none 0 0, .int .i64 0] 85)) x1.heap.size (.slice none 0 0) 0) := FiAt.new x1 _ _; clear hb1)
    | ((with_reducible refine guard_store 85 ?_); refine wpList_store_fi rfl _ _ rfl rfl HF1.out HONE.out rfl rfl (v2 := V) (s2 := S) ?_; intro x3 hf ho hh hs; have HB3 : Hid (Below w.heap.size w x3) := ho _ _ (HB1.out.alloc HB1.out.size _) HB1.out.size; clear hf ho hh hs)
    | (go_at_call 31; refine (free_any _ base q b D (HD.out.keep HB3.out) HO.out).mono ?_; rw [HF.out]; rintro _ x4 ⟨rfl, hb4⟩; have HB4 : Hid (Below w.heap.size w x4) := HB3.out.trans (hb4.mono HB3.out.size); clear hb4)
    | go_in)
  go_ret
  exact ⟨rfl, HB4.out⟩
/-- a file with bytes behind it -/
abbrev apD (D : Dk) (f : Fi) (v : Value) (l : List Nat) : Dk := stepD (putD D ⟨f.name, v, f.l ++ l, f.s⟩)
set_option maxRecDepth 100000 in
set_option maxHeartbeats 4000000 in
theorem append_ok (w : World) (base q b : Nat) (D : Dk) (h : DkAt w base q b D) (ho : DkOk D) (nm : List UInt8) (hl : nm.length ≤ 281474976710656) (hE : barE D [nm] = 0) (f : Fi) (hN : getN D.fs nm = some f) (A : Option Addr) (n C : Nat) (l : List Nat) (hln : l.length = n) (hB : Bytes w A l) (hnc : n ≤ C) (hA : A = none → C = 0) (hfit : (n : Int) ≤ D.room - (usedN D.fs : Nat)) :
    Calls Try.prog 28 #[.pointer (some ⟨q, 0, none⟩), .string (bs nm), .slice A n C] w fun r w' => r = .returned (.int .i64 (stepE D : Nat)) ∧ ∃ v, DkAt w' base q b (apD D f v l) ∧ Chg q b D.fs (insN ⟨f.name, v, f.l ++ l, f.s⟩ D.fs) w w' := by
  obtain ⟨hfm, hfn⟩ := getN_mem hN
  have hone : f.v.oneCell' = true := by obtain ⟨_, _, _, _, _, _, _, h1⟩ := (h.dat f hfm).bytes; exact h1
  obtain ⟨V, hV⟩ : ∃ V, f.v = V := ⟨_, rfl⟩
  obtain ⟨S, hS⟩ : ∃ S : Int, (f.s : Int) = S := ⟨_, rfl⟩
  have HVS : Hid (FiV f = fiV V S) := by show _ = _; rw [← hV, ← hS]
  obtain ⟨F, hF⟩ : ∃ F : Int, D.room - (usedN D.fs : Nat) = F := ⟨_, rfl⟩
  have hF0 : 0 ≤ F ∧ F ≤ 67108864 := by have := ho.room; have := ho.used; omega
  obtain ⟨hF1, hF2⟩ := hF0
  rw [hF] at hfit
  rw [hV] at hone
  have hnn : (0 : Int) ≤ (n : Int) := by omega
  have HLEN : Hid (f.l.length + n ≤ 70368744177664) := by
    have h1 := usedN_mem hfm
    have h2 := ho.room
    have h3 := ho.used
    show _ ≤ _
    omega
  have HF : Hid (D.room - (usedN D.fs : Nat) = F) := hF
  have HONE : Hid (V.oneCell' = true) := hone
  have HD : Hid (DkAt w base q b D) := h
  have HO : Hid (DkOk D) := ho
  have HE : Hid (barE D [nm] = 0) := hE
  have HN : Hid (getN D.fs nm = some f) := hN
  have HL : Hid (nm.length ≤ 281474976710656) := hl
  have HV : Hid (f.v = V ∧ (f.s : Int) = S ∧ f ∈ D.fs ∧ f.name = nm) := ⟨hV, hS, hfm, hfn⟩
  have HBY : Hid (Bytes w A l ∧ l.length = n ∧ n ≤ C ∧ (A = none → C = 0)) := ⟨hB, hln, hnc, hA⟩
  have HBS : Hid (base ≤ w.heap.size) := Nat.le_trans h.lo.1 (Nat.le_of_lt h.lt.1)
  have HFEW : Hid (D.fs.length < maxLen) := by have := ho.few; show _ < _; unfold maxLen; omega
  have HAPP : Hid (∀ (x4 x5 : World) (v' : Value) (k : Nat), Below w.heap.size w x4 → w.heap.size ≤ k → FiAt x4 k V S → DatAt x5 base v' (f.l ++ l) → DatAt x5 base V f.l → x4.grownBy x5 V.ownBlock → (∀ g, v'.ownBlock = some g → V.ownBlock = some g ∨ x4.heap.size ≤ g) →
    FiAt x5 k V S ∧ FiAt (x5.setCell ⟨k, 0, none⟩ v') k v' S ∧ DkAt (x5.setCell ⟨k, 0, none⟩ v') base q b D ∧ DatAt (x5.setCell ⟨k, 0, none⟩ v') base v' (f.l ++ l) ∧ (∀ g ∈ D.fs, g.name ≠ f.name → ∀ j, v'.ownBlock = some j → g.v.ownBlock ≠ some j) ∧ Chg q b D.fs D.fs w (x5.setCell ⟨k, 0, none⟩ v') ∧ (∀ j, v'.ownBlock = some j → Ob q b D.fs j ∨ w.heap.size ≤ j)) := by
    intro x4 x5 v' k a1 a2 a3 a4 a5 a6 a7
    rw [← hV] at a3 a5 a6 a7 ⊢
    rw [← hS] at a3 ⊢
    exact app_at h hfm a1 a2 a3 a4 a5 a6 a7
  clear h ho hl hE hN hV hS hF hone hB hln hnc hA hfm hfn
  go_enter Try.func28, Try.ntmps28
  go_wp2_with (first
    | (go_at_call 57; refine (find_ok _ base q b D HD.out nm HL.out HE.out f HN.out).mono ?_; rw [HVS.out]; rintro _ x1 ⟨rfl, hb1⟩; have HB1 : Hid (Below w.heap.size w x1) := hb1; have HF1 : Hid (FiAt (x1.alloc (.cells #[.slice none 0 0, .int .i64 0] 85)) x1.heap.size (.slice none 0 0) 0) := FiAt.new x1 _ _; clear hb1)
    | ((with_reducible refine guard_store 85 ?_); refine wpList_store_fi rfl _ _ rfl rfl HF1.out HONE.out rfl rfl (v2 := V) (s2 := S) ?_; intro x3 hf ho hh hs; have HB3 : Hid (Below w.heap.size w x3) := ho _ _ (HB1.out.alloc HB1.out.size _) HB1.out.size; have HF3 : Hid (FiAt x3 x1.heap.size V S) := hf; clear hf ho hh hs)
    | (go_at_call 31; refine (free_any _ base q b D (HD.out.keep HB3.out) HO.out).mono ?_; rw [HF.out]; rintro _ x4 ⟨rfl, hb4⟩; have HB4 : Hid (Below w.heap.size w x4) := HB3.out.trans (hb4.mono HB3.out.size); have HF4 : Hid (FiAt x4 x1.heap.size V S) := HF3.out.keep hb4; have cf4 := HF4.out.cells.1; clear hb4)
    | (at_builtin; refine wpList_append_dat _ rfl _ _ rfl base V f.l l A n C rfl (by rw [← HV.out.1]; exact (HD.out.keep HB4.out).dat f HV.out.2.2.1) rfl HBY.out.2.1 (HBY.out.1.keep HB4.out) HBY.out.2.2.1 HBY.out.2.2.2 HLEN.out (Nat.le_trans HBS.out HB4.out.size) ?_; intro v5 x5 hd5 hd5b hg5 hn5; obtain ⟨a5, c5, hv5, _⟩ := hd5.bytes; (obtain ⟨m5, hm5⟩ : ∃ m5, (f.l ++ l).length = m5 := ⟨_, rfl⟩); rw [hm5] at hv5; subst hv5; clear hm5; have HX5 : Hid (_) := HAPP.out x4 x5 _ x1.heap.size HB4.out HB1.out.size HF4.out hd5 hd5b hg5 hn5; have cf5 := HX5.out.1.cells.1; have zf5 := HX5.out.1.froz 0; have cf6 := HX5.out.2.1.cells.1; clear hd5 hd5b hg5 hn5)
    | ((with_reducible refine guard_load 85 ?_); refine wpList_load_fi rfl _ rfl HX5.out.2.1 rfl ?_)
    | (go_at_call 51; rw [← HV.out.2.1]; refine (put_any _ base q b D HX5.out.2.2.1 HFEW.out nm (.slice a5 m5 c5) (f.l ++ l) f.s HL.out HX5.out.2.2.2.1 (by rw [← HV.out.2.2.2]; exact HX5.out.2.2.2.2.1)).mono ?_; rintro _ x7 ⟨rfl, hd7, hk7⟩; rw [← HV.out.2.2.2] at hd7; have HD7 : Hid (DkAt x7 base q b (putD D ⟨f.name, .slice a5 m5 c5, f.l ++ l, f.s⟩)) := hd7; have HC7 : Hid (Chg q b D.fs (insN ⟨f.name, .slice a5 m5 c5, f.l ++ l, f.s⟩ D.fs) w x7) := HX5.out.2.2.2.2.2.1.put _ hk7 HX5.out.2.2.2.2.2.2; clear hd7 hk7)
    | (go_at_call 56; refine (step_any _ base q b _ HD7.out HO.out.fuse.1 HO.out.fuse.2).mono ?_; rintro _ x8 ⟨rfl, hd8, ho8⟩; have HD8 : Hid (DkAt x8 base q b (apD D f (.slice a5 m5 c5) l)) := hd8; have HC8 : Hid (Chg q b D.fs (insN ⟨f.name, .slice a5 m5 c5, f.l ++ l, f.s⟩ D.fs) w x8) := HC7.out.on ho8; clear hd8 ho8)
    | go_in)
  go_ret
  exact ⟨rfl, _, HD8.out, HC8.out⟩
end Go.Proofs.Ytlnhhgmdajbepaa
