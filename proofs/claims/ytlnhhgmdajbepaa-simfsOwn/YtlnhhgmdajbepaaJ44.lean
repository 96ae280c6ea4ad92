/- Own texts, joined: Mur, Rmt, Sfe. -/
import Derived.Test.YtlnhhgmdajbepaaK42
import Derived.Test.YtlnhhgmdajbepaaK20
import Derived.Test.YtlnhhgmdajbepaaK40
import Derived.Test.YtlnhhgmdajbepaaK19
import Derived.Test.YtlnhhgmdajbepaaK28
import Derived.Test.YtlnhhgmdajbepaaK16
import Derived.Deep.RegionHeld3
namespace Go.Proofs.Ytlnhhgmdajbepaa
open Go.ChangeShapes Go.WideShapes Go.ChangeAt Go.RowKit
set_option linter.unusedVariables false
set_option linter.unusedSimpArgs false
/-- bytes, whatever they are, in a row of one's own -/
def U8 (x : World) (lo hi : Nat) (v : Value) (m : Nat) : Prop := (v = .slice none 0 0 ∧ m = 0) ∨ ∃ g c xs, v = .slice (some ⟨g, 0, none⟩) m c ∧ g < hi ∧ x.ownsRow lo 5 1 v m xs ∧ ∀ u ∈ xs, ∃ z : Int, u = .int .u8 z
theorem U8.of {x : World} {lo : Nat} {v : Value} {l : List Nat} (h : Own x lo v l) : U8 x lo x.heap.size v l.length := by
  have h2 := h.2
  rcases h.2.2 with ⟨h1, h3⟩ | ⟨g, c, cur, h1, h3, h4, _⟩
  · exact .inl ⟨h1, h3⟩
  · exact .inr ⟨g, c, _, h1, lt_of_heap h4, h2, fun u hu => by obtain ⟨n, _, rfl⟩ := List.mem_map.1 hu; exact ⟨_, rfl⟩⟩
theorem U8.keep {x y : World} {lo hi : Nat} {v : Value} {m : Nat} (h : U8 x lo hi v m) (hs : ∀ k, k < hi → y.heap[k]? = x.heap[k]?) : U8 y lo hi v m := by
  rcases h with h | ⟨g, c, xs, h1, h2, h3, h4⟩
  · exact .inl h
  · refine .inr ⟨g, c, xs, h1, h2, ⟨h3.1, ?_⟩, h4⟩
    rcases h3.2 with h5 | ⟨g', cap, cur, h5, h6, h7, h8⟩
    · exact .inl h5
    · have e : g' = g := by rw [h1] at h5; injection h5 with e _ _; injection e with e; injection e with e _ _; exact e.symm
      exact .inr ⟨g', cap, cur, h5, h6, (hs g' (by rw [e]; exact h2)).trans h7, h8⟩
/-- one byte written: any row of bytes stays one -/
theorem U8.set {x : World} {lo hi g j : Nat} {y : Int} {v : Value} {m : Nat} (h : U8 x lo hi v m) : U8 (x.setCell ⟨g, j, none⟩ (.int .u8 y)) lo hi v m := by
  rcases h with h | ⟨g', c, xs, h1, h2, h3, h4⟩
  · exact .inl h
  · subst h1
    by_cases e : g' = g
    · subst e
      refine .inr ⟨g', c, _, rfl, h2, (h3.stored j (.int .u8 y)).1, fun u hu => ?_⟩
      rcases List.mem_or_eq_of_mem_set hu with h5 | rfl
      · exact h4 u h5
      · exact ⟨y, rfl⟩
    · refine .inr ⟨g', c, xs, rfl, h2, ⟨h3.1, ?_⟩, h4⟩
      rcases h3.2 with h5 | ⟨g2, cap, cur, h5, h6, h7, h8⟩
      · exact .inl h5
      · have e2 : g2 = g' := by injection h5 with e _ _; injection e with e; injection e with e _ _; exact e.symm
        exact .inr ⟨g2, cap, cur, h5, h6, (heap_setCell_other x ⟨g, j, none⟩ g2 _ (by rw [e2]; exact e)).trans h7, h8⟩
/-- the state while the bytes of files are written over: x0 the world before -/
structure MuR (x0 wr : World) (lo hi : Nat) (vs : List (Value × Nat)) (v : Value) (n : Nat) (cs : List Value) : Prop where
  os : wr.os = x0.os
  tape : wr.tape = x0.tape
  output : wr.output = x0.output
  size : wr.heap.size = x0.heap.size
  out : ∀ k, (k < lo ∨ hi ≤ k) → wr.heap[k]? = x0.heap[k]?
  row : wr.ownsRow lo 49 3 v n cs
  u8 : ∀ p ∈ vs, U8 wr lo hi p.1 p.2
theorem MuR.step {x0 wr : World} {lo hi : Nat} {vs : List (Value × Nat)} {v : Value} {n : Nat} {cs : List Value} (h : MuR x0 wr lo hi vs v n cs) {a : Option Addr} {m c : Nat} (hp : (.slice a m c, m) ∈ vs) (j : Nat) (hj : j < m) :
    ∃ g z, a = some ⟨g, 0, none⟩ ∧ wr.cell? ⟨g, j, none⟩ = some (.int .u8 z) ∧ wr.frozen? ⟨g, j, none⟩ = false ∧ ∀ y : Int, MuR x0 (wr.setCell ⟨g, j, none⟩ (.int .u8 y)) lo hi vs v n cs := by
  rcases h.u8 _ hp with ⟨_, h1⟩ | ⟨g, c2, xs, h1, h2, h3, h4⟩
  · simp only at h1; omega
  · simp only at h1 h3
    injection h1 with e1 e2 e3
    subst e1
    have hcell := h3.cellAt j (by omega)
    have hl := h3.1
    obtain ⟨x, hxj⟩ : ∃ x, xs[j]? = some x := ⟨_, List.getElem?_eq_getElem (by omega)⟩
    obtain ⟨z, rfl⟩ := h4 x (List.mem_of_getElem? hxj)
    have hlo := (h3.lt g rfl).1
    refine ⟨g, z, rfl, by rw [hcell]; exact hxj, h3.frozenAt j, fun y => ⟨h.os, h.tape, h.output, by simp [World.setCell]; exact h.size, fun k hk => (heap_setCell_other wr ⟨g, j, none⟩ k _ (show k ≠ g by omega)).trans (h.out k hk), ?_, fun p hp => (h.u8 p hp).set⟩⟩
    refine ⟨h.row.1, ?_⟩
    rcases h.row.2 with h5 | ⟨g2, cap, cur, h5, h6, h7, h8⟩
    · exact .inl h5
    · refine .inr ⟨g2, cap, cur, h5, h6, (heap_setCell_other wr ⟨g, j, none⟩ g2 _ (fun e => ?_)).trans h7, h8⟩
      obtain ⟨c9, e9⟩ := row_type h3 rfl
      change g2 = g at e
      rw [e, e9] at h7
      injection h7 with h7
      injection h7 with _ h7
      cases h7
theorem MuR.below {x0 wr w : World} {lo hi : Nat} {vs : List (Value × Nat)} {v : Value} {n : Nat} {cs : List Value} (h : MuR x0 wr lo hi vs v n cs) (hb : Below w.heap.size w x0) (hl : w.heap.size ≤ lo) : Below w.heap.size w wr :=
  ⟨h.os.trans hb.os, h.tape.trans hb.tape, h.output.trans hb.output, by rw [h.size]; exact hb.size, fun k hk => (h.out k (.inl (by omega))).trans (hb.block k hk)⟩
theorem MuR.start {x0 : World} {lo : Nat} {v : Value} {X : List (Fe × Value)} {hi : Nat} (h : ∀ y : World, (∀ k, k < hi → y.heap[k]? = x0.heap[k]?) → OwnFe y lo v X) (hu : ∀ p ∈ X, U8 x0 lo hi p.2 p.1.l.length) : MuR x0 x0 lo hi (X.map (fun p => (p.2, p.1.l.length))) v X.length (fefl X) :=
  ⟨rfl, rfl, rfl, rfl, fun _ _ => rfl, (h x0 (fun _ _ => rfl)).1, fun p hp => by obtain ⟨p2, h1, rfl⟩ := List.mem_map.1 hp; exact hu p2 h1⟩
theorem DF.low {x y : World} {base q b : Nat} {A : Ak} {F : Nat → Prop} (h : DF x base q b A F) (hs : x.heap.size ≤ y.heap.size) (ht : ∀ k, base ≤ k → k < x.heap.size → y.heap[k]? = x.heap[k]?) : DF y base q b A F := by
  obtain ⟨D, h1, h2, h3⟩ := h
  exact ⟨D, h1.same (fun k hk => ht k (h1.ob hk).1 (h1.ob hk).2), h2, fun k hk => ⟨Nat.lt_of_lt_of_le (h3 k hk).1 hs, (h3 k hk).2⟩⟩
/-- the two disks in a world that has kept the blocks from lim on -/
theorem RX.low {x y : World} {base q b kd lim : Nat} {A B : Ak} {G : Nat → Prop} {X : List (Fa × Value)} {a : Option Addr} {n c : Nat} (h : RX x base q b kd A B G X a n c) (hs : x.heap.size ≤ y.heap.size) (hl : lim ≤ base ∧ lim ≤ kd ∧ ∀ k, G k → lim ≤ k) (ht : ∀ k, lim ≤ k → k < x.heap.size → y.heap[k]? = x.heap[k]?) : RX y base q b kd A B G X a n c :=
  ⟨h.df.low hs (fun k h1 h2 => ht k (by omega) h2), h.rf.turn hs (fun k hg => ht k (hl.2.2 k hg) (h.gl k hg)), h.ng, fun k hg => Nat.lt_of_lt_of_le (h.gl k hg) hs, h.len, h.ab, (ht kd hl.2.1 h.rd.lt).trans h.rd⟩
/-- a reference's disk that lay there before the program's was made -/
theorem RX.start2 {x4 x6 : World} {base q b kd : Nat} {A B : Ak} {G : Nat → Prop} {X : List (Fa × Value)} {a : Option Addr} {n c : Nat} (h : DA x6 base q b A) (hb : Below x4.heap.size x4 x6) (hbase : base = x4.heap.size) (hG : ∀ k, G k → k < x4.heap.size) (hng : ¬ G kd) (hF : FlsF G x4 a X) (hl : X.length = n) (hab : X.map Prod.fst = B.fs) (hr : RdAt x4 kd (.slice a n c) B.rn) : RX x6 base q b kd A B G X a n c := by
  refine ⟨?_, hF.keep hb, hng, fun k hk => Nat.lt_of_lt_of_le (hG k hk) hb.size, hl, hab, hr.keep hb⟩
  obtain ⟨D, h1, h2⟩ := h
  refine ⟨D, h1, h2, fun k hk => ?_⟩
  have hk2 : k < x4.heap.size := by
    rcases hk with h3 | h3
    · exact hG k h3
    · rw [h3]; exact hr.lt
  exact ⟨Nat.lt_of_lt_of_le hk2 hb.size, fun ho => by have := (h1.ob ho).1; omega⟩
theorem own_kept3 {x y : World} {base : Nat} {v : Value} {l : List Nat} (h : Own x base v l) (hs : ∀ k, k < x.heap.size → y.heap[k]? = x.heap[k]?) : Own y base v l := by
  refine ⟨h.1, h.2.1, ?_⟩
  rcases h.2.2 with h1 | ⟨g, cap, cur, h1, h2, h3, h4⟩
  · exact .inl h1
  · exact .inr ⟨g, cap, cur, h1, h2, (hs g (lt_of_heap h3)).trans h3, h4⟩
theorem fe_cap {x : World} {base : Nat} {a : Option Addr} {m c : Nat} {X : List (Fe × Value)} (h : OwnFe x base (.slice a m c) X) : ∃ (A : Option Addr) (C : Nat), Value.slice a m c = .slice A m C ∧ m = X.length ∧ X.length ≤ C ∧ (A = none → C = 0) := by
  rcases h.1.2 with ⟨h1, h2⟩ | ⟨g, cap, cur, h1, h2, h3, h4, h5⟩
  · injection h1 with e1 e2 e3
    subst e1 e2 e3
    exact ⟨none, 0, rfl, h2.symm, by omega, fun _ => rfl⟩
  · injection h1 with e1 e2 e3
    subst e1 e3
    exact ⟨_, _, rfl, e2, by first | exact h4 | exact h4.1 | omega, fun h => by cases h⟩
end Go.Proofs.Ytlnhhgmdajbepaa
namespace Go.Proofs.Ytlnhhgmdajbepaa
open Go.ChangeShapes Go.WideShapes Go.ChangeAt Go.RowKit
set_option linter.unusedVariables false
set_option linter.unusedSimpArgs false
theorem FlsF.bound {F : Nat → Prop} {w : World} {a : Option Addr} {X : List (Fa × Value)} (h : FlsF F w a X) : FlsF (fun k => F k ∧ k < w.heap.size) w a X := by
  refine ⟨h.fls, ?_, fun e he => ?_⟩
  · rcases h.row with h1 | h1
    · exact .inl h1
    · rcases h.fls.lie with h2 | ⟨b, off, h2, h3, _⟩
      · exact .inl h2
      · refine .inr (fun b2 off2 o2 e => ⟨h1 b2 off2 o2 e, ?_⟩)
        rw [h2] at e
        injection e with e
        injection e with e _ _
        rw [← e]; exact h3
  · rcases h.vals e he with h1 | h1
    · exact .inl h1
    · obtain ⟨a2, c2, h4, h5, _⟩ := h.fls.byt e he
      rcases h5.2 with h6 | ⟨b, off, h6, h7, _⟩
      · exact .inl h6
      · refine .inr (fun g hg => ⟨h1 g hg, ?_⟩)
        rw [h4, h6] at hg
        injection hg with hg
        rw [← hg]; exact h7
theorem own_fv2 {x y : World} {base : Nat} {a : Option Addr} {m c : Nat} {l : List Nat} {nm : List UInt8} {S : Nat} (h : Own x base (.slice a m c) l) (hb : Below x.heap.size x y) (hm : l.length = m) (hl : m ≤ maxLen) : FvIn y (⟨nm, l, S⟩, .slice a m c) :=
  (h.keep' hb).fv (f := ⟨nm, l, S⟩) (by rw [hm]; exact hl)
/-- k files are mounted -/
structure MtR (w wr : World) (Y : List (Fe × Value)) (kd k : Nat) (A : Ak) (X : List (Fa × Value)) (a : Option Addr) (n c : Nat) (room : Int) : Prop where
  rd : RdAt wr kd (.slice a n c) A.rn
  ff : FlsF (fun g => kd < g) wr a X
  len : X.length = n
  ab : X.map Prod.fst = A.fs
  ok : AkOk A
  few : n = k
  hi : w.heap.size < kd
  rz : RdAt wr w.heap.size (.slice none 0 0) ⟨0, 0, false, 0, 0⟩
  mnt : mntA (newD room).ab ((Y.map Prod.fst).take k) = (0, A)
  low : Below w.heap.size w wr
theorem MtR.keep {w wr x : World} {Y : List (Fe × Value)} {kd k : Nat} {A : Ak} {X : List (Fa × Value)} {a : Option Addr} {n c : Nat} {room : Int} (h : MtR w wr Y kd k A X a n c room) (hb : Below wr.heap.size wr x) : MtR w x Y kd k A X a n c room :=
  ⟨h.rd.keep hb, h.ff.keep hb, h.len, h.ab, h.ok, h.few, h.hi, h.rz.keep hb, h.mnt, h.low.trans (hb.mono h.low.size)⟩
theorem mt_step {w wr x7 x8 : World} {Y : List (Fe × Value)} {kd k : Nat} {A : Ak} {X Y8 : List (Fa × Value)} {a a8 : Option Addr} {n c c8 m : Nat} {room : Int} {nm : List UInt8} {l : List Nat} {S : Nat} {v : Value} (h : MtR w wr Y kd k A X a n c room) (hE : mntE A ⟨nm, l, (S : Int)⟩ = 0) (hm : l.length = m) (hb : Below wr.heap.size wr x8) (hw : RowL x7.heap.size x8 a8 Y8) (hb7 : Below wr.heap.size wr x7) (hl8 : Y8.length = n + 1)
    (hm8 : Mem1 X (⟨nm, l, S⟩, v) Y8) (hy8 : Y8.map Prod.fst = putL ⟨nm, l, S⟩ false (X.map Prod.fst)) (hp : FvIn x8 (⟨nm, l, S⟩, v)) (hv : ∀ g, vblk v = some g → kd < g) (hr : RdAt (x8.setCell ⟨kd, 0, none⟩ (.slice a8 (n + 1) c8)) kd (.slice a8 (n + 1) c8) A.rn) (hF : (Y.map Prod.fst)[k]? = some ⟨nm, l, (S : Int)⟩) (h7 : k < 700) :
    MtR w (x8.setCell ⟨kd, 0, none⟩ (.slice a8 (n + 1) c8)) Y kd (k + 1) (A.put (insA ⟨nm, l, S⟩ A.fs)) Y8 a8 (n + 1) c8 room := by
  have hlen : A.fs.length = n := by rw [← h.ab, List.length_map, h.len]
  obtain ⟨hok, _, _, _⟩ := mnt_ok h.ok hE (by rw [hlen, h.few]; exact h7)
  simp only [Int.toNat_natCast] at hok
  have hnone : getA A.fs nm = none := by
    have h9 := hE
    unfold mntE at h9
    split at h9
    · cases h9
    · split at h9
      · cases h9
      · rename_i h8
        cases hg : getA A.fs nm with
        | none => rfl
        | some f => simp only [hg, Option.isSome_some, not_true] at h8
  have hkd := h.rd.lt
  have hh : ∀ j, j ≠ kd → (x8.setCell ⟨kd, 0, none⟩ (.slice a8 (n + 1) c8)).heap[j]? = x8.heap[j]? := fun j hj => heap_setCell_other x8 ⟨kd, 0, none⟩ j _ hj
  have hff := h.ff.keep hb
  have h8 : FlsF (fun g => kd < g) x8 a8 Y8 := by
    refine ⟨hw.fls (fun e he => ?_), ?_, fun e he => ?_⟩
    · rcases hm8 e he with h1 | h1
      · exact hff.fls.fv h1
      · rw [h1]; exact hp
    · rcases hw with h1 | ⟨g, h1, h2, h3, _⟩
      · exact .inl h1
      · refine .inr (fun b off o2 e => ?_)
        rw [h1] at e
        injection e with e
        injection e with e _ _
        rw [← e]; exact Nat.lt_of_lt_of_le hkd (Nat.le_trans hb7.size h2)
    · rcases hm8 e he with h1 | h1
      · exact hff.vals e h1
      · rw [h1]; exact .inr hv
  refine ⟨hr, h8.turn (by simp [World.setCell]) (fun g hg => hh g (by omega)), hl8, ?_, hok, by have := h.few; omega, h.hi, (hh _ (by have := h.hi; omega)).trans (h.rz.keep hb), ?_, (h.low.trans (hb.mono h.low.size)).setCell (Nat.le_of_lt h.hi) _⟩
  · rw [hy8, h.ab]
    exact putL_ins ⟨nm, l, S⟩ hnone
  · obtain ⟨hFl, hFe⟩ := List.getElem?_eq_some_iff.1 hF
    rw [List.take_succ_eq_append_getElem hFl, hFe, mntA_app _ _ _ _ h.mnt]
    show (if mntE A ⟨nm, l, (S : Int)⟩ ≠ 0 then _ else mntA _ []) = _
    rw [if_neg (by rw [hE]; simp)]
    rfl
/-- what Mount answers -/
def MtQ (w : World) (M : Nat × Ak) (r : Ending) (w' : World) : Prop :=
  Below w.heap.size w w' ∧ ((M.1 ≠ 0 ∧ r = .returned (.tuple #[rdV (.slice none 0 0) ⟨0, 0, false, 0, 0⟩, .int .i64 (M.1 : Nat)])) ∨ (M.1 = 0 ∧ ∃ a n c X, r = .returned (.tuple #[rdV (.slice a n c) M.2.rn, .int .i64 0]) ∧ FlsF (fun k => w.heap.size ≤ k ∧ k < w'.heap.size) w' a X ∧ X.length = n ∧ X.map Prod.fst = M.2.fs ∧ AkOk M.2))
theorem mt_start {w x1 x1' x2 : World} {Y : List (Fe × Value)} {room : Int} (h0 : RdAt (w.alloc (.cells #[.slice none 0 0, .int .i64 0, .int .i64 0, .bool false, .int .i64 0, .int .i64 0] 28)) w.heap.size (.slice none 0 0) ⟨0, 0, false, 0, 0⟩ ∧ Below w.heap.size w (w.alloc (.cells #[.slice none 0 0, .int .i64 0, .int .i64 0, .bool false, .int .i64 0, .int .i64 0] 28))) (hb1 : Below (w.alloc (.cells #[.slice none 0 0, .int .i64 0, .int .i64 0, .bool false, .int .i64 0, .int .i64 0] 28)).heap.size (w.alloc (.cells #[.slice none 0 0, .int .i64 0, .int .i64 0, .bool false, .int .i64 0, .int .i64 0] 28)) x1) (hz : Below x1.heap.size x1 x1') (hr : RdAt x2 x1.heap.size (.slice none 0 0) (newD room).ab.rn) (hb2 : Below x1.heap.size x1 x2) : MtR w x2 Y x1.heap.size 0 (newD room).ab [] none 0 0 room := by
  have hs := hb1.size
  rw [World.size_alloc] at hs
  exact ⟨hr, ⟨⟨.inl rfl, fun p hp => by cases hp⟩, .inl rfl, fun p hp => by cases hp⟩, rfl, rfl, newA_ok room, rfl, by omega, (h0.1.keep hb1).keep hb2, rfl, (h0.2.trans (hb1.mono h0.2.size)).trans (hb2.mono (by omega))⟩
set_option maxRecDepth 100000 in
set_option maxHeartbeats 8000000 in
theorem rmount_any (w : World) (room : Int) (hr1 : -9223372036854775808 ≤ room) (hr2 : room ≤ 9223372036854775807) (Y : List (Fe × Value)) (a : Option Addr) (n C : Nat) (hn : Y.length = n) (hY : FeA w a Y) (hnl : (n : Int) ≤ 140737488351232) :
    Calls Try.prog 21 #[.int .i64 room, .slice a n C] w (MtQ w (mountA room (Y.map Prod.fst))) := by
  have HN : Hid (Y.length = n) := hn
  have HY : Hid (FeA w a Y) := hY
  have hn0 : (0 : Int) ≤ (n : Int) := by omega
  have HRI : Hid (inI room) := ⟨hr1, hr2⟩
  have HZ0 : Hid (RdAt (w.alloc (.cells #[.slice none 0 0, .int .i64 0, .int .i64 0, .bool false, .int .i64 0, .int .i64 0] 28)) w.heap.size (.slice none 0 0) ⟨0, 0, false, 0, 0⟩ ∧ Below w.heap.size w (w.alloc (.cells #[.slice none 0 0, .int .i64 0, .int .i64 0, .bool false, .int .i64 0, .int .i64 0] 28))) := ⟨RdAt.new w (.slice none 0 0) ⟨0, 0, false, 0, 0⟩, (Below.refl _ _).alloc (Nat.le_refl _) _⟩
  by_cases hbig : 700 < n
  · have e0 : mountA room (Y.map Prod.fst) = (53, (newD room).ab) := if_pos (by rw [List.length_map, hn]; exact hbig)
    have hbI : (700 : Int) < (n : Int) := by omega
    rw [e0]
    clear e0 hbig hn hY
    go_enter Try.func21, Try.ntmps21
    go_wp2_with (first
      | (go_at_call 15; refine (rnew_any room (w.alloc (.cells #[.slice none 0 0, .int .i64 0, .int .i64 0, .bool false, .int .i64 0, .int .i64 0] 28)) HRI.out.1 HRI.out.2).mono ?_; rintro _ x1 ⟨rfl, hb1⟩; have HB1 : Hid (Below (w.alloc (.cells #[.slice none 0 0, .int .i64 0, .int .i64 0, .bool false, .int .i64 0, .int .i64 0] 28)).heap.size (w.alloc (.cells #[.slice none 0 0, .int .i64 0, .int .i64 0, .bool false, .int .i64 0, .int .i64 0] 28)) x1) := hb1; have HZ1 : Hid (RdAt (x1.alloc (.cells #[.slice none 0 0, .int .i64 0, .int .i64 0, .bool false, .int .i64 0, .int .i64 0] 28)) x1.heap.size (.slice none 0 0) ⟨0, 0, false, 0, 0⟩ ∧ Below x1.heap.size x1 (x1.alloc (.cells #[.slice none 0 0, .int .i64 0, .int .i64 0, .bool false, .int .i64 0, .int .i64 0] 28))) := ⟨RdAt.new x1 (.slice none 0 0) ⟨0, 0, false, 0, 0⟩, (Below.refl _ _).alloc (Nat.le_refl _) _⟩; clear hb1)
      | ((with_reducible refine guard_store 28 ?_); refine wpList_store_rd rfl _ _ rfl rfl HM2.out.rz rfl rfl rfl (v2 := .slice none 0 0) (q2 := ⟨0, 0, false, 0, 0⟩) ?_; intro x9 hr9 hb9 hh9 hs9; have HR9 : Hid (RdAt x9 w.heap.size (.slice none 0 0) ⟨0, 0, false, 0, 0⟩ ∧ Below w.heap.size w x9) := ⟨hr9, hb9 _ _ HM2.out.low (Nat.le_refl _)⟩; clear hr9 hb9 hh9 hs9)
      | ((with_reducible refine guard_store 28 ?_); refine wpList_store_rd rfl _ _ rfl rfl HZ1.out.1 rfl rfl rfl (v2 := .slice none 0 0) (q2 := (newD room).ab.rn) ?_; intro x2 hr2 hb2 hh2 hs2; have HM2 : Hid (MtR w x2 Y x1.heap.size 0 (newD room).ab [] none 0 0 room) := mt_start HZ0.out HB1.out HZ1.out.2 hr2 (hb2 _ _ HZ1.out.2 (Nat.le_refl _)); clear hr2 hb2 hh2 hs2)
      | go_in)
    exact bodyPost_ret (results_rd2 rfl _ _ _ rfl HR9.out.1) rfl ⟨HR9.out.2, .inl ⟨by simp, rfl⟩⟩
  · have e0 : mountA room (Y.map Prod.fst) = mntA (newD room).ab (Y.map Prod.fst) := if_neg (by rw [List.length_map, hn]; exact hbig)
    have HE0 : Hid (mountA room (Y.map Prod.fst) = mntA (newD room).ab (Y.map Prod.fst)) := e0
    rw [e0]
    have hbI : ¬ (700 : Int) < (n : Int) := by omega
    have HN7 : Hid (n ≤ 700) := by show _ ≤ _; omega
    clear e0 hbig hn hY
    go_enter Try.func21, Try.ntmps21
    go_wp2_with (first
      | (go_at_call 15; refine (rnew_any room (w.alloc (.cells #[.slice none 0 0, .int .i64 0, .int .i64 0, .bool false, .int .i64 0, .int .i64 0] 28)) HRI.out.1 HRI.out.2).mono ?_; rintro _ x1 ⟨rfl, hb1⟩; have HB1 : Hid (Below (w.alloc (.cells #[.slice none 0 0, .int .i64 0, .int .i64 0, .bool false, .int .i64 0, .int .i64 0] 28)).heap.size (w.alloc (.cells #[.slice none 0 0, .int .i64 0, .int .i64 0, .bool false, .int .i64 0, .int .i64 0] 28)) x1) := hb1; have HZ1 : Hid (RdAt (x1.alloc (.cells #[.slice none 0 0, .int .i64 0, .int .i64 0, .bool false, .int .i64 0, .int .i64 0] 28)) x1.heap.size (.slice none 0 0) ⟨0, 0, false, 0, 0⟩ ∧ Below x1.heap.size x1 (x1.alloc (.cells #[.slice none 0 0, .int .i64 0, .int .i64 0, .bool false, .int .i64 0, .int .i64 0] 28))) := ⟨RdAt.new x1 (.slice none 0 0) ⟨0, 0, false, 0, 0⟩, (Below.refl _ _).alloc (Nat.le_refl _) _⟩; clear hb1)
      | ((with_reducible refine guard_store 28 ?_); refine wpList_store_rd rfl _ _ rfl rfl HZ1.out.1 rfl rfl rfl (v2 := .slice none 0 0) (q2 := (newD room).ab.rn) ?_; intro x2 hr2 hb2 hh2 hs2; have HM2 : Hid (MtR w x2 Y x1.heap.size 0 (newD room).ab [] none 0 0 room) := mt_start HZ0.out HB1.out HZ1.out.2 hr2 (hb2 _ _ HZ1.out.2 (Nat.le_refl _)); clear hr2 hb2 hh2 hs2)
      | go_in)
    obtain ⟨kd, hkd⟩ : ∃ kd, x1.heap.size = kd := ⟨_, rfl⟩
    have HKD : Hid (x1.heap.size = kd) := hkd
    rw [hkd]
    clear hkd
    go_loopw [7, 18] (fun v7 v18 wr => ∃ (k : Nat) (A : Ak) (X : List (Fa × Value)) (a' : Option Addr) (n' c' : Nat), v18 = .int .i64 (k : Int) ∧ v7 = .int .i64 (usedA A.fs : Nat) ∧ k ≤ n ∧ Hid (MtR w wr Y kd k A X a' n' c' room)) (fun _ v18 _ => n - (intOf v18).toNat)
    case atStart => exact ⟨0, (newD room).ab, [], none, 0, 0, rfl, rfl, Nat.zero_le _, by rw [← HKD.out]; exact HM2.out⟩
    case round =>
      obtain ⟨k, A, X, a', n', c', rfl, rfl, hk, HRR⟩ := hrel
      obtain ⟨U, hU⟩ : ∃ U, usedA A.fs = U := ⟨_, rfl⟩
      rw [hU]
      have HU : Hid (usedA A.fs = U) := hU
      have hr0 := HRR.out.ok.room
      have hu0 := HRR.out.ok.used
      obtain ⟨Z, hZ⟩ : ∃ Z, A.room = Z := ⟨_, rfl⟩
      have HZ : Hid (A.rn.room = Z ∧ A.room = Z) := ⟨hZ, hZ⟩
      rw [hZ] at hr0 hu0
      rw [hU] at hu0
      have hU0 : (0 : Int) ≤ (U : Int) := by omega
      have hZ1 := hr0.2
      clear hU hZ
      by_cases hkn : k < n
      · obtain ⟨⟨⟨nm, l, s⟩, v⟩, hp⟩ : ∃ p, Y[k]? = some p := ⟨_, List.getElem?_eq_getElem (by rw [HN.out]; exact hkn)⟩
        have hYr := HY.out.keep HRR.out.low
        obtain ⟨⟨a2, c2, hv, hby⟩, hnl2, hll, hsi⟩ := hYr.byt _ (List.mem_of_getElem? hp)
        simp only at hv hby hnl2 hll hsi
        obtain ⟨b0, off, rfl, hb0, hrg⟩ : ∃ b0 off, a = some ⟨b0, off, none⟩ ∧ b0 < wr.heap.size ∧ wr.rangeAt b0 (off + k * 3) [.string (bs nm), v, .int .i64 s] := by
          rcases hYr.lie with h1 | ⟨b0, off, h1, h2, h3⟩
          · rw [h1] at hp; simp at hp
          · exact ⟨b0, off, h1, h2, h3 k _ hp⟩
        subst hv
        have hFk : (Y.map Prod.fst)[k]? = some ⟨nm, l, s⟩ := by rw [List.getElem?_map, hp]; rfl
        obtain ⟨hFl, hFe⟩ := List.getElem?_eq_some_iff.1 hFk
        have hsplit : Y.map Prod.fst = (Y.map Prod.fst).take k ++ ⟨nm, l, s⟩ :: (Y.map Prod.fst).drop (k + 1) := by
          rw [← hFe, ← List.drop_eq_getElem_cons hFl, List.take_append_drop]
        have HF : Hid (mntA (newD room).ab (Y.map Prod.fst) = mntA A (⟨nm, l, s⟩ :: (Y.map Prod.fst).drop (k + 1))) := by
          show _ = _
          conv => lhs; rw [hsplit]
          exact mntA_app _ _ _ _ HRR.out.mnt
        obtain ⟨m, hlm⟩ : ∃ m, l.length = m := ⟨_, rfl⟩
        have HLM : Hid (l.length = m) := hlm
        rw [hlm] at hrg hll
        have HRNG : Hid (wr.rangeAt b0 (off + k * 3) [.string (bs nm), .slice a2 m c2, .int .i64 s]) := hrg
        have HBYS : Hid (Bytes wr a2 l) := hby
        have HSI : Hid (inI s ∧ nm.length ≤ 281474976710656 ∧ m ≤ 140737488351232) := ⟨hsi, hnl2, hll⟩
        have HZF : Hid (FlAt (wr.alloc (.cells #[.string ⟨#[]⟩, .slice none 0 0, .int .i64 0] 49)) wr.heap.size [] (.slice none 0 0) 0) := FlAt.new wr _ _ _
        have HB700 : Hid (k < 700) := by show _ < _; have := HN7.out; omega
        have HFK0 : Hid ((Y.map Prod.fst)[k]? = some ⟨nm, l, s⟩) := hFk
        have hkI : (k : Int) < (n : Int) := by omega
        have hk0 : (0 : Int) ≤ (k : Int) := by omega
        have hm0 : (0 : Int) ≤ (m : Int) := by omega
        have hmI : (m : Int) ≤ 140737488351232 := by omega
        have hs1 := hsi.1
        have hs2 := hsi.2
        have hum : wrap64 ((U : Int) + (m : Int)) = (U : Int) + (m : Int) := by unfold wrap64; omega
        clear hp hYr hby hnl2 hll hsi hb0 hrg hFk hFl hFe hsplit hlm
        cases hRT : rightS nm with
        | false =>
          have HRT : Hid (rightS nm = false) := hRT
          have HE : Hid (mntE A ⟨nm, l, s⟩ = 50) := by show _ = _; unfold mntE; rw [if_pos hRT]
          clear hRT
          go_wp2_with (first
            | ((with_reducible refine guard_load 49 ?_); refine wpList_load_flr rfl _ rfl HRNG.out rfl ?_)
            | ((with_reducible refine guard_store 49 ?_); refine wpList_store_fl rfl _ _ rfl rfl HZF.out (slice_one _ _ _) rfl rfl (nm2 := nm) (v2 := .slice a2 m c2) (s2 := s) ?_; intro x3 hf3 hb3; have HB3 : Hid (Below wr.heap.size wr x3) := hb3 _ _ ((Below.refl _ _).alloc (Nat.le_refl _) _) (Nat.le_refl _); have HF3 : Hid (FlAt x3 wr.heap.size nm (.slice a2 m c2) s) := hf3; obtain ⟨q0, q1, q2⟩ := HF3.out.cells; have HM3 : Hid (MtR w x3 Y kd k A X a' n' c' room) := HRR.out.keep HB3.out; clear hf3 hb3)
            | (go_at_call 27; refine (rright_any nm _ HSI.out.2.1).mono ?_; rw [HRT.out]; rintro _ x4 ⟨rfl, rfl⟩)
            | ((with_reducible refine guard_store 28 ?_); refine wpList_store_rd rfl _ _ rfl rfl HM3.out.rz rfl rfl rfl (v2 := .slice none 0 0) (q2 := ⟨0, 0, false, 0, 0⟩) ?_; intro x9 hr9 hb9 hh9 hs9; have HR9 : Hid (RdAt x9 w.heap.size (.slice none 0 0) ⟨0, 0, false, 0, 0⟩ ∧ Below w.heap.size w x9) := ⟨hr9, hb9 _ _ HM3.out.low (Nat.le_refl _)⟩; clear hr9 hb9 hh9 hs9)
            | go_in)
          exact bodyPost_ret (results_rd2 rfl _ _ _ rfl HR9.out.1) rfl ⟨HR9.out.2, .inl ⟨by rw [HF.out]; show (mntA A (_ :: _)).1 ≠ 0; unfold mntA; rw [HE.out]; simp, by rw [HF.out]; show _ = Ending.returned (.tuple #[_, .int .i64 ((mntA A (⟨nm, l, s⟩ :: _)).1 : Nat)]); unfold mntA; rw [HE.out]; rfl⟩⟩
        | true =>
          have HRT : Hid (rightS nm = true) := hRT
          by_cases hg : (getA A.fs nm).isSome = true
          · have HGN : Hid ((getA A.fs nm).isSome = true) := hg
            have HE : Hid (mntE A ⟨nm, l, s⟩ = 52) := by show _ = _; unfold mntE; simp only; rw [if_neg (by rw [hRT]; simp), if_pos hg]
            clear hRT hg
            go_wp2_with (first
              | ((with_reducible refine guard_load 49 ?_); refine wpList_load_flr rfl _ rfl HRNG.out rfl ?_)
              | ((with_reducible refine guard_store 49 ?_); refine wpList_store_fl rfl _ _ rfl rfl HZF.out (slice_one _ _ _) rfl rfl (nm2 := nm) (v2 := .slice a2 m c2) (s2 := s) ?_; intro x3 hf3 hb3; have HB3 : Hid (Below wr.heap.size wr x3) := hb3 _ _ ((Below.refl _ _).alloc (Nat.le_refl _) _) (Nat.le_refl _); have HF3 : Hid (FlAt x3 wr.heap.size nm (.slice a2 m c2) s) := hf3; obtain ⟨q0, q1, q2⟩ := HF3.out.cells; have HM3 : Hid (MtR w x3 Y kd k A X a' n' c' room) := HRR.out.keep HB3.out; clear hf3 hb3)
              | (go_at_call 27; refine (rright_any nm _ HSI.out.2.1).mono ?_; rw [HRT.out]; rintro _ x4 ⟨rfl, rfl⟩)
              | ((with_reducible refine guard_load 28 ?_); refine wpList_load_rd rfl _ rfl HM3.out.rd rfl ?_)
              | (go_at_call 47; refine (rat_any x3 X a' n' c' A.rn HRR.out.len HM3.out.ff.fls (by have := HRR.out.few; have := HB700.out; omega) nm HSI.out.2.1).mono ?_; rintro _ x5 ⟨z, rfl, hb5, hz⟩; obtain ⟨i, rfl, hi⟩ : ∃ i : Nat, z = (i : Int) ∧ i < n' := (by rcases hz with ⟨_, h9⟩ | ⟨i, f1, h1, h2, _⟩; rw [HRR.out.ab] at h9; rw [h9] at HGN; exact absurd HGN.out (by simp); exact ⟨i, h1, h2⟩); have hi0 : (0 : Int) ≤ (i : Int) := (by omega); have HB5 : Hid (Below wr.heap.size wr x5) := HB3.out.trans (hb5.mono HB3.out.size); have HX5 : Hid (RdAt x5 kd (.slice a' n' c') A.rn ∧ FlAt x5 wr.heap.size nm (.slice a2 m c2) s) := ⟨HM3.out.rd.keep hb5, HF3.out.keep hb5⟩; have HM5 : Hid (MtR w x5 Y kd k A X a' n' c' room) := HM3.out.keep hb5; obtain ⟨p0, p1, p2⟩ := HX5.out.2.cells; obtain ⟨r0, r1, r2, r3, r4, r5⟩ := HX5.out.1.cells; rw [HZ.out.1] at r1; clear hb5 hz)
              | ((with_reducible refine guard_store 28 ?_); refine wpList_store_rd rfl _ _ rfl rfl HM5.out.rz rfl rfl rfl (v2 := .slice none 0 0) (q2 := ⟨0, 0, false, 0, 0⟩) ?_; intro x9 hr9 hb9 hh9 hs9; have HR9 : Hid (RdAt x9 w.heap.size (.slice none 0 0) ⟨0, 0, false, 0, 0⟩ ∧ Below w.heap.size w x9) := ⟨hr9, hb9 _ _ HM5.out.low (Nat.le_refl _)⟩; clear hr9 hb9 hh9 hs9)
              | go_in)
            exact bodyPost_ret (results_rd2 rfl _ _ _ rfl HR9.out.1) rfl ⟨HR9.out.2, .inl ⟨by rw [HF.out]; show (mntA A (_ :: _)).1 ≠ 0; unfold mntA; rw [HE.out]; simp, by rw [HF.out]; show _ = Ending.returned (.tuple #[_, .int .i64 ((mntA A (⟨nm, l, s⟩ :: _)).1 : Nat)]); unfold mntA; rw [HE.out]; rfl⟩⟩
          · have HGN : Hid (getA A.fs nm = none) := by show _ = _; cases h : getA A.fs nm with | none => rfl | some f => rw [h] at hg; exact absurd rfl hg
            by_cases hs0 : s < 0
            · have HE : Hid (mntE A ⟨nm, l, s⟩ = 1) := by show _ = _; unfold mntE; simp only; rw [if_neg (by rw [hRT]; simp), if_neg hg, if_pos (.inl hs0)]
              clear hRT hg
              go_wp2_with (first
                | ((with_reducible refine guard_load 49 ?_); refine wpList_load_flr rfl _ rfl HRNG.out rfl ?_)
                | ((with_reducible refine guard_store 49 ?_); refine wpList_store_fl rfl _ _ rfl rfl HZF.out (slice_one _ _ _) rfl rfl (nm2 := nm) (v2 := .slice a2 m c2) (s2 := s) ?_; intro x3 hf3 hb3; have HB3 : Hid (Below wr.heap.size wr x3) := hb3 _ _ ((Below.refl _ _).alloc (Nat.le_refl _) _) (Nat.le_refl _); have HF3 : Hid (FlAt x3 wr.heap.size nm (.slice a2 m c2) s) := hf3; obtain ⟨q0, q1, q2⟩ := HF3.out.cells; have HM3 : Hid (MtR w x3 Y kd k A X a' n' c' room) := HRR.out.keep HB3.out; clear hf3 hb3)
                | (go_at_call 27; refine (rright_any nm _ HSI.out.2.1).mono ?_; rw [HRT.out]; rintro _ x4 ⟨rfl, rfl⟩)
                | ((with_reducible refine guard_load 28 ?_); refine wpList_load_rd rfl _ rfl HM3.out.rd rfl ?_)
                | (go_at_call 47; refine (rat_any x3 X a' n' c' A.rn HRR.out.len HM3.out.ff.fls (by have := HRR.out.few; have := HB700.out; omega) nm HSI.out.2.1).mono ?_; rintro _ x5 ⟨z, rfl, hb5, hz⟩; obtain rfl : z = -1 := (by rcases hz with ⟨h1, _⟩ | ⟨i, f1, _, _, _, h4, _⟩; exact h1; rw [HRR.out.ab, HGN.out] at h4; cases h4); have HB5 : Hid (Below wr.heap.size wr x5) := HB3.out.trans (hb5.mono HB3.out.size); have HX5 : Hid (RdAt x5 kd (.slice a' n' c') A.rn ∧ FlAt x5 wr.heap.size nm (.slice a2 m c2) s) := ⟨HM3.out.rd.keep hb5, HF3.out.keep hb5⟩; have HM5 : Hid (MtR w x5 Y kd k A X a' n' c' room) := HM3.out.keep hb5; obtain ⟨p0, p1, p2⟩ := HX5.out.2.cells; obtain ⟨r0, r1, r2, r3, r4, r5⟩ := HX5.out.1.cells; rw [HZ.out.1] at r1; clear hb5 hz)
                | ((with_reducible refine guard_store 28 ?_); refine wpList_store_rd rfl _ _ rfl rfl HM5.out.rz rfl rfl rfl (v2 := .slice none 0 0) (q2 := ⟨0, 0, false, 0, 0⟩) ?_; intro x9 hr9 hb9 hh9 hs9; have HR9 : Hid (RdAt x9 w.heap.size (.slice none 0 0) ⟨0, 0, false, 0, 0⟩ ∧ Below w.heap.size w x9) := ⟨hr9, hb9 _ _ HM5.out.low (Nat.le_refl _)⟩; clear hr9 hb9 hh9 hs9)
                | go_in)
              exact bodyPost_ret (results_rd2 rfl _ _ _ rfl HR9.out.1) rfl ⟨HR9.out.2, .inl ⟨by rw [HF.out]; show (mntA A (_ :: _)).1 ≠ 0; unfold mntA; rw [HE.out]; simp, by rw [HF.out]; show _ = Ending.returned (.tuple #[_, .int .i64 ((mntA A (⟨nm, l, s⟩ :: _)).1 : Nat)]); unfold mntA; rw [HE.out]; rfl⟩⟩
            · by_cases hsm : (m : Int) < s
              · have HE : Hid (mntE A ⟨nm, l, s⟩ = 1) := by show _ = _; unfold mntE; simp only; rw [if_neg (by rw [hRT]; simp), if_neg hg, if_pos (.inr (by rw [HLM.out]; exact hsm))]
                clear hRT hg
                go_wp2_with (first
                  | ((with_reducible refine guard_load 49 ?_); refine wpList_load_flr rfl _ rfl HRNG.out rfl ?_)
                  | ((with_reducible refine guard_store 49 ?_); refine wpList_store_fl rfl _ _ rfl rfl HZF.out (slice_one _ _ _) rfl rfl (nm2 := nm) (v2 := .slice a2 m c2) (s2 := s) ?_; intro x3 hf3 hb3; have HB3 : Hid (Below wr.heap.size wr x3) := hb3 _ _ ((Below.refl _ _).alloc (Nat.le_refl _) _) (Nat.le_refl _); have HF3 : Hid (FlAt x3 wr.heap.size nm (.slice a2 m c2) s) := hf3; obtain ⟨q0, q1, q2⟩ := HF3.out.cells; have HM3 : Hid (MtR w x3 Y kd k A X a' n' c' room) := HRR.out.keep HB3.out; clear hf3 hb3)
                  | (go_at_call 27; refine (rright_any nm _ HSI.out.2.1).mono ?_; rw [HRT.out]; rintro _ x4 ⟨rfl, rfl⟩)
                  | ((with_reducible refine guard_load 28 ?_); refine wpList_load_rd rfl _ rfl HM3.out.rd rfl ?_)
                  | (go_at_call 47; refine (rat_any x3 X a' n' c' A.rn HRR.out.len HM3.out.ff.fls (by have := HRR.out.few; have := HB700.out; omega) nm HSI.out.2.1).mono ?_; rintro _ x5 ⟨z, rfl, hb5, hz⟩; obtain rfl : z = -1 := (by rcases hz with ⟨h1, _⟩ | ⟨i, f1, _, _, _, h4, _⟩; exact h1; rw [HRR.out.ab, HGN.out] at h4; cases h4); have HB5 : Hid (Below wr.heap.size wr x5) := HB3.out.trans (hb5.mono HB3.out.size); have HX5 : Hid (RdAt x5 kd (.slice a' n' c') A.rn ∧ FlAt x5 wr.heap.size nm (.slice a2 m c2) s) := ⟨HM3.out.rd.keep hb5, HF3.out.keep hb5⟩; have HM5 : Hid (MtR w x5 Y kd k A X a' n' c' room) := HM3.out.keep hb5; obtain ⟨p0, p1, p2⟩ := HX5.out.2.cells; obtain ⟨r0, r1, r2, r3, r4, r5⟩ := HX5.out.1.cells; rw [HZ.out.1] at r1; clear hb5 hz)
                  | ((with_reducible refine guard_store 28 ?_); refine wpList_store_rd rfl _ _ rfl rfl HM5.out.rz rfl rfl rfl (v2 := .slice none 0 0) (q2 := ⟨0, 0, false, 0, 0⟩) ?_; intro x9 hr9 hb9 hh9 hs9; have HR9 : Hid (RdAt x9 w.heap.size (.slice none 0 0) ⟨0, 0, false, 0, 0⟩ ∧ Below w.heap.size w x9) := ⟨hr9, hb9 _ _ HM5.out.low (Nat.le_refl _)⟩; clear hr9 hb9 hh9 hs9)
                  | go_in)
                exact bodyPost_ret (results_rd2 rfl _ _ _ rfl HR9.out.1) rfl ⟨HR9.out.2, .inl ⟨by rw [HF.out]; show (mntA A (_ :: _)).1 ≠ 0; unfold mntA; rw [HE.out]; simp, by rw [HF.out]; show _ = Ending.returned (.tuple #[_, .int .i64 ((mntA A (⟨nm, l, s⟩ :: _)).1 : Nat)]); unfold mntA; rw [HE.out]; rfl⟩⟩
              · by_cases hfu : Z < (U : Int) + (m : Int)
                · have HE : Hid (mntE A ⟨nm, l, s⟩ = 54) := by show _ = _; unfold mntE; simp only; rw [if_neg (by rw [hRT]; simp), if_neg hg, if_neg (by rw [HLM.out]; omega), if_pos (by rw [HLM.out, HZ.out.2, HU.out]; omega)]
                  clear hRT hg
                  go_wp2_with (first
                    | ((with_reducible refine guard_load 49 ?_); refine wpList_load_flr rfl _ rfl HRNG.out rfl ?_)
                    | ((with_reducible refine guard_store 49 ?_); refine wpList_store_fl rfl _ _ rfl rfl HZF.out (slice_one _ _ _) rfl rfl (nm2 := nm) (v2 := .slice a2 m c2) (s2 := s) ?_; intro x3 hf3 hb3; have HB3 : Hid (Below wr.heap.size wr x3) := hb3 _ _ ((Below.refl _ _).alloc (Nat.le_refl _) _) (Nat.le_refl _); have HF3 : Hid (FlAt x3 wr.heap.size nm (.slice a2 m c2) s) := hf3; obtain ⟨q0, q1, q2⟩ := HF3.out.cells; have HM3 : Hid (MtR w x3 Y kd k A X a' n' c' room) := HRR.out.keep HB3.out; clear hf3 hb3)
                    | (go_at_call 27; refine (rright_any nm _ HSI.out.2.1).mono ?_; rw [HRT.out]; rintro _ x4 ⟨rfl, rfl⟩)
                    | ((with_reducible refine guard_load 28 ?_); refine wpList_load_rd rfl _ rfl HM3.out.rd rfl ?_)
                    | (go_at_call 47; refine (rat_any x3 X a' n' c' A.rn HRR.out.len HM3.out.ff.fls (by have := HRR.out.few; have := HB700.out; omega) nm HSI.out.2.1).mono ?_; rintro _ x5 ⟨z, rfl, hb5, hz⟩; obtain rfl : z = -1 := (by rcases hz with ⟨h1, _⟩ | ⟨i, f1, _, _, _, h4, _⟩; exact h1; rw [HRR.out.ab, HGN.out] at h4; cases h4); have HB5 : Hid (Below wr.heap.size wr x5) := HB3.out.trans (hb5.mono HB3.out.size); have HX5 : Hid (RdAt x5 kd (.slice a' n' c') A.rn ∧ FlAt x5 wr.heap.size nm (.slice a2 m c2) s) := ⟨HM3.out.rd.keep hb5, HF3.out.keep hb5⟩; have HM5 : Hid (MtR w x5 Y kd k A X a' n' c' room) := HM3.out.keep hb5; obtain ⟨p0, p1, p2⟩ := HX5.out.2.cells; obtain ⟨r0, r1, r2, r3, r4, r5⟩ := HX5.out.1.cells; rw [HZ.out.1] at r1; clear hb5 hz)
                    | ((with_reducible refine guard_store 28 ?_); refine wpList_store_rd rfl _ _ rfl rfl HM5.out.rz rfl rfl rfl (v2 := .slice none 0 0) (q2 := ⟨0, 0, false, 0, 0⟩) ?_; intro x9 hr9 hb9 hh9 hs9; have HR9 : Hid (RdAt x9 w.heap.size (.slice none 0 0) ⟨0, 0, false, 0, 0⟩ ∧ Below w.heap.size w x9) := ⟨hr9, hb9 _ _ HM5.out.low (Nat.le_refl _)⟩; clear hr9 hb9 hh9 hs9)
                    | go_in)
                  exact bodyPost_ret (results_rd2 rfl _ _ _ rfl HR9.out.1) rfl ⟨HR9.out.2, .inl ⟨by rw [HF.out]; show (mntA A (_ :: _)).1 ≠ 0; unfold mntA; rw [HE.out]; simp, by rw [HF.out]; show _ = Ending.returned (.tuple #[_, .int .i64 ((mntA A (⟨nm, l, s⟩ :: _)).1 : Nat)]); unfold mntA; rw [HE.out]; rfl⟩⟩
                · have hE : mntE A ⟨nm, l, s⟩ = 0 := by unfold mntE; simp only; rw [if_neg (by rw [hRT]; simp), if_neg hg, if_neg (by rw [HLM.out]; omega), if_neg (by rw [HLM.out, HZ.out.2, HU.out]; omega)]
                  obtain ⟨S, rfl⟩ : ∃ S : Nat, s = (S : Int) := ⟨s.toNat, by omega⟩
                  have HE : Hid (mntE A ⟨nm, l, (S : Int)⟩ = 0) := hE
                  have HFK : Hid ((Y.map Prod.fst)[k]? = some ⟨nm, l, (S : Int)⟩) := HFK0.out
                  have HUS : Hid (usedA (A.put (insA ⟨nm, l, S⟩ A.fs)).fs = U + m) := by
                    show usedA (insA ⟨nm, l, S⟩ A.fs) = U + m
                    have h1 := usedA_ins ⟨nm, l, S⟩ HRR.out.ok.sort
                    rw [oldA_none HGN.out] at h1
                    simp only [HLM.out, HU.out] at h1
                    omega
                  clear hE HFK0 hRT hg
                  go_wp2_with (first
                    | ((with_reducible refine guard_load 49 ?_); refine wpList_load_flr rfl _ rfl HRNG.out rfl ?_)
                    | ((with_reducible refine guard_store 49 ?_); refine wpList_store_fl rfl _ _ rfl rfl HZF.out (slice_one _ _ _) rfl rfl (nm2 := nm) (v2 := .slice a2 m c2) (s2 := (S : Int)) ?_; intro x3 hf3 hb3; have HB3 : Hid (Below wr.heap.size wr x3) := hb3 _ _ ((Below.refl _ _).alloc (Nat.le_refl _) _) (Nat.le_refl _); have HF3 : Hid (FlAt x3 wr.heap.size nm (.slice a2 m c2) (S : Int)) := hf3; obtain ⟨q0, q1, q2⟩ := HF3.out.cells; have HM3 : Hid (MtR w x3 Y kd k A X a' n' c' room) := HRR.out.keep HB3.out; clear hf3 hb3)
                    | (go_at_call 27; refine (rright_any nm _ HSI.out.2.1).mono ?_; rw [HRT.out]; rintro _ x4 ⟨rfl, rfl⟩)
                    | ((with_reducible refine guard_load 28 ?_); refine wpList_load_rd rfl _ rfl HM3.out.rd rfl ?_)
                    | (go_at_call 47; refine (rat_any x3 X a' n' c' A.rn HRR.out.len HM3.out.ff.fls (by have := HRR.out.few; have := HB700.out; omega) nm HSI.out.2.1).mono ?_; rintro _ x5 ⟨z, rfl, hb5, hz⟩; obtain rfl : z = -1 := (by rcases hz with ⟨h1, _⟩ | ⟨i, f1, _, _, _, h4, _⟩; exact h1; rw [HRR.out.ab, HGN.out] at h4; cases h4); have HB5 : Hid (Below wr.heap.size wr x5) := HB3.out.trans (hb5.mono HB3.out.size); have HX5 : Hid (RdAt x5 kd (.slice a' n' c') A.rn ∧ FlAt x5 wr.heap.size nm (.slice a2 m c2) (S : Int)) := ⟨HM3.out.rd.keep hb5, HF3.out.keep hb5⟩; have HM5 : Hid (MtR w x5 Y kd k A X a' n' c' room) := HM3.out.keep hb5; obtain ⟨p0, p1, p2⟩ := HX5.out.2.cells; obtain ⟨r0, r1, r2, r3, r4, r5⟩ := HX5.out.1.cells; rw [HZ.out.1] at r1; clear hb5 hz)
                    | go_in)
                  refine wp_region_held (S := (fun y => FlAt y wr.heap.size nm (.slice a2 m c2) (S : Int))) (by kernel_rfl) ?_
                  change wpAnyH _ _ _ _ _ _ _ _ (World.drew _)
                  obtain ⟨xd, hxd⟩ : ∃ xd, x5.drew = xd := ⟨_, rfl⟩
                  have HB3D : Hid (Below wr.heap.size wr xd) := by rw [← hxd]; exact HB5.out.drew
                  have HP3 : Hid ((fun y => FlAt y wr.heap.size nm (.slice a2 m c2) (S : Int)) xd) := by rw [← hxd]; exact HX5.out.2.keep (Below.refl _ _).drew
                  have HQ3 : Hid (RdAt xd kd (.slice a' n' c') A.rn) := by rw [← hxd]; exact HX5.out.1.keep (Below.refl _ _).drew
                  rw [hxd]
                  clear hxd
                  refine wpAnyH_take (i := 0) (oi := { dst := some 62, op := Op.fieldAddr 28 (Operand.tmp 6) 0, type := 0, pos := "ref.go:113", after := #[], guard := none }) (v := ?_) rfl (by kernel_rfl) (by kernel_rfl) (by kernel_rfl) (fun _ _ _ h => h) (Or.inl ⟨by rfl, ?_⟩) HP3.out ?_
                  rotate_left
                  · (intro y hy; go_simp; try (with_reducible rfl))
                  simp only [Act.put, List.setIfInBounds_toArray, List.set_cons_zero, List.set_cons_succ]
                  refine wpAnyH_take (i := 2) (oi := { dst := some 64, op := Op.fieldAddr 49 (Operand.tmp 9) 0, type := 0, pos := "ref.go:113", after := #[], guard := none }) (v := ?_) rfl (by kernel_rfl) (by kernel_rfl) (by kernel_rfl) (fun _ _ _ h => h) (Or.inl ⟨by rfl, ?_⟩) HP3.out ?_
                  rotate_left
                  · (intro y hy; go_simp; try (with_reducible rfl))
                  simp only [Act.put, List.setIfInBounds_toArray, List.set_cons_zero, List.set_cons_succ]
                  refine wpAnyH_take (i := 3) (oi := { dst := some 65, op := Op.load 9 (Operand.tmp 64), type := 9, pos := "ref.go:113", after := #[{ on := 2, ground := Ground.data }], guard := none }) (v := .string (bs nm)) rfl (by kernel_rfl) (by kernel_rfl) (by kernel_rfl) (fun _ _ _ h => h) (Or.inl ⟨by rfl, ?_⟩) HP3.out ?_
                  · (intro y hy; have h0 := hy.cells.1; go_simp)
                  simp only [Act.put, List.setIfInBounds_toArray, List.set_cons_zero, List.set_cons_succ]
                  refine wpAnyH_take (i := 4) (oi := { dst := some 66, op := Op.fieldAddr 49 (Operand.tmp 9) 1, type := 0, pos := "ref.go:113", after := #[], guard := none }) (v := ?_) rfl (by kernel_rfl) (by kernel_rfl) (by kernel_rfl) (fun _ _ _ h => h) (Or.inl ⟨by rfl, ?_⟩) HP3.out ?_
                  rotate_left
                  · (intro y hy; go_simp; try (with_reducible rfl))
                  simp only [Act.put, List.setIfInBounds_toArray, List.set_cons_zero, List.set_cons_succ]
                  refine wpAnyH_take (i := 5) (oi := { dst := some 67, op := Op.load 31 (Operand.tmp 66), type := 31, pos := "ref.go:113", after := #[{ on := 4, ground := Ground.data }], guard := none }) (v := .slice a2 m c2) rfl (by kernel_rfl) (by kernel_rfl) (by kernel_rfl) (fun _ _ _ h => h) (Or.inl ⟨by rfl, ?_⟩) HP3.out ?_
                  · (intro y hy; have h0 := hy.cells.2.1; go_simp)
                  simp only [Act.put, List.setIfInBounds_toArray, List.set_cons_zero, List.set_cons_succ]
                  refine wpAnyH_take (i := 7) (oi := { dst := some 69, op := Op.fieldAddr 49 (Operand.tmp 9) 2, type := 0, pos := "ref.go:113", after := #[], guard := none }) (v := ?_) rfl (by kernel_rfl) (by kernel_rfl) (by kernel_rfl) (fun _ _ _ h => h) (Or.inl ⟨by rfl, ?_⟩) HP3.out ?_
                  rotate_left
                  · (intro y hy; go_simp; try (with_reducible rfl))
                  simp only [Act.put, List.setIfInBounds_toArray, List.set_cons_zero, List.set_cons_succ]
                  refine wpAnyH_take (i := 8) (oi := { dst := some 70, op := Op.load 3 (Operand.tmp 69), type := 3, pos := "ref.go:113", after := #[{ on := 7, ground := Ground.data }], guard := none }) (v := .int .i64 (S : Int)) rfl (by kernel_rfl) (by kernel_rfl) (by kernel_rfl) (fun _ _ _ h => h) (Or.inl ⟨by rfl, ?_⟩) HP3.out ?_
                  · (intro y hy; have h0 := hy.cells.2.2; go_simp)
                  simp only [Act.put, List.setIfInBounds_toArray, List.set_cons_zero, List.set_cons_succ]
                  refine wpAnyH_ready (rs := [1, 6]) (by kernel_rfl) (by simp) ?_
                  refine AllReadyH.cons (o := { dst := some 63, op := Op.load 26 (Operand.tmp 62), type := 26, pos := "ref.go:113", after := #[{ on := 0, ground := Ground.data }], guard := none }) rfl (fun K hK => ?_) (AllReadyH.cons (o := { dst := some 68, op := Op.call { callee := Callee.value (Operand.func 29), args := #[Operand.tmp 67], argTypes := #[31] }, type := 31, pos := "ref.go:113", after := #[{ on := 5, ground := Ground.data }], guard := none }) rfl (fun K hK => ?_) AllReadyH.nil)
                  · have rq := HQ3.out.cells.1
                    go_simp
                    (refine hK _ _ HP3.out ?_; clear hK K; intro _)
                    try simp only [Act.put, List.setIfInBounds_toArray, List.set_cons_zero, List.set_cons_succ]
                    refine wpAnyH_ready (rs := [6]) (by kernel_rfl) (by simp) ?_
                    refine AllReadyH.cons (o := { dst := some 68, op := Op.call { callee := Callee.value (Operand.func 29), args := #[Operand.tmp 67], argTypes := #[31] }, type := 31, pos := "ref.go:113", after := #[{ on := 5, ground := Ground.data }], guard := none }) rfl (fun K hK => ?_) AllReadyH.nil
                    go_simp
                    refine (copy_m l m HLM.out a2 c2 _ (HBYS.out.keep HB3D.out) hmI).mono ?_
                    rintro _ x7 ⟨v70, rfl, ho7, hb7⟩
                    obtain ⟨a7, c7, hv7⟩ : ∃ a7 c7, v70 = .slice a7 m c7 := by obtain ⟨a7, c7, e7⟩ := row_shape ho7.2; exact ⟨a7, c7, by rw [e7, HLM.out]⟩
                    subst hv7
                    have HO7 : Hid (Own x7 xd.heap.size (.slice a7 m c7) l) := ho7
                    have HB7 : Hid (Below wr.heap.size wr x7) := HB3D.out.trans (hb7.mono HB3D.out.size)
                    have HP4 : Hid ((fun y => FlAt y wr.heap.size nm (.slice a2 m c2) (S : Int)) x7) := HP3.out.keep hb7
                    have HQ7 : Hid (RdAt x7 kd (.slice a' n' c') A.rn) := HQ3.out.keep hb7
                    clear ho7 hb7
                    (refine hK _ _ HP4.out ?_; clear hK K; intro _)
                    try simp only [Act.put, List.setIfInBounds_toArray, List.set_cons_zero, List.set_cons_succ]
                    refine wpAnyH_take (i := 9) (oi := { dst := some 71, op := Op.build 49 #[(0, Operand.tmp 65), (1, Operand.tmp 68), (2, Operand.tmp 70)], type := 49, pos := "ref.go:113", after := #[{ on := 3, ground := Ground.data }, { on := 6, ground := Ground.data }, { on := 8, ground := Ground.data }], guard := none }) (v := ?_) rfl (by kernel_rfl) (by kernel_rfl) (by kernel_rfl) (fun _ _ _ h => h) (Or.inl ⟨by rfl, ?_⟩) HP4.out ?_
                    rotate_left
                    · (intro y hy; go_simp; try (with_reducible rfl))
                    simp only [Act.put, List.setIfInBounds_toArray, List.set_cons_zero, List.set_cons_succ]
                    refine wpAnyH_ready (rs := [10]) (by kernel_rfl) (by simp) ?_
                    refine AllReadyH.cons (o := { dst := some 72, op := Op.call { callee := Callee.value (Operand.func 49), args := #[Operand.tmp 63, Operand.tmp 71], argTypes := #[26, 49] }, type := 26, pos := "ref.go:113", after := #[{ on := 1, ground := Ground.data }, { on := 9, ground := Ground.data }, { on := 6, ground := Ground.chain }], guard := none }) rfl (fun K hK => ?_) AllReadyH.nil
                    go_simp
                    refine (rput_any x7 X a' n' c' HRR.out.len (HRR.out.ff.fls.keep HB7.out) (by have := HRR.out.few; have := HB700.out; omega) nm l S a7 m c7 HLM.out).mono ?_
                    rintro _ x8 ⟨a8, c8, Y8, rfl, hw8, hl8, hm8, hy8, hb8⟩
                    have HP5 : Hid ((fun y => FlAt y wr.heap.size nm (.slice a2 m c2) (S : Int)) x8) := HP4.out.keep hb8
                    have HQ8 : Hid (RdAt x8 kd (.slice a' n' c') A.rn) := HQ7.out.keep hb8
                    have H8 : Hid (RowL x7.heap.size x8 a8 Y8 ∧ Y8.length = n' + 1 ∧ Mem1 X (⟨nm, l, S⟩, .slice a7 m c7) Y8 ∧ Y8.map Prod.fst = putL ⟨nm, l, S⟩ false (X.map Prod.fst) ∧ Below wr.heap.size wr x8 ∧ Below x7.heap.size x7 x8) := ⟨hw8, hl8, hm8, hy8, HB7.out.trans (hb8.mono HB7.out.size), hb8⟩
                    clear hw8 hl8 hm8 hy8 hb8
                    (refine hK _ _ HP5.out ?_; clear hK K; intro _)
                    try simp only [Act.put, List.setIfInBounds_toArray, List.set_cons_zero, List.set_cons_succ]
                    refine wpAnyH_take (i := 11) (oi := { dst := some 73, op := Op.fieldAddr 28 (Operand.tmp 6) 0, type := 0, pos := "ref.go:113", after := #[{ on := 0, ground := Ground.phase }, { on := 1, ground := Ground.phase }, { on := 2, ground := Ground.phase }, { on := 3, ground := Ground.phase }, { on := 4, ground := Ground.phase }, { on := 5, ground := Ground.phase }, { on := 6, ground := Ground.phase }, { on := 7, ground := Ground.phase }, { on := 8, ground := Ground.phase }, { on := 9, ground := Ground.phase }, { on := 10, ground := Ground.phase }], guard := none }) (v := ?_) rfl (by kernel_rfl) (by kernel_rfl) (by kernel_rfl) (fun _ _ _ h => h) (Or.inl ⟨by rfl, ?_⟩) HP5.out ?_
                    rotate_left
                    · (intro y hy; go_simp; try (with_reducible rfl))
                    simp only [Act.put, List.setIfInBounds_toArray, List.set_cons_zero, List.set_cons_succ]
                    refine wpAnyH_ready (rs := [12]) (by kernel_rfl) (by simp) ?_
                    refine AllReadyH.cons (o := { dst := none, op := Op.store 26 (Operand.tmp 73) (Operand.tmp 72), type := 0, pos := "ref.go:113", after := #[{ on := 11, ground := Ground.data }, { on := 10, ground := Ground.data }, { on := 10, ground := Ground.chain }, { on := 0, ground := Ground.phase }, { on := 1, ground := Ground.phase }, { on := 2, ground := Ground.phase }, { on := 3, ground := Ground.phase }, { on := 4, ground := Ground.phase }, { on := 5, ground := Ground.phase }, { on := 6, ground := Ground.phase }, { on := 7, ground := Ground.phase }, { on := 8, ground := Ground.phase }, { on := 9, ground := Ground.phase }, { on := 10, ground := Ground.phase }], guard := none }) rfl (fun K hK => ?_) AllReadyH.nil
                    have g8 := HQ8.out.cells.1
                    have z8 := HQ8.out.froz 0
                    go_simp
                    have HP6 : Hid ((fun y => FlAt y wr.heap.size nm (.slice a2 m c2) (S : Int)) (x8.setCell ⟨kd, 0, none⟩ (.slice a8 (n' + 1) c8))) := (heap_setCell_other x8 ⟨kd, 0, none⟩ _ _ (show wr.heap.size ≠ kd by have := HRR.out.rd.lt; omega)).trans HP5.out
                    have HNX : Hid (MtR w (x8.setCell ⟨kd, 0, none⟩ (.slice a8 (n' + 1) c8)) Y kd (k + 1) (A.put (insA ⟨nm, l, S⟩ A.fs)) Y8 a8 (n' + 1) c8 room) := mt_step HRR.out HE.out HLM.out H8.out.2.2.2.2.1 H8.out.1 HB7.out H8.out.2.1 H8.out.2.2.1 H8.out.2.2.2.1 (own_fv2 HO7.out H8.out.2.2.2.2.2 HLM.out (by unfold maxLen; omega)) (fun g hg => Nat.lt_of_lt_of_le (Nat.lt_of_lt_of_le HRR.out.rd.lt HB3D.out.size) (Own.vblk HO7.out g hg)) (HQ8.out.set0 _) HFK.out HB700.out
                    (refine hK _ _ HP6.out ?_; clear hK K; intro _)
                    try simp only [Act.put, List.setIfInBounds_toArray, List.set_cons_zero, List.set_cons_succ]
                    refine wpAnyH_done (by kernel_rfl) ?_ _
                    go_wp2
                    go_roundw
                    case rel => exact ⟨k + 1, A.put (insA ⟨nm, l, S⟩ A.fs), Y8, a8, n' + 1, c8, by go_num, by rw [HUS.out]; go_num, by omega, HNX.out⟩
                    case measure => simp [intOf]; omega
                  · go_simp
                    refine (copy_m l m HLM.out a2 c2 _ (HBYS.out.keep HB3D.out) hmI).mono ?_
                    rintro _ x7 ⟨v70, rfl, ho7, hb7⟩
                    obtain ⟨a7, c7, hv7⟩ : ∃ a7 c7, v70 = .slice a7 m c7 := by obtain ⟨a7, c7, e7⟩ := row_shape ho7.2; exact ⟨a7, c7, by rw [e7, HLM.out]⟩
                    subst hv7
                    have HO7 : Hid (Own x7 xd.heap.size (.slice a7 m c7) l) := ho7
                    have HB7 : Hid (Below wr.heap.size wr x7) := HB3D.out.trans (hb7.mono HB3D.out.size)
                    have HP4 : Hid ((fun y => FlAt y wr.heap.size nm (.slice a2 m c2) (S : Int)) x7) := HP3.out.keep hb7
                    have HQ7 : Hid (RdAt x7 kd (.slice a' n' c') A.rn) := HQ3.out.keep hb7
                    clear ho7 hb7
                    (refine hK _ _ HP4.out ?_; clear hK K; intro _)
                    try simp only [Act.put, List.setIfInBounds_toArray, List.set_cons_zero, List.set_cons_succ]
                    refine wpAnyH_take (i := 9) (oi := { dst := some 71, op := Op.build 49 #[(0, Operand.tmp 65), (1, Operand.tmp 68), (2, Operand.tmp 70)], type := 49, pos := "ref.go:113", after := #[{ on := 3, ground := Ground.data }, { on := 6, ground := Ground.data }, { on := 8, ground := Ground.data }], guard := none }) (v := ?_) rfl (by kernel_rfl) (by kernel_rfl) (by kernel_rfl) (fun _ _ _ h => h) (Or.inl ⟨by rfl, ?_⟩) HP4.out ?_
                    rotate_left
                    · (intro y hy; go_simp; try (with_reducible rfl))
                    simp only [Act.put, List.setIfInBounds_toArray, List.set_cons_zero, List.set_cons_succ]
                    refine wpAnyH_ready (rs := [1]) (by kernel_rfl) (by simp) ?_
                    refine AllReadyH.cons (o := { dst := some 63, op := Op.load 26 (Operand.tmp 62), type := 26, pos := "ref.go:113", after := #[{ on := 0, ground := Ground.data }], guard := none }) rfl (fun K hK => ?_) AllReadyH.nil
                    have rq := HQ7.out.cells.1
                    go_simp
                    (refine hK _ _ HP4.out ?_; clear hK K; intro _)
                    try simp only [Act.put, List.setIfInBounds_toArray, List.set_cons_zero, List.set_cons_succ]
                    refine wpAnyH_ready (rs := [10]) (by kernel_rfl) (by simp) ?_
                    refine AllReadyH.cons (o := { dst := some 72, op := Op.call { callee := Callee.value (Operand.func 49), args := #[Operand.tmp 63, Operand.tmp 71], argTypes := #[26, 49] }, type := 26, pos := "ref.go:113", after := #[{ on := 1, ground := Ground.data }, { on := 9, ground := Ground.data }, { on := 6, ground := Ground.chain }], guard := none }) rfl (fun K hK => ?_) AllReadyH.nil
                    go_simp
                    refine (rput_any x7 X a' n' c' HRR.out.len (HRR.out.ff.fls.keep HB7.out) (by have := HRR.out.few; have := HB700.out; omega) nm l S a7 m c7 HLM.out).mono ?_
                    rintro _ x8 ⟨a8, c8, Y8, rfl, hw8, hl8, hm8, hy8, hb8⟩
                    have HP5 : Hid ((fun y => FlAt y wr.heap.size nm (.slice a2 m c2) (S : Int)) x8) := HP4.out.keep hb8
                    have HQ8 : Hid (RdAt x8 kd (.slice a' n' c') A.rn) := HQ7.out.keep hb8
                    have H8 : Hid (RowL x7.heap.size x8 a8 Y8 ∧ Y8.length = n' + 1 ∧ Mem1 X (⟨nm, l, S⟩, .slice a7 m c7) Y8 ∧ Y8.map Prod.fst = putL ⟨nm, l, S⟩ false (X.map Prod.fst) ∧ Below wr.heap.size wr x8 ∧ Below x7.heap.size x7 x8) := ⟨hw8, hl8, hm8, hy8, HB7.out.trans (hb8.mono HB7.out.size), hb8⟩
                    clear hw8 hl8 hm8 hy8 hb8
                    (refine hK _ _ HP5.out ?_; clear hK K; intro _)
                    try simp only [Act.put, List.setIfInBounds_toArray, List.set_cons_zero, List.set_cons_succ]
                    refine wpAnyH_take (i := 11) (oi := { dst := some 73, op := Op.fieldAddr 28 (Operand.tmp 6) 0, type := 0, pos := "ref.go:113", after := #[{ on := 0, ground := Ground.phase }, { on := 1, ground := Ground.phase }, { on := 2, ground := Ground.phase }, { on := 3, ground := Ground.phase }, { on := 4, ground := Ground.phase }, { on := 5, ground := Ground.phase }, { on := 6, ground := Ground.phase }, { on := 7, ground := Ground.phase }, { on := 8, ground := Ground.phase }, { on := 9, ground := Ground.phase }, { on := 10, ground := Ground.phase }], guard := none }) (v := ?_) rfl (by kernel_rfl) (by kernel_rfl) (by kernel_rfl) (fun _ _ _ h => h) (Or.inl ⟨by rfl, ?_⟩) HP5.out ?_
                    rotate_left
                    · (intro y hy; go_simp; try (with_reducible rfl))
                    simp only [Act.put, List.setIfInBounds_toArray, List.set_cons_zero, List.set_cons_succ]
                    refine wpAnyH_ready (rs := [12]) (by kernel_rfl) (by simp) ?_
                    refine AllReadyH.cons (o := { dst := none, op := Op.store 26 (Operand.tmp 73) (Operand.tmp 72), type := 0, pos := "ref.go:113", after := #[{ on := 11, ground := Ground.data }, { on := 10, ground := Ground.data }, { on := 10, ground := Ground.chain }, { on := 0, ground := Ground.phase }, { on := 1, ground := Ground.phase }, { on := 2, ground := Ground.phase }, { on := 3, ground := Ground.phase }, { on := 4, ground := Ground.phase }, { on := 5, ground := Ground.phase }, { on := 6, ground := Ground.phase }, { on := 7, ground := Ground.phase }, { on := 8, ground := Ground.phase }, { on := 9, ground := Ground.phase }, { on := 10, ground := Ground.phase }], guard := none }) rfl (fun K hK => ?_) AllReadyH.nil
                    have g8 := HQ8.out.cells.1
                    have z8 := HQ8.out.froz 0
                    go_simp
                    have HP6 : Hid ((fun y => FlAt y wr.heap.size nm (.slice a2 m c2) (S : Int)) (x8.setCell ⟨kd, 0, none⟩ (.slice a8 (n' + 1) c8))) := (heap_setCell_other x8 ⟨kd, 0, none⟩ _ _ (show wr.heap.size ≠ kd by have := HRR.out.rd.lt; omega)).trans HP5.out
                    have HNX : Hid (MtR w (x8.setCell ⟨kd, 0, none⟩ (.slice a8 (n' + 1) c8)) Y kd (k + 1) (A.put (insA ⟨nm, l, S⟩ A.fs)) Y8 a8 (n' + 1) c8 room) := mt_step HRR.out HE.out HLM.out H8.out.2.2.2.2.1 H8.out.1 HB7.out H8.out.2.1 H8.out.2.2.1 H8.out.2.2.2.1 (own_fv2 HO7.out H8.out.2.2.2.2.2 HLM.out (by unfold maxLen; omega)) (fun g hg => Nat.lt_of_lt_of_le (Nat.lt_of_lt_of_le HRR.out.rd.lt HB3D.out.size) (Own.vblk HO7.out g hg)) (HQ8.out.set0 _) HFK.out HB700.out
                    (refine hK _ _ HP6.out ?_; clear hK K; intro _)
                    try simp only [Act.put, List.setIfInBounds_toArray, List.set_cons_zero, List.set_cons_succ]
                    refine wpAnyH_done (by kernel_rfl) ?_ _
                    go_wp2
                    go_roundw
                    case rel => exact ⟨k + 1, A.put (insA ⟨nm, l, S⟩ A.fs), Y8, a8, n' + 1, c8, by go_num, by rw [HUS.out]; go_num, by omega, HNX.out⟩
                    case measure => simp [intOf]; omega
      · obtain rfl : k = n := by omega
        clear hkn hk
        go_wp2_with (first
          | ((with_reducible refine guard_load 28 ?_); refine wpList_load_rd rfl _ rfl HRR.out.rd rfl ?_)
          | ((with_reducible refine guard_store 28 ?_); refine wpList_store_rd rfl _ _ rfl rfl HRR.out.rz (slice_one _ _ _) rfl rfl (v2 := .slice a' n' c') (q2 := A.rn) ?_; intro x9 hr9 hb9 hh9 hs9; have HR9 : Hid (RdAt x9 w.heap.size (.slice a' n' c') A.rn ∧ Below w.heap.size w x9 ∧ (∀ j, j ≠ w.heap.size → x9.heap[j]? = wr.heap[j]?) ∧ x9.heap.size = wr.heap.size) := ⟨hr9, hb9 _ _ HRR.out.low (Nat.le_refl _), hh9, hs9⟩; clear hr9 hb9 hh9 hs9)
          | go_in)
        have hM : mntA (newD room).ab (Y.map Prod.fst) = (0, A) := by
          have h1 := HRR.out.mnt
          rw [List.take_of_length_le (by rw [List.length_map, HN.out]; exact Nat.le_refl _)] at h1
          exact h1
        have hff : FlsF (fun g => kd < g) x9 a' X := HRR.out.ff.turn (Nat.le_of_eq HR9.out.2.2.2.symm) (fun g hg => HR9.out.2.2.1 g (by have := HRR.out.hi; omega))
        exact bodyPost_ret (results_rd2 rfl _ _ _ rfl HR9.out.1) rfl ⟨HR9.out.2.1, .inr ⟨by rw [hM], a', n', c', X, by rw [hM]; rfl, hff.bound.sub (fun g hg => ⟨by have := HRR.out.hi; omega, hg.2⟩), HRR.out.len, by rw [hM]; exact HRR.out.ab, by rw [hM]; exact HRR.out.ok⟩⟩
end Go.Proofs.Ytlnhhgmdajbepaa
namespace Go.Proofs.Ytlnhhgmdajbepaa
open Go.ChangeShapes Go.WideShapes Go.ChangeAt Go.RowKit Go.Shelf
set_option linter.unusedVariables false
theorem FeA.at {w : World} {a : Option Addr} {xs : List (Fe × Value)} (h : FeA w a xs) (k : Nat) (x : Fe × Value) (hx : xs[k]? = some x) : ∃ b off, a = some ⟨b, off, none⟩ ∧ b < w.heap.size ∧ w.cell? ⟨b, off + k * 3, none⟩ = some (.string (bs x.1.name)) ∧ w.cell? ⟨b, off + k * 3 + 1, none⟩ = some x.2 ∧ w.cell? ⟨b, off + k * 3 + 2, none⟩ = some (.int .i64 x.1.s) := by
  rcases h.lie with rfl | ⟨b, off, h1, h2, h3⟩
  · simp at hx
  · have h4 := h3 k x hx
    exact ⟨b, off, h1, h2, h4 0 _ rfl, h4 1 _ rfl, h4 2 _ rfl⟩
set_option maxRecDepth 20000 in
set_option maxHeartbeats 4000000 in
theorem fe_same (xs ys : List (Fe × Value)) (n : Nat) (a a' : Option Addr) (cap cap' : Nat) (w : World) (hxy : xs.map Prod.fst = ys.map Prod.fst) (hn : xs.length = n) (h1 : FeA w a xs) (h2 : FeA w a' ys) (hl : (n : Int) ≤ 16777216000000) :
    Calls Try.prog 23 #[.slice a n cap, .slice a' n cap'] w fun e w' => e = .returned (.bool true) ∧ Below w.heap.size w w' := by
  have hn2 : ys.length = n := by have := congrArg List.length hxy; simp at this; omega
  have HX : Hid (xs.map Prod.fst = ys.map Prod.fst ∧ xs.length = n ∧ ys.length = n ∧ FeA w a xs ∧ FeA w a' ys) := ⟨hxy, hn, hn2, h1, h2⟩
  have hnI : (n : Int) ≤ 16777216000000 := hl
  clear hxy hn hn2 h1 h2
  go_enter Try.func23, Try.ntmps23
  go_wp2
  go_loopw [13] (fun i wr => ∃ k : Nat, k ≤ n ∧ i = .int .i64 k ∧ Below w.heap.size w wr) (fun i _ => n - (intOf i).toNat)
  case atStart => exact ⟨0, Nat.zero_le _, rfl, Below.refl _ _⟩
  case round =>
    obtain ⟨k, hk, rfl, hbe⟩ := hrel
    by_cases hkn : k < n
    · obtain ⟨⟨fa, bv⟩, hp⟩ : ∃ p, xs[k]? = some p := ⟨_, List.getElem?_eq_getElem (by rw [HX.out.2.1]; exact hkn)⟩
      obtain ⟨⟨fa', bv'⟩, hp'⟩ : ∃ p, ys[k]? = some p := ⟨_, List.getElem?_eq_getElem (by rw [HX.out.2.2.1]; exact hkn)⟩
      have hfm : fa' = fa := by
        have h := congrArg (fun L => L[k]?) HX.out.1
        simp only [List.getElem?_map, hp, hp', Option.map_some, Option.some.injEq] at h
        exact h.symm
      subst hfm
      obtain ⟨b, off, rfl, hlt, c0, c1, c2⟩ := (HX.out.2.2.2.1.keep hbe).at k _ hp
      obtain ⟨b', off', rfl, hlt', d0, d1, d2⟩ := (HX.out.2.2.2.2.keep hbe).at k _ hp'
      obtain ⟨⟨a2, s2, e2, hy2⟩, _, hm2, _⟩ := (HX.out.2.2.2.1.keep hbe).byt _ (List.mem_of_getElem? hp)
      obtain ⟨⟨a3, s3, e3, hy3⟩, _, hm3, _⟩ := (HX.out.2.2.2.2.keep hbe).byt _ (List.mem_of_getElem? hp')
      simp only at c0 c1 c2 d0 d1 d2 e2 e3 hy2 hy3 hm2 hm3
      subst e2 e3
      obtain ⟨nm, hnm⟩ : ∃ nm, fa'.name = nm := ⟨_, rfl⟩
      obtain ⟨S, hS⟩ : ∃ S : Int, fa'.s = S := ⟨_, rfl⟩
      obtain ⟨B, hB⟩ : ∃ B, fa'.l = B := ⟨_, rfl⟩
      rw [hnm] at c0 d0
      rw [hS] at c2 d2
      rw [hB] at c1 d1 hy2 hy3 hm2 hm3
      obtain ⟨N, hN⟩ : ∃ N, B.length = N := ⟨_, rfl⟩
      rw [hN] at c1 d1 hm2 hm3
      have HSM : Hid (∀ w1, Below wr.heap.size wr w1 → Calls Try.prog 19 #[.slice a2 N s2, .slice a3 N s3] w1 fun e w' => e = .returned (.bool true) ∧ Below w1.heap.size w1 w') := fun w1 hw1 => (same_at B B N N a2 a3 s2 s3 w1 hN hN (hy2.keep hw1) (hy3.keep hw1) (by rw [hN]; unfold maxLen; omega) (by rw [hN]; unfold maxLen; omega)).mono (fun e w' he => ⟨by rw [he.1, decide_eq_true rfl], by obtain ⟨m, rfl⟩ := he.2; exact below_dn (Below.refl _ _) m⟩)
      have hsz := hbe.size
      clear hp hp' hy2 hy3 hm2 hm3 hN hnm hS hB
      go_wp2
      go_region_held3 (fun w' => w'.cell? ⟨b, off + k * 3, none⟩ = some (.string (bs nm)) ∧ w'.cell? ⟨b, off + k * 3 + 1, none⟩ = some (.slice a2 N s2) ∧ w'.cell? ⟨b, off + k * 3 + 2, none⟩ = some (.int .i64 S) ∧ w'.cell? ⟨b', off' + k * 3, none⟩ = some (.string (bs nm)) ∧ w'.cell? ⟨b', off' + k * 3 + 1, none⟩ = some (.slice a3 N s3) ∧ w'.cell? ⟨b', off' + k * 3 + 2, none⟩ = some (.int .i64 S)) (go_keep) (first
        | (go_at_call 19; refine (HSM.out _ ?_).mono ?_; exact below_dn (Below.refl _ _) _; rintro e w3 ⟨rfl, hb3⟩; have cc0 : w3.cell? ⟨b, off + k * 3, none⟩ = some (.string (bs nm)) := (hb3.cell (p := ⟨b, off + k * 3, none⟩) hlt).trans c0; have cc1 : w3.cell? ⟨b, off + k * 3 + 1, none⟩ = some (.slice a2 N s2) := (hb3.cell (p := ⟨b, off + k * 3 + 1, none⟩) hlt).trans c1; have cc2 : w3.cell? ⟨b, off + k * 3 + 2, none⟩ = some (.int .i64 S) := (hb3.cell (p := ⟨b, off + k * 3 + 2, none⟩) hlt).trans c2; have dd0 : w3.cell? ⟨b', off' + k * 3, none⟩ = some (.string (bs nm)) := (hb3.cell (p := ⟨b', off' + k * 3, none⟩) hlt').trans d0; have dd1 : w3.cell? ⟨b', off' + k * 3 + 1, none⟩ = some (.slice a3 N s3) := (hb3.cell (p := ⟨b', off' + k * 3 + 1, none⟩) hlt').trans d1; have dd2 : w3.cell? ⟨b', off' + k * 3 + 2, none⟩ = some (.int .i64 S) := (hb3.cell (p := ⟨b', off' + k * 3 + 2, none⟩) hlt').trans d2; have HB3 : Hid (Below wr.heap.size wr w3) := (below_dn (Below.refl _ _) _).trans hb3; clear hb3)
        | fail)
      all_goals go_wp2
      all_goals go_roundw
      case rel => exact ⟨k + 1, by omega, by go_num, hbe.trans (HB3.out.mono hsz)⟩
      case measure => simp [intOf]; omega
    · go_wp2
      go_ret
      exact ⟨rfl, hbe⟩
end Go.Proofs.Ytlnhhgmdajbepaa
