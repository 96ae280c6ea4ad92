/- Own texts, joined: Rd3, Tll. -/
import Derived.Test.YtbdgiecnhgiogaaK13
import Derived.Test.YtbdgiecnhgiogaaK14
import Derived.Test.YtbdgiecnhgiogaaK12
namespace Go.Proofs.Ytbdgiecnhgiogaa
open Go.ChangeShapes Go.WideShapes Go.ChangeAt Go.RowKit
set_option linter.unusedVariables false
def getF (fs : List Fld) (t : Int) : Option Fld := fs.find? (fun f => f.tag == t)
def delF (fs : List Fld) (t : Int) : List Fld := fs.filter (fun f => !(f.tag == t))
theorem getF_of (L : List (Fld × Value)) (t : Int) : getF (L.map Prod.fst) t = (getT L t).map Prod.fst := by
  unfold getF getT
  rw [List.find?_map]; rfl
theorem delF_of (L : List (Fld × Value)) (t : Int) : delF (L.map Prod.fst) t = (delT L t).map Prod.fst := by
  unfold delF delT
  rw [List.filter_map]; rfl
/-- the number, the text of a tag; the error behind a take -/
def numF (fs : List Fld) (t : Int) : Nat := match getF fs t with | some f => if f.text = false then f.num else 0 | none => 0
def txtF (fs : List Fld) (t : Int) : List Nat := match getF fs t with | some f => if f.text = true then f.bytes else [] | none => []
def errF (fs : List Fld) (e : Nat) (t : Int) (x : Bool) : Nat := match getF fs t with | some f => if f.text = x then e else 33 | none => e
theorem rdE_of (L : List (Fld × Value)) (e : Nat) (t : Int) (x : Bool) : rdE L e t x = errF (L.map Prod.fst) e t x := by
  unfold rdE errF
  rw [getF_of]
  rcases getT L t with _ | ⟨F, v⟩ <;> rfl
theorem fld_two (T : Int) (X : Bool) (U : Nat) (v : Value) (w : World) : (Instr.field 32 (FV T X U v) 2).run Try.prog w = .ok (.int .u64 (U : Int)) w := by kernel_rfl
theorem fld_three (T : Int) (X : Bool) (U : Nat) (v : Value) (w : World) : (Instr.field 32 (FV T X U v) 3).run Try.prog w = .ok v w := by kernel_rfl
theorem rdV_num (L : List (Fld × Value)) (t : Int) : ∃ T X v, rdV L t false = FV T X (numF (L.map Prod.fst) t) v := by
  unfold rdV numF
  rw [getF_of]
  rcases getT L t with _ | ⟨F, v⟩
  · exact ⟨0, false, _, rfl⟩
  · by_cases h : F.text = false
    · refine ⟨F.tag, F.text, v, ?_⟩
      simp only [Option.map, if_pos h]
    · refine ⟨0, false, .slice none 0 0, ?_⟩
      simp only [Option.map, if_neg h]
theorem numF_le {fs : List Fld} (h : ∀ f ∈ fs, FRight f) (t : Int) : numF fs t ≤ 18446744073709551615 := by
  unfold numF
  rcases hg : getF fs t with _ | f
  · simp
  · simp only
    split
    · exact (h f (List.mem_of_find?_eq_some hg)).1
    · omega
theorem txtF_lt {fs : List Fld} (h : ∀ f ∈ fs, FRight f) (t : Int) : (∀ x ∈ txtF fs t, x < 256) ∧ (txtF fs t).length ≤ 200 := by
  unfold txtF
  rcases hg : getF fs t with _ | f
  · simp
  · simp only
    split
    · exact ⟨(h f (List.mem_of_find?_eq_some hg)).2.2.2, (h f (List.mem_of_find?_eq_some hg)).2.1⟩
    · simp
/-- behind a call of a reader's -/
def RdPost (w : World) (base q b : Nat) (L : List (Fld × Value)) (e : Nat) (t : Int) (x : Bool) (w' : World) : Prop := RdAt w' base q b (delT L t) (errF (L.map Prod.fst) e t x) ∧ Kept q b w w'
theorem take_at (t : Int) (x : Bool) (w : World) (base q b : Nat) (L : List (Fld × Value)) (e : Nat) (h : RdAt w base q b L e) (ht : (Lit.int .i64 t).wf = true) :
    Calls Try.prog 34 #[.pointer (some ⟨q, 0, none⟩), .int .i64 t, .bool x] w fun r w' => r = .returned (rdV L t x) ∧ RdPost w base q b L e t x w' := by
  unfold RdPost
  rw [← rdE_of]
  exact take_any t x w base q b L e h ht
set_option maxRecDepth 20000 in
theorem rnum_any (t : Int) (w : World) (base q b : Nat) (L : List (Fld × Value)) (e : Nat) (h : RdAt w base q b L e) (ht : (Lit.int .i64 t).wf = true) :
    Calls Try.prog 19 #[.pointer (some ⟨q, 0, none⟩), .int .i64 t] w fun r w' => r = .returned (.int .u64 (numF (L.map Prod.fst) t : Int)) ∧ RdPost w base q b L e t false w' := by
  have HR : Hid (RdAt w base q b L e) := h
  obtain ⟨T, X, v, hv⟩ := rdV_num L t
  have HV : Hid (_) := hv
  have hfd := fld_two T X (numF (L.map Prod.fst) t) v
  clear h hv
  go_enter Try.func19, Try.ntmps19
  go_wp2_with (go_at_call 34; refine (take_at t false w base q b L e HR.out ht).mono ?_; rw [HV.out]; rintro r w1 ⟨rfl, hp⟩; have HP : Hid (RdPost w base q b L e t false w1) := hp; clear hp)
  go_ret
  exact ⟨rfl, HP.out⟩
set_option maxRecDepth 20000 in
theorem rint_any (t : Int) (w : World) (base q b : Nat) (L : List (Fld × Value)) (e : Nat) (h : RdAt w base q b L e) (ht : (Lit.int .i64 t).wf = true) (hf : ∀ f ∈ L.map Prod.fst, FRight f) :
    Calls Try.prog 20 #[.pointer (some ⟨q, 0, none⟩), .int .i64 t] w fun r w' => r = .returned (.int .i64 (zag (numF (L.map Prod.fst) t : Int))) ∧ RdPost w base q b L e t false w' := by
  have HR : Hid (RdAt w base q b L e) := h
  obtain ⟨T, X, v, hv⟩ := rdV_num L t
  have HV : Hid (_) := hv
  obtain ⟨u, hu⟩ : ∃ u, numF (L.map Prod.fst) t = u := ⟨_, rfl⟩
  have hle := numF_le hf t
  rw [hu] at hle HV ⊢
  have HL : Hid ((u : Int) ≤ 18446744073709551615) := by show _ ≤ _; omega
  have hfd := fld_two T X u v
  clear h hv hu hf hle
  go_enter Try.func20, Try.ntmps20
  go_wp2_with (first
    | (go_at_call 34; refine (take_at t false w base q b L e HR.out ht).mono ?_; rw [HV.out]; rintro r w1 ⟨rfl, hp⟩; have HP : Hid (RdPost w base q b L e t false w1) := hp; clear hp)
    | (go_at_call 35; refine (zag_any (u : Int) w1 (by omega) HL.out).mono ?_; rintro r w2 ⟨rfl, rfl⟩))
  go_ret
  exact ⟨rfl, HP.out⟩
theorem rdV_text {w : World} {base q b : Nat} {L : List (Fld × Value)} {e : Nat} (h : RdAt w base q b L e) (t : Int) : ∃ T X U v, rdV L t true = FV T X U v ∧ Own w base v (txtF (L.map Prod.fst) t) := by
  unfold rdV txtF
  rw [getF_of]
  rcases hg : getT L t with _ | ⟨F, v⟩
  · exact ⟨0, false, 0, _, rfl, ⟨by simp, World.ownsRow_nil w base _ 1⟩⟩
  · by_cases hx : F.text = true
    · refine ⟨F.tag, F.text, F.num, v, ?_, ?_⟩
      · simp only [if_pos hx]
      · simp only [Option.map, if_pos hx]
        exact h.byt _ (getT_mem hg).1
    · refine ⟨0, false, 0, .slice none 0 0, ?_, ?_⟩
      · simp only [if_neg hx]
      · simp only [Option.map, if_neg hx]
        exact ⟨by simp, World.ownsRow_nil w base _ 1⟩
theorem RdAt.own {w w' : World} {base q b : Nat} {L : List (Fld × Value)} {e : Nat} (h : RdAt w base q b L e) (hk : Kept q b w w') {v : Value} {l : List Nat} (hv : Own w base v l) : Own w' base v l := by
  refine own_other hv (x := q) (y := b) (fun c hc => ?_) (fun c hc => ?_) (fun k hk1 hk2 hk3 => hk.block k hk1 hk2 hk3)
  · rw [h.blk] at hc; cases hc
  · obtain ⟨n2, D2, hm2, _⟩ := h.map
    obtain ⟨es, c2, hb⟩ := map_blk hm2
    rw [hb] at hc; cases hc
set_option maxRecDepth 20000 in
theorem rtext_any (t : Int) (w : World) (base q b : Nat) (L : List (Fld × Value)) (e : Nat) (h : RdAt w base q b L e) (ht : (Lit.int .i64 t).wf = true) :
    Calls Try.prog 21 #[.pointer (some ⟨q, 0, none⟩), .int .i64 t] w fun r w' => ∃ v, r = .returned v ∧ Own w' base v (txtF (L.map Prod.fst) t) ∧ RdPost w base q b L e t true w' := by
  have HR : Hid (RdAt w base q b L e) := h
  obtain ⟨T, X, U, v, hv, ho⟩ := rdV_text h t
  have HV : Hid (_) := hv
  have HO : Hid (Own w base v (txtF (L.map Prod.fst) t)) := ho
  have hfd := fld_three T X U v
  clear h hv ho
  go_enter Try.func21, Try.ntmps21
  go_wp2_with (go_at_call 34; refine (take_at t true w base q b L e HR.out ht).mono ?_; rw [HV.out]; rintro r w1 ⟨rfl, hp⟩; have HP : Hid (RdPost w base q b L e t true w1) := hp; clear hp)
  go_ret
  exact ⟨v, rfl, HR.out.own HP.out.2 HO.out, HP.out⟩
theorem wpList_lenm {ops : Array Oper} {rest : List Oper} {o : Oper} {a : Act} {w : World} {Q : Exit → Act → World → Prop} (hg : o.guard = none) (m : Operand) (hop : o.op = Op.call { callee := Callee.builtin Builtin.len, args := #[m], argTypes := #[71] }) {b n : Nat} {D : DataW Value} {k : Nat} (hm : a.eval m = .map (some b)) (hown : w.ownsMap Try.prog 3 hv b n D) (hk : Maps.size D = k)
    (hK : wpList Try.prog ops Q rest (a.put o.dst (.int .i64 (k : Int))) w) : wpList Try.prog ops Q (o :: rest) a w := by
  subst hk
  exact wpList_len_own w hg m 71 hop 3 32 Try.underlying71 hv b n D hm hown hK
/-- what Err tells -/
def errR (fs : List Fld) (e : Nat) : Nat := if e ≠ 0 then e else if 0 < fs.length then 20 else 0
set_option maxRecDepth 20000 in
theorem rerr_any (w : World) (base q b : Nat) (L : List (Fld × Value)) (e : Nat) (h : RdAt w base q b L e) :
    Calls Try.prog 23 #[.pointer (some ⟨q, 0, none⟩)] w fun r w' => r = .returned (.int .i64 (errR (L.map Prod.fst) e : Int)) ∧ w = w' := by
  obtain ⟨c0, c1, _, _⟩ := h.cells
  obtain ⟨n, D, hm, hr⟩ := h.map
  have HM : Hid (w.ownsMap Try.prog 3 hv b n D) := hm
  have HS : Hid (Maps.size D = L.length) := hr.sz
  have hll : (L.map Prod.fst).length = L.length := List.length_map ..
  obtain ⟨k, hk⟩ : ∃ k, L.length = k := ⟨_, rfl⟩
  rw [hk] at HS
  by_cases he : e = 0
  · subst he
    by_cases h0 : 0 < k
    · have hE : Hid (errR (L.map Prod.fst) 0 = 20) := by show _ = _; unfold errR; rw [if_neg (by simp), if_pos (by omega)]
      have h0I : (0 : Int) < (k : Int) := by omega
      clear h hm hr hll hk h0
      go_enter Try.func23, Try.ntmps23
      go_wp2_with (at_len; refine wpList_lenm rfl _ rfl rfl HM.out HS.out ?_)
      go_ret
      exact ⟨by rw [hE.out]; rfl, rfl⟩
    · obtain rfl : k = 0 := by omega
      have hE : Hid (errR (L.map Prod.fst) 0 = 0) := by show _ = _; unfold errR; rw [if_neg (by simp), if_neg (by omega)]
      clear h hm hr hll hk h0
      go_enter Try.func23, Try.ntmps23
      go_wp2_with (at_len; refine wpList_lenm rfl _ rfl rfl HM.out HS.out ?_)
      go_ret
      exact ⟨by rw [hE.out]; rfl, rfl⟩
  · have hE : Hid (errR (L.map Prod.fst) e = e) := by show _ = _; unfold errR; rw [if_pos he]
    have heb : ((e : Int) != 0) = true := by simp; omega
    have heb2 : ¬ (e : Int) = 0 := by omega
    clear h hm hr hll hk he
    go_enter Try.func23, Try.ntmps23
    go_wp2
    go_ret
    exact ⟨by rw [hE.out]; rfl, rfl⟩
end Go.Proofs.Ytbdgiecnhgiogaa
namespace Go.Proofs.Ytbdgiecnhgiogaa
open Go.ChangeShapes Go.WideShapes Go.ChangeAt Go.RowKit
set_option linter.unusedVariables false
theorem lay3b (w : World) (x y z : Value) (X Y Z : TypeId := 26) : (((w.alloc (.cells #[x] 26)).alloc (.cells #[y] 3)).alloc (.cells #[z] 38)).cell? ⟨w.heap.size, 0, none⟩ = some x ∧ (((w.alloc (.cells #[x] 26)).alloc (.cells #[y] 3)).alloc (.cells #[z] 38)).cell? ⟨w.heap.size + 1, 0, none⟩ = some y ∧ (((w.alloc (.cells #[x] 26)).alloc (.cells #[y] 3)).alloc (.cells #[z] 38)).cell? ⟨w.heap.size + 1 + 1, 0, none⟩ = some z ∧ Below w.heap.size w (((w.alloc (.cells #[x] 26)).alloc (.cells #[y] 3)).alloc (.cells #[z] 38)) := by
  have e0 : (((w.alloc (.cells #[x] 26)).alloc (.cells #[y] 3)).alloc (.cells #[z] 38)).heap[w.heap.size]? = some (.cells #[x] 26) := by
    simp only [World.alloc, Array.getElem?_push, Array.size_push]
    rw [if_neg (by omega), if_neg (by omega), if_pos trivial]
  have e1 : (((w.alloc (.cells #[x] 26)).alloc (.cells #[y] 3)).alloc (.cells #[z] 38)).heap[w.heap.size + 1]? = some (.cells #[y] 3) := by
    simp only [World.alloc, Array.getElem?_push, Array.size_push]
    rw [if_neg (by omega), if_pos trivial]
  have e2 : (((w.alloc (.cells #[x] 26)).alloc (.cells #[y] 3)).alloc (.cells #[z] 38)).heap[w.heap.size + 1 + 1]? = some (.cells #[z] 38) := by
    simp only [World.alloc, Array.getElem?_push, Array.size_push]
    rw [if_pos trivial]
  refine ⟨?_, ?_, ?_, (((Below.refl _ _).alloc (Nat.le_refl _) _).alloc (by simp) _).alloc (by simp; try omega) _⟩
  · rw [cell_of_row _ _ 0 _ _ _ e0]; rfl
  · rw [cell_of_row _ _ 0 _ _ _ e1]; rfl
  · rw [cell_of_row _ _ 0 _ _ _ e2]; rfl
set_option maxRecDepth 20000 in
set_option maxHeartbeats 400000 in
theorem tdec_big (l : List Nat) (a : Option Addr) (n cap : Nat) (w : World) (hn : l.length = n) (hl : ¬ n ≤ 1024) (hm : n ≤ maxLen) :
    Calls Try.prog 26 #[.slice a n cap] w fun r w' => DecPost w l r w' := by
  have hmf : ∀ (fn : Fn) (first cap : Array Value) (w : World), (Instr.makeFunc fn first cap).run Try.prog w = .ok (.func fn first cap) w := fun _ _ _ _ => rfl
  have hlI : (1024 : Int) < (n : Int) := by omega
  have HR : Hid (recs l = ([], 0, 24)) := by show _ = _; unfold recs; rw [if_pos (by omega)]
  clear hn
  go_enter_defers Try.func26, Try.ntmps26
  go_wp2
  obtain ⟨s1, s2, s3, s4⟩ := lay3b w (.slice none 0 0) (.int .i64 0) (.int .i64 24)
  exact ⟨_, results_cells3 rfl _ _ _ _ _ _ _ _ rfl rfl rfl (loadFs s1) (loadI s2) (loadE s3), _, [], by rw [HR.out]; rfl, by rw [HR.out]; rfl, Rws.nil _ _, s4⟩
set_option maxRecDepth 20000 in
set_option maxHeartbeats 400000 in
theorem tdec_nil (a : Option Addr) (cap : Nat) (w : World) :
    Calls Try.prog 26 #[.slice a 0 cap] w fun r w' => DecPost w [] r w' := by
  have hmf : ∀ (fn : Fn) (first cap : Array Value) (w : World), (Instr.makeFunc fn first cap).run Try.prog w = .ok (.func fn first cap) w := fun _ _ _ _ => rfl
  obtain ⟨W, hW, hD⟩ := lay5 w a 0 cap
  have HW : Hid (_ = W) := hW
  have HD : Hid (DecB w W a 0 cap 0 0 (.slice none 0 0)) := hD
  obtain ⟨_, _, _, y1, y2, y3, y4, y5, y6⟩ := hD.cells
  have hn1 : ¬ w.heap.size = w.heap.size + 1 := by omega
  have hn2 : ¬ w.heap.size + 1 = w.heap.size := by omega
  have hn3 : ¬ w.heap.size + 1 + 1 = w.heap.size := by omega
  have hn4 : ¬ w.heap.size + 1 + 1 = w.heap.size + 1 := by omega
  have hre : recs [] = ([], 0, 0) := by rfl
  clear hW hD
  go_enter_defers Try.func26, Try.ntmps26
  go_wp2
  rw [HW.out]
  refine wp_loop_rounds 1 ?_
  rw [rounds_succ]
  go_wp2_with (go_at_call 39; refine (done_any _ _ _ cap _ _ HD.out.cur).mono ?_; rw [decide_eq_true rfl]; rintro r w1 ⟨rfl, m1, rfl⟩)
  refine leaves_cons (f := 38) (args := #[.pointer (some ⟨w.heap.size + 1 + 1 + 1 + 1, 0, none⟩), .pointer (some ⟨w.heap.size, 0, none⟩), .pointer (some ⟨w.heap.size + 1, 0, none⟩), .pointer (some ⟨w.heap.size + 1 + 1, 0, none⟩)]) (by simp) (by simp [go_sem]) ?_
  refine (dclos_idle _ _ _ _ _).mono ?_
  rintro r u' w3 ⟨rfl, rfl, rfl⟩
  have hDD := HD.out.drewN m1
  obtain ⟨W3, hW3, s1, s2, s3, s4⟩ := caught (.slice none 0 0) 0 0 hDD.fs hDD.at0 hDD.er hDD.bel 0
  have hW4 : ((((W.drewN m1).setCell ⟨w.heap.size, 0, none⟩ (.slice none 0 0)).setCell ⟨w.heap.size + 1, 0, none⟩ (.int .i64 0)).setCell ⟨w.heap.size + 1 + 1, 0, none⟩ (.int .i64 0)) = W3 := hW3
  rw [hW4]
  exact ⟨_, results_cells3 rfl _ _ _ _ _ _ _ _ rfl rfl rfl (loadFs s1) (loadI s2) (loadE s3), _, [], by rw [hre]; rfl, by rw [hre]; rfl, Rws.nil _ _, s4⟩
theorem tdec (l : List Nat) (a : Option Addr) (n cap : Nat) (w : World) (hn : l.length = n) (hb : Bytes w a l) (hcap : n ≤ cap) (hm : n ≤ maxLen) :
    Calls Try.prog 26 #[.slice a n cap] w fun r w' => DecPost w l r w' := by
  by_cases hl : n ≤ 1024
  · by_cases h0 : 0 < n
    · obtain ⟨b, off, rfl, _, _⟩ := hb.nonempty (by intro h; subst h; simp at hn; omega)
      exact tdec_any l b off n cap w hn hb hcap hl h0
    · obtain rfl : n = 0 := by omega
      obtain rfl : l = [] := List.length_eq_zero_iff.1 hn
      exact tdec_nil a cap w
  · exact tdec_big l a n cap w hn hl hm
end Go.Proofs.Ytbdgiecnhgiogaa
