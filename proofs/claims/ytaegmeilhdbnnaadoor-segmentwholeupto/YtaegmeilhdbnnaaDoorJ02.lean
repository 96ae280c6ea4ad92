/- Own texts, joined: Sg0, Rfw, Nb, Fr1. -/
import Derived.Test.YtaegmeilhdbnnaaDoorJ01
import Derived.Test.YtaegmeilhdbnnaaDoorJ00
import Derived.RangeFuncNested
import Derived.RangeFuncBound
import Derived.RangeFuncCalls
import Derived.RangeFuncLeaves
import Derived.Shelf.Abstract
import Derived.OwnWalkIn
import Derived.TacticsInMore
import Derived.LoopNIn
import Derived.LoopIn
namespace Go.Proofs.YtaegmeilhdbnnaaDoor
open Go.ChangeShapes Go.WideShapes Go.ChangeAt Go.RowKit
set_option linter.unusedVariables false
/-- numbers behind one another -/
def nencs : List Nat → List Nat
  | [] => []
  | x :: r => enc x ++ nencs r
theorem nencs_append : ∀ (l m : List Nat), nencs (l ++ m) = nencs l ++ nencs m
  | [], m => rfl
  | x :: l, m => by simp only [List.cons_append, nencs, nencs_append l m, List.append_assoc]
theorem nencs_lt : ∀ (l : List Nat), (∀ x ∈ l, x ≤ 18446744073709551615) → ∀ y ∈ nencs l, y < 256
  | [], _, y, hy => by cases hy
  | x :: l, h, y, hy => by
    rcases List.mem_append.1 hy with h1 | h1
    · exact enc_lt 9 x (lt_pow10 x (h x (List.mem_cons_self ..))) y h1
    · exact nencs_lt l (fun z hz => h z (List.mem_cons_of_mem _ hz)) y h1
theorem nencs_len : ∀ (l : List Nat), (∀ x ∈ l, x ≤ 18446744073709551615) → (nencs l).length ≤ 10 * l.length ∧ l.length ≤ (nencs l).length
  | [], _ => by simp [nencs]
  | x :: l, h => by
    have h1 := enc_length_le x (h x (List.mem_cons_self ..))
    have h2 := nencs_len l (fun z hz => h z (List.mem_cons_of_mem _ hz))
    simp only [nencs, List.length_append, List.length_cons]
    omega
/-- so many numbers off the beginning, none above 2^40 + 1 -/
def nrd : Nat → List Nat → Option (List Nat × List Nat)
  | 0, l => some ([], l)
  | c + 1, l => if (dec 0 0 l).2.2 = 0 ∧ (dec 0 0 l).1 ≤ 1099511627777 then (nrd c (l.drop (dec 0 0 l).2.1)).map (fun p => ((dec 0 0 l).1 :: p.1, p.2)) else none
theorem nrd_form : ∀ (c : Nat) (l : List Nat), (∀ x ∈ l, x < 256) → ∀ ns r, nrd c l = some (ns, r) → ns.length = c ∧ l = nencs ns ++ r ∧ ∀ x ∈ ns, x ≤ 1099511627777
  | 0, l, hl, ns, r, h => by
    simp only [nrd, Option.some.injEq, Prod.mk.injEq] at h
    obtain ⟨rfl, rfl⟩ := h
    exact ⟨rfl, rfl, fun x hx => by cases hx⟩
  | c + 1, l, hl, ns, r, h => by
    unfold nrd at h
    by_cases hc : (dec 0 0 l).2.2 = 0 ∧ (dec 0 0 l).1 ≤ 1099511627777
    · rw [if_pos hc] at h
      obtain ⟨p, hp, he⟩ := Option.map_eq_some_iff.1 h
      obtain ⟨h1, h2, h3⟩ := nrd_form c _ (fun x hx => hl x (List.mem_of_mem_drop hx)) p.1 p.2 hp
      simp only [Prod.mk.injEq] at he
      obtain ⟨rfl, rfl⟩ := he
      obtain ⟨_, _, _, _, g5⟩ := vdec_form l hl hc.1
      refine ⟨by rw [List.length_cons, h1], ?_, fun x hx => ?_⟩
      · simp only [nencs]
        rw [List.append_assoc, ← h2, g5, List.take_append_drop]
      · rcases List.mem_cons.1 hx with rfl | hx
        · exact hc.2
        · exact h3 x hx
    · rw [if_neg hc] at h; cases h
theorem nrd_back : ∀ (ns r : List Nat), (∀ x ∈ ns, x ≤ 1099511627777) → nrd ns.length (nencs ns ++ r) = some (ns, r)
  | [], r, _ => rfl
  | x :: ns, r, h => by
    have hx := h x (List.mem_cons_self ..)
    simp only [nencs, List.length_cons, List.append_assoc]
    unfold nrd
    rw [dec_back x _ (by omega)]
    simp only
    rw [if_pos ⟨trivial, hx⟩, List.drop_left, nrd_back ns r (fun z hz => h z (List.mem_cons_of_mem _ hz))]
    rfl
theorem nrd_step (c : Nat) (l : List Nat) (u k e : Nat) (hd : dec 0 0 l = (u, k, e)) : nrd (c + 1) l = if e = 0 ∧ u ≤ 1099511627777 then (nrd c (l.drop k)).map (fun p => (u :: p.1, p.2)) else none := by
  conv => lhs; unfold nrd
  rw [hd]
/-- the header's frame -/
def hdrL (x y : Nat) : List Nat := frameL 2 x (nencs [x, y])
theorem hdr_body (x y : Nat) (hx : x ≤ 999999) (hy : y ≤ 1099511627777) : (∀ z ∈ nencs [x, y], z < 256) ∧ (nencs [x, y]).length ≤ 20 := by
  have h : ∀ z ∈ [x, y], z ≤ 18446744073709551615 := by
    intro z hz
    simp at hz
    omega
  exact ⟨nencs_lt _ h, by have := (nencs_len [x, y] h).1; simpa using this⟩
/-- what a header's bytes tell -/
def hdr (l : List Nat) : Option (Nat × Nat) :=
  if decE l = 0 ∧ pk l = 2 then
    match nrd 2 (decB l) with
    | some ([x, y], []) => if ps l = x ∧ 1 ≤ x ∧ x ≤ 999999 ∧ 1 ≤ y then some (x, y) else none
    | _ => none
  else none
theorem frameL_inj (k s k' s' : Nat) (b b' : List Nat) (h : frameL k s b = frameL k' s' b') (hb : ∀ y ∈ b, y < 256) (hb' : ∀ y ∈ b', y < 256) (hk1 : 1 ≤ k) (hk7 : k ≤ 7) (hn : b.length ≤ 16384) (hs : s ≤ 1099511627776) (hk1' : 1 ≤ k') (hk7' : k' ≤ 7) (hn' : b'.length ≤ 16384) (hs' : s' ≤ 1099511627776) : k = k' ∧ s = s' ∧ b = b' := by
  obtain ⟨_, a2, a3, _, a5⟩ := dec_laid k s b [] hb hk1 hk7 hn hs
  obtain ⟨_, c2, c3, _, c5⟩ := dec_laid k' s' b' [] hb' hk1' hk7' hn' hs'
  rw [h] at a2 a3 a5
  exact ⟨a2.symm.trans c2, a3.symm.trans c3, a5.symm.trans c5⟩
theorem decB_eq {l : List Nat} (h : decE l = 0) : decB l = (l.drop 16).take (pn l) := by unfold decB; rw [if_pos h]
theorem decB_facts {l : List Nat} (hl : ∀ y ∈ l, y < 256) (h : decE l = 0) : (∀ y ∈ decB l, y < 256) ∧ (decB l).length ≤ 16384 ∧ (decB l).length = pn l ∧ 1 ≤ pk l ∧ pk l ≤ 7 ∧ ps l ≤ 1099511627776 ∧ pn l + 20 ≤ l.length := by
  obtain ⟨h1, h2, h3⟩ := decE_zero h
  obtain ⟨_, _, _, g1, g2, g3, g4⟩ := peekE_zero h1
  have e := decB_eq h
  have hlen : (decB l).length = pn l := by rw [e, List.length_take, List.length_drop]; omega
  refine ⟨fun y hy => ?_, by omega, hlen, g2, g3, g4, h2⟩
  rw [e] at hy
  exact hl y (List.mem_of_mem_drop (List.mem_of_mem_take hy))
/-- the document's way: the header's frame must be the very bytes -/
theorem hdr_ref (l : List Nat) (hl : ∀ y ∈ l, y < 256) (h0 : decE l = 0) (hK : pk l = 2) (x k y k2 : Nat) (h1 : dec 0 0 (decB l) = (x, k, 0)) (h2 : dec 0 0 ((decB l).drop k) = (y, k2, 0)) (hx1 : 1 ≤ x) (hx : x ≤ 999999) (hy1 : 1 ≤ y) (hy : y ≤ 1099511627777) :
    hdr l = if hdrL x y = l.take (pn l + 20) then some (x, y) else none := by
  obtain ⟨b1, b2, b3, b4, b5, b6, b7⟩ := decB_facts hl h0
  have hf := dec_form l hl h0
  rw [← decB_eq h0, hK] at hf
  obtain ⟨r, hr⟩ : ∃ r, ((decB l).drop k).drop k2 = r := ⟨_, rfl⟩
  have hrd : nrd 2 (decB l) = some ([x, y], r) := by
    rw [nrd_step 1 _ x k 0 h1, if_pos ⟨rfl, by omega⟩, nrd_step 0 _ y k2 0 h2, if_pos ⟨rfl, hy⟩, hr]
    rfl
  obtain ⟨_, hbd, _⟩ := nrd_form 2 _ b1 _ _ hrd
  obtain ⟨q1, q2⟩ := hdr_body x y hx hy
  unfold hdr
  rw [if_pos ⟨h0, hK⟩, hrd]
  by_cases hr0 : r = []
  · subst hr0
    simp only
    by_cases hs : ps l = x
    · rw [if_pos ⟨hs, hx1, hx, hy1⟩, if_pos]
      rw [hf, hs, hbd, List.append_nil]
      rfl
    · rw [if_neg (fun h => hs h.1), if_neg]
      intro h
      rw [hf] at h
      exact hs (frameL_inj _ _ _ _ _ _ h q1 b1 (by omega) (by omega) (by omega) (by omega) (by omega) (by omega) (by omega) (by omega)).2.1.symm
  · rw [if_neg]
    · cases r with
      | nil => exact absurd rfl hr0
      | cons c r => rfl
    · intro h
      rw [hf] at h
      have := (frameL_inj _ _ _ _ _ _ h q1 b1 (by omega) (by omega) (by omega) (by omega) (by omega) (by omega) (by omega) (by omega)).2.2
      rw [hbd] at this
      have h2 := congrArg List.length this
      rw [List.length_append] at h2
      exact hr0 (List.length_eq_zero_iff.1 (by omega))
theorem hdr_none_e (l : List Nat) (h : decE l ≠ 0 ∨ pk l ≠ 2) : hdr l = none := by
  unfold hdr
  rw [if_neg]
  rintro ⟨h1, h2⟩
  rcases h with h | h
  · exact h h1
  · exact h h2
theorem hdr_none_rd (l : List Nat) (h : nrd 2 (decB l) = none) : hdr l = none := by
  unfold hdr
  rw [h]
  split <;> rfl
theorem hdr_of (l : List Nat) (h0 : decE l = 0) (hK : pk l = 2) (x y : Nat) (r : List Nat) (h : nrd 2 (decB l) = some ([x, y], r)) : hdr l = if r = [] ∧ ps l = x ∧ 1 ≤ x ∧ x ≤ 999999 ∧ 1 ≤ y then some (x, y) else none := by
  unfold hdr
  rw [if_pos ⟨h0, hK⟩, h]
  cases r with
  | nil => simp
  | cons c r => simp
theorem nrd_two (l : List Nat) (hl : ∀ x ∈ l, x < 256) (ns r : List Nat) (h : nrd 2 l = some (ns, r)) : ∃ x y, ns = [x, y] ∧ x ≤ 1099511627777 ∧ y ≤ 1099511627777 := by
  obtain ⟨h1, _, h3⟩ := nrd_form 2 l hl ns r h
  match ns, h1 with
  | [x, y], _ => exact ⟨x, y, rfl, h3 x (by simp), h3 y (by simp)⟩
theorem hdr_some (l : List Nat) (hl : ∀ y ∈ l, y < 256) (x y : Nat) (h : hdr l = some (x, y)) : decE l = 0 ∧ pk l = 2 ∧ ps l = x ∧ 1 ≤ x ∧ x ≤ 999999 ∧ 1 ≤ y ∧ y ≤ 1099511627777 ∧ decB l = nencs [x, y] ∧ pn l + 20 ≤ l.length := by
  unfold hdr at h
  by_cases hc : decE l = 0 ∧ pk l = 2
  · rw [if_pos hc] at h
    obtain ⟨b1, _, _, _, _, _, b7⟩ := decB_facts hl hc.1
    split at h
    · rename_i x' y' hn
      obtain ⟨_, q2, q3⟩ := nrd_form 2 _ b1 _ _ hn
      by_cases hd : ps l = x' ∧ 1 ≤ x' ∧ x' ≤ 999999 ∧ 1 ≤ y'
      · rw [if_pos hd] at h
        simp only [Option.some.injEq, Prod.mk.injEq] at h
        obtain ⟨rfl, rfl⟩ := h
        exact ⟨hc.1, hc.2, hd.1, hd.2.1, hd.2.2.1, hd.2.2.2, q3 _ (by simp), by rw [q2, List.append_nil], b7⟩
      · rw [if_neg hd] at h; cases h
    · cases h
  · rw [if_neg hc] at h; cases h
/-- a laid header, read -/
theorem hdr_back (x y : Nat) (r : List Nat) (hx1 : 1 ≤ x) (hx : x ≤ 999999) (hy1 : 1 ≤ y) (hy : y ≤ 1099511627777) : hdr (hdrL x y ++ r) = some (x, y) := by
  obtain ⟨q1, q2⟩ := hdr_body x y hx hy
  obtain ⟨a1, a2, a3, a4, a5⟩ := dec_laid 2 x (nencs [x, y]) r q1 (by omega) (by omega) (by omega) (by omega)
  unfold hdrL
  have hpk : pk (frameL 2 x (nencs [x, y]) ++ r) = 2 := by unfold decK at a2; rw [if_pos a1] at a2; exact a2
  have hps : ps (frameL 2 x (nencs [x, y]) ++ r) = x := by unfold decS at a3; rw [if_pos a1] at a3; exact a3
  rw [hdr_of _ a1 hpk x y [] (by rw [a5]; have := nrd_back [x, y] [] (by intro z hz; simp at hz; omega); rw [List.append_nil] at this; exact this), hps, if_pos ⟨rfl, rfl, hx1, hx, hy1⟩]
end Go.Proofs.YtaegmeilhdbnnaaDoor
namespace Go.Proofs.YtaegmeilhdbnnaaDoor
open Go.ChangeShapes Go.WideShapes Go.ChangeAt Go.RowKit
set_option linter.unusedVariables false
/-- an iterator's contract: each item x comes in a world W1 of which X pre x W1 is known -/
def SeqW {α : Type} (F : Fence) (n : Nat) (P : Program) (g : Nat) (lb : Array Value) (encs : α → Array Value) (Kp : World → World → Prop) (X : List α → α → World → Prop) (S Sp : List α → Prop) (w : World) : Prop :=
  ∀ (l : Nat) (J Jx : List α → World → Prop) (W : World), Below w.heap.size w W → AbidesFrom W.heap.size J → AbidesFrom W.heap.size Jx →
    (∀ pre x W1, J pre W1 → X pre x W1 → YieldAt F (n - 1) P l (encs x) W1 fun e W' =>
      (e = .returned (.bool true) ∧ J (pre ++ [x]) W' ∧ Kp W1 W') ∨ (e = .returned (.bool false) ∧ Jx (pre ++ [x]) W')) →
    J [] W →
    CallsIn F n P g (#[.func (.yield l) #[] #[]] ++ lb) W fun e W' => (∃ v, e = .returned v) ∧ ((∃ xs, S xs ∧ J xs W') ∨ (∃ pre, Sp pre ∧ Jx pre W'))
section
variable {F : Fence} {n : Nat} {P : Program}
/-- one round of such a loop, from the yield to its end -/
theorem round_w {α : Type} {ps : Array Tmp} {assign body : Code} {tmps : Array Value} {fn : FuncId} {w : World} {encs : α → Array Value} {Kp : World → World → Prop} {X : List α → α → World → Prop} {I : List α → World → Prop} {Ix : Code → List α → World → Prop} {Ax : List α → α → Act → World → Prop}
    (hfn : F.fn fn) (hps : ∀ x, (encs x).size = ps.size)
    (hKt : ∀ {A B C : World}, Kp A B → Kp B C → Kp A C) (hKb : ∀ (W : World) (l : Nat) (o o' : Obj), w.heap.size ≤ l → W.heap[l]? = some o → o.isCells = false → o.isWalk = false → Kp W (W.putObj l o'))
    (hI : OwnFrom w.heap.size I) (hIx : ∀ c, OwnFrom w.heap.size (Ix c)) (hAx : ∀ pre x a', OwnFrom w.heap.size (fun (_ : Unit) W => Ax pre x a' W))
    (hassign : ∀ (l : Nat) (pre : List α) (x : α) (W : World) (K : Act → World → Prop), I pre W → X pre x W → (∀ a' W', KeepsFrom w.heap.size W W' → Kp W W' → I pre W' → Ax pre x a' W' → K a' W') →
      assign.wpIn (F.inRound l) (n - 1 - 1) P (Exit.then K (fun _ _ _ => False)) { tmps := (ps.zip (encs x)).foldl (fun t (p, v) => t.setIfInBounds p v) tmps, defers := [] } W)
    (hbody : ∀ (l : Nat) (pre : List α) (x : α) (a' : Act) (W : World), I pre W → Ax pre x a' W → body.wpIn (F.inRound l) (n - 1 - 1) P (ownPostG w.heap.size Kp I Ix (pre ++ [x]) W) a' W)
    (rec : LoopState → Option Code → Loop) (hrec : rec = fun st pe => { state := st, pending := pe, fn, tmps, params := ps, assign, body, defers := w.heap.size })
    (pre : List α) (x : α) (W : World) (hi : I pre W) (hl : W.heap[w.heap.size + 1]? = some (.loop (rec .ready none))) (hk : W.heap[w.heap.size]? = some (.deferred (some []))) (hX : X pre x W) :
    YieldAt F (n - 1 - 1) P (w.heap.size + 1) (encs x) W fun e W' =>
      (e = .returned (.bool true) ∧ (I (pre ++ [x]) W' ∧ W'.heap[w.heap.size + 1]? = some (.loop (rec .ready none)) ∧ W'.heap[w.heap.size]? = some (.deferred (some []))) ∧ Kp W W') ∨
      (e = .returned (.bool false) ∧ ∃ c, Ix c (pre ++ [x]) W' ∧ W'.heap[w.heap.size + 1]? = some (.loop (rec .done (some c))) ∧ W'.heap[w.heap.size]? = some (.deferred (some []))) := by
  have hy := run_yield (P := P) (args := encs x) hl (by rw [hrec]; exact hps x)
  rw [hrec] at hy
  refine ⟨fn, _, assign, body, hy, roundIn_of_wpIn hfn (hassign _ pre x W _ hi hX fun a' V hfrom hkeep hi' hax => ?_)⟩
  have hlV := hfrom.same _ _ (by omega) hl rfl
  have hkV := hfrom.same _ _ (Nat.le_refl _) hk rfl
  have hlt : w.heap.size + 1 < V.heap.size := (Array.getElem?_eq_some_iff.1 hlV).1
  refine ⟨_, run_beginRound hlV (by rw [hrec]), ?_⟩
  obtain ⟨B, hB⟩ : ∃ B, B = V.putObj (w.heap.size + 1) (.loop { rec .ready none with state := .busy }) := ⟨_, rfl⟩
  rw [← hB]
  have hlB : B.heap[w.heap.size + 1]? = some (.loop { rec .ready none with state := .busy }) := by rw [hB]; exact World.putObj_heap_same hlt
  have hkB : B.heap[w.heap.size]? = some (.deferred (some [])) := by rw [hB]; exact (World.putObj_heap_other (by omega)).trans hkV
  have hVB : Kp V B := by rw [hB]; exact hKb _ _ _ _ (by omega) hlV rfl rfl
  have hiB : I pre B := by rw [hB]; exact hI.putObj _ hi' (by omega) hlV rfl
  have haB : Ax pre x a' B := by rw [hB]; exact (hAx pre x a').putObj (s := ()) _ hax (by omega) hlV rfl
  have close : ∀ (jump : Option Code) (C : World), KeepsFrom w.heap.size B C → ∃ D, D = C.putObj (w.heap.size + 1) (.loop (rec (if jump.isNone then .ready else .done) jump)) ∧ (Instr.endRound (w.heap.size + 1) jump).run P C = .ok (.bool jump.isNone) D ∧ C.heap[w.heap.size + 1]? = some (.loop { rec .ready none with state := .busy }) ∧ D.heap[w.heap.size + 1]? = some (.loop (rec (if jump.isNone then .ready else .done) jump)) ∧ D.heap[w.heap.size]? = some (.deferred (some [])) := by
    intro jump C hC
    have hlC := hC.same _ _ (by omega) hlB rfl
    have hkC := hC.same _ _ (Nat.le_refl _) hkB rfl
    have hend := run_endRound (P := P) jump hlC
    refine ⟨_, rfl, ?_, hlC, World.putObj_heap_same (Array.getElem?_eq_some_iff.1 hlC).1, (World.putObj_heap_other (by omega)).trans hkC⟩
    rw [hrec] at hend ⊢
    exact hend
  refine wpIn_mono (hbody _ pre x a' B hiB haB) fun e a3 C hp => ?_
  cases e with
  | normal =>
    obtain ⟨hC, hkp, hiC⟩ := hp
    obtain ⟨D, rfl, hr, hlC, hlD, hkD⟩ := close none C hC
    exact ⟨_, _, hr, .inl ⟨rfl, ⟨hI.putObj _ hiC (by omega) hlC rfl, hlD, hkD⟩, hKt hkeep (hKt (hKt hVB hkp) (hKb _ _ _ _ (by omega) hlC rfl rfl))⟩⟩
  | ret =>
    obtain ⟨hC, hiC⟩ := hp
    obtain ⟨D, rfl, hr, hlC, hlD, hkD⟩ := close (some .ret) C hC
    exact ⟨_, _, hr, .inr ⟨rfl, .ret, (hIx _).putObj _ hiC (by omega) hlC rfl, hlD, hkD⟩⟩
  | exit id =>
    obtain ⟨hC, hiC⟩ := hp
    obtain ⟨D, rfl, hr, hlC, hlD, hkD⟩ := close (some (.exit id)) C hC
    exact ⟨_, _, hr, .inr ⟨rfl, .exit id, (hIx _).putObj _ hiC (by omega) hlC rfl, hlD, hkD⟩⟩
  | goto t =>
    obtain ⟨hC, hiC⟩ := hp
    obtain ⟨D, rfl, hr, hlC, hlD, hkD⟩ := close (some (.goto t)) C hC
    exact ⟨_, _, hr, .inr ⟨rfl, .goto t, (hIx _).putObj _ hiC (by omega) hlC rfl, hlD, hkD⟩⟩
  | panic ch => exact hp.elim
  | outgrown => exact hp.elim
/-- the loop, by the iterator's contract and one walk of its body -/
theorem range_w {α : Type} {g : Operand} {ps : Array Tmp} {assign body : Code} {Q : Exit → Act → World → Prop} {a : Act} {w : World}
    (hro : F.round = none) (h1 : 1 ≤ n) {gf : Nat} {lb : Array Value} (hg : a.eval g = .func (.func gf) #[] lb) (hFg : F.fn gf) (eg : ∀ args w, (callFunc gf args).run P w = .ok (.enter gf args) w)
    {encs : α → Array Value} {Kp : World → World → Prop} {X : List α → α → World → Prop} {S Sp : List α → Prop} (hseq : SeqW F (n - 1) P gf lb encs Kp X S Sp w) (hps : ∀ x, (encs x).size = ps.size)
    (hKt : ∀ {A B C : World}, Kp A B → Kp B C → Kp A C) (hKb : ∀ (W : World) (l : Nat) (o o' : Obj), w.heap.size ≤ l → W.heap[l]? = some o → o.isCells = false → o.isWalk = false → Kp W (W.putObj l o'))
    (I : List α → World → Prop) (Ix : Code → List α → World → Prop) (hI : OwnFrom w.heap.size I) (hIx : ∀ c, OwnFrom w.heap.size (Ix c)) (h0 : I [] w) (Ax : List α → α → Act → World → Prop) (hAx : ∀ pre x a', OwnFrom w.heap.size (fun (_ : Unit) W => Ax pre x a' W))
    (hassign : ∀ (l : Nat) (pre : List α) (x : α) (W : World) (K : Act → World → Prop), I pre W → X pre x W → (∀ a' W', KeepsFrom w.heap.size W W' → Kp W W' → I pre W' → Ax pre x a' W' → K a' W') →
      assign.wpIn (F.inRound l) (n - 1 - 1) P (Exit.then K (fun _ _ _ => False)) { tmps := (ps.zip (encs x)).foldl (fun t (p, v) => t.setIfInBounds p v) a.tmps, defers := [] } W)
    (hbody : ∀ (l : Nat) (pre : List α) (x : α) (a' : Act) (W : World), I pre W → Ax pre x a' W → body.wpIn (F.inRound l) (n - 1 - 1) P (ownPostG w.heap.size Kp I Ix (pre ++ [x]) W) a' W)
    (hdone : ∀ (D : Nat) (xs : List α) (W : World), w.heap.size ≤ D → S xs → I xs W → W.heap[D]? = some (.deferred (some [])) → Q .normal { a with defers := { target := .collected D, args := #[] } :: a.defers } W)
    (hstop : ∀ (D : Nat) (c : Code) (pre : List α) (W : World), w.heap.size ≤ D → Sp pre → Ix c pre W → W.heap[D]? = some (.deferred (some [])) → c.wpIn F n P Q { a with defers := { target := .collected D, args := #[] } :: a.defers } W) :
    (Code.rangeFunc g ps assign body).wpIn F n P Q a w := by
  refine wpIn_rangeFunc fun fn hfn => ?_
  rw [hro]
  obtain ⟨rec, hrec⟩ : ∃ rec : LoopState → Option Code → Loop, rec = fun st pe => { state := st, pending := pe, fn, tmps := a.tmps, params := ps, assign, body, defers := w.heap.size } := ⟨_, rfl⟩
  obtain ⟨V, hV⟩ : ∃ V, V = (w.alloc (.deferred (some []))).alloc (.loop (rec .ready none)) := ⟨_, rfl⟩
  have hlV : V.heap[w.heap.size + 1]? = some (.loop (rec .ready none)) := by
    have h := World.alloc_heap_new (w.alloc (.deferred (some []))) (.loop (rec .ready none))
    rw [World.size_alloc] at h
    rw [hV]; exact h
  have hkV : V.heap[w.heap.size]? = some (.deferred (some [])) := by rw [hV]; exact (Below.heap_alloc _ _ _ (by simp)).trans (World.alloc_heap_new w _)
  have hiV : I [] V := by rw [hV]; exact hI.alloc _ (hI.alloc _ h0)
  have hbV : Below w.heap.size w V := by rw [hV]; exact ((Below.refl _ w).alloc (Nat.le_refl _) _).alloc (by simp) _
  have hsV : w.heap.size ≤ V.heap.size := hbV.size
  refine ⟨w.heap.size + 1, [{ target := .collected w.heap.size, args := #[] }], V, { target := .fn (.func gf) lb, args := #[.func (.yield (w.heap.size + 1)) #[] #[]] }, V, gf, #[.func (.yield (w.heap.size + 1)) #[] #[]] ++ lb, V, ?_, ?_, ?_, ?_, fun _ => h1, ?_⟩
  · rw [hV, hrec]; exact run_enterLoop_outer _ _ _ _ _
  · simp only [resolve, hg]
    simp [go_sem]
  · intro f' hf'
    simp [Target.leads] at hf'
    subst hf'
    exact hFg
  · simp [invoke, go_sem, eg]
  · have turn : ∀ {A : World} {row : Option Nat}, (∀ r, row = some r → V.heap.size ≤ r ∧ ∃ o : Obj, A.heap[r]? = some o ∧ o.isWalk = true) → ∀ r, row = some r → w.heap.size ≤ r ∧ ∃ o : Obj, A.heap[r]? = some o ∧ o.isCells = false := by
      intro A row hr r e
      obtain ⟨q1, o, q2, q3⟩ := hr r e
      exact ⟨Nat.le_trans hsV q1, o, q2, Obj.not_cells_of_walk q3⟩
    refine (hseq (w.heap.size + 1)
      (fun pre W => I pre W ∧ W.heap[w.heap.size + 1]? = some (.loop (rec .ready none)) ∧ W.heap[w.heap.size]? = some (.deferred (some [])))
      (fun pre W => ∃ c, Ix c pre W ∧ W.heap[w.heap.size + 1]? = some (.loop (rec .done (some c))) ∧ W.heap[w.heap.size]? = some (.deferred (some [])))
      V hbV ?_ ?_ ?_ ⟨hiV, hlV, hkV⟩).mono ?_
    · rintro s A B row ⟨q1, q2, q3⟩ hgr hr
      exact ⟨hI s A B row q1 hgr (turn hr), (grownBy_keeps hgr (fun r e => (hr r e).2) q2 rfl).trans q2, (grownBy_keeps hgr (fun r e => (hr r e).2) q3 rfl).trans q3⟩
    · rintro s A B row ⟨c, q1, q2, q3⟩ hgr hr
      exact ⟨c, hIx c s A B row q1 hgr (turn hr), (grownBy_keeps hgr (fun r e => (hr r e).2) q2 rfl).trans q2, (grownBy_keeps hgr (fun r e => (hr r e).2) q3 rfl).trans q3⟩
    · rintro pre x W ⟨q1, q2, q3⟩ hX
      exact round_w (Kp := Kp) hfn hps hKt hKb hI hIx hAx hassign hbody rec hrec pre x W q1 q2 q3 hX
    · rintro e W2 ⟨⟨v, rfl⟩, (⟨xs, hS, q1, q2, q3⟩ | ⟨pre, hSp, c, q1, q2, q3⟩)⟩
      · have h := run_endLoop (P := P) q2 (by rw [hrec]; simp)
        rw [hrec] at h
        exact ⟨none, _, h, hdone _ xs _ (Nat.le_refl _) hS (hI.putObj _ q1 (by omega) q2 rfl) ((World.putObj_heap_other (by omega)).trans q3)⟩
      · have h := run_endLoop (P := P) q2 (by rw [hrec]; simp)
        rw [hrec] at h
        exact ⟨some c, _, h, hstop _ c pre _ (Nat.le_refl _) hSp ((hIx c).putObj _ q1 (by omega) q2 rfl) ((World.putObj_heap_other (by omega)).trans q3)⟩
end
end Go.Proofs.YtaegmeilhdbnnaaDoor
namespace Go.Proofs.YtaegmeilhdbnnaaDoor
open Go.ChangeShapes Go.WideShapes Go.ChangeAt Go.RowKit
set_option linter.unusedVariables false
theorem below_next {w a b : World} (h : Below w.heap.size w a) (k : Below a.heap.size a b) : Below w.heap.size w b := h.trans (k.mono h.size)
theorem lt_of_heap {w : World} {k : Nat} {o : Obj} (h : w.heap[k]? = some o) : k < w.heap.size := by
  by_cases hh : k < w.heap.size
  · exact hh
  · rw [Array.getElem?_eq_none (by omega)] at h; cases h
theorem own_below {w w' : World} {base : Nat} {e : TypeId} {size : Nat} {v : Value} {n : Nat} {xs : List Value} (h : w.ownsRow base e size v n xs) (hb : Below w.heap.size w w') : w'.ownsRow base e size v n xs := by
  refine ⟨h.1, ?_⟩
  rcases h.2 with h2 | ⟨g, cap, cur, h3, h4, h5, h6⟩
  · exact .inl h2
  · refine .inr ⟨g, cap, cur, h3, h4, ?_, h6⟩
    have hlt : g < w.heap.size := by
      by_cases hh : g < w.heap.size
      · exact hh
      · rw [Array.getElem?_eq_none (by omega)] at h5; cases h5
    rw [hb.block g hlt]; exact h5
theorem grown_other {w w' : World} {base n k T : Nat} {v : Value} {xs : List Value} {c : Array Value} {m : Nat × Nat} (ho : w.ownsRow base 5 1 v n xs) (hg : w.grownBy w' v.ownBlock) (hk : w.heap[k]? = some (.cells c T m)) (hT : T ≠ 5) : w'.heap[k]? = some (.cells c T m) := by
  rw [hg.block k (lt_of_heap hk) (fun h => ?_)]
  · exact hk
  · rcases ho.2 with ⟨rfl, _⟩ | ⟨g, cap, cur, rfl, _, hh, _⟩
    · simp [Value.ownBlock] at h
    · have : k = g := by simpa [Value.ownBlock] using h
      subst this
      rw [hk] at hh
      cases hh
      exact hT rfl
/-- blocks that hold no bytes are as they were -/
def NB (w w' : World) : Prop := ∀ (k : Nat) (c : Array Value) (T : TypeId) (m : Nat × Nat), w.heap[k]? = some (Obj.cells c T m) → T ≠ 5 → w'.heap[k]? = some (Obj.cells c T m)
theorem NB.trans {a b c : World} (h : NB a b) (k : NB b c) : NB a c := fun j x T m h1 h2 => k j x T m (h j x T m h1 h2) h2
theorem NB.of_below {w w' : World} (h : Below w.heap.size w w') : NB w w' := fun j x T m h1 _ => (h.block j (lt_of_heap h1)).trans h1
theorem NB.of_grown {w w' : World} {base n : Nat} {v : Value} {xs : List Value} (ho : w.ownsRow base 5 1 v n xs) (hg : w.grownBy w' v.ownBlock) : NB w w' := fun j x T m h1 h2 => grown_other ho hg h1 h2
theorem NB.refl (w : World) : NB w w := fun _ _ _ _ h _ => h
end Go.Proofs.YtaegmeilhdbnnaaDoor
namespace Go.Proofs.YtaegmeilhdbnnaaDoor
open Go.ChangeShapes Go.WideShapes Go.ChangeAt Go.RowKit
set_option linter.unusedVariables false
/-- the size of a frame whose body has n bytes -/
def fsz (n : Int) : Int := if n < 0 ∨ 16384 < n then 0 else n + 20
def inB (k s : Int) : Bool := decide (1 ≤ k ∧ k ≤ 7 ∧ 0 ≤ s ∧ s ≤ 1099511627776)
set_option maxRecDepth 20000 in
set_option maxHeartbeats 400000 in
theorem fsize_any (n : Int) (w : World) : Calls Tryd.prog 59 #[.int .i64 n] w fun e w' => e = .returned (.int .i64 (fsz n)) ∧ w = w' := by
  by_cases h1 : n < 0
  · have HF : Hid (fsz n = 0) := by show _ = _; unfold fsz; rw [if_pos (.inl h1)]
    go_enter Tryd.func59, Tryd.ntmps59
    go_wp2
    go_ret
    exact ⟨by rw [HF.out]; rfl, rfl⟩
  by_cases h2 : 16384 < n
  · have HF : Hid (fsz n = 0) := by show _ = _; unfold fsz; rw [if_pos (.inr h2)]
    go_enter Tryd.func59, Tryd.ntmps59
    go_wp2
    go_ret
    exact ⟨by rw [HF.out]; rfl, rfl⟩
  · have HF : Hid (fsz n = n + 20) := by show _ = _; unfold fsz; rw [if_neg (by omega)]
    go_enter Tryd.func59, Tryd.ntmps59
    go_wp2
    go_ret
    exact ⟨ret_int (by rw [HF.out]; omega), rfl⟩
set_option maxRecDepth 20000 in
set_option maxHeartbeats 400000 in
theorem inb_any (k s : Int) (w : World) : Calls Tryd.prog 58 #[.int .i64 k, .int .i64 s] w fun e w' => e = .returned (.bool (inB k s)) ∧ w = w' := by
  by_cases h1 : 1 ≤ k
  · by_cases h2 : k ≤ 7
    · by_cases h3 : 0 ≤ s
      · by_cases h4 : s ≤ 1099511627776
        · have HF : Hid (inB k s = true) := by show _ = _; simp [inB]; omega
          go_enter Tryd.func58, Tryd.ntmps58
          go_wp2
          go_ret
          exact ⟨by rw [HF.out]; rfl, rfl⟩
        · have HF : Hid (inB k s = false) := by show _ = _; simp [inB]; omega
          go_enter Tryd.func58, Tryd.ntmps58
          go_wp2
          go_ret
          exact ⟨by rw [HF.out]; rfl, rfl⟩
      · have HF : Hid (inB k s = false) := by show _ = _; simp [inB]; omega
        go_enter Tryd.func58, Tryd.ntmps58
        go_wp2
        go_ret
        exact ⟨by rw [HF.out]; rfl, rfl⟩
    · have HF : Hid (inB k s = false) := by show _ = _; simp [inB]; omega
      go_enter Tryd.func58, Tryd.ntmps58
      go_wp2
      go_ret
      exact ⟨by rw [HF.out]; rfl, rfl⟩
  · have HF : Hid (inB k s = false) := by show _ = _; simp [inB]; omega
    go_enter Tryd.func58, Tryd.ntmps58
    go_wp2
    go_ret
    exact ⟨by rw [HF.out]; rfl, rfl⟩
theorem Tryd.info5f : (Tryd.prog.info? 5).map (fun i => (i.zero, i.size, i.bytes)) = some (some (.int .u8 0), 1, 1) := by kernel_rfl
set_option maxRecDepth 20000 in
set_option maxHeartbeats 1000000 in
theorem alow_any (x K : Nat) (base : Nat) (v : Value) (n : Nat) (xs : List Value) (w : World) (hx : x ≤ 9223372036854775807) (hK : K ≤ 8) (hown : w.ownsRow base 5 1 v n xs) (hbase : base ≤ w.heap.size) (hn : n + 10 ≤ 140737488355328) :
    Calls Tryd.prog 60 #[v, .int .i64 x, .int .i64 K] w fun e w' => ∃ v', e = .returned v' ∧ w'.ownsRow base 5 1 v' (n + K) (xs ++ B8 (le K x)) ∧ Below base w w' ∧ NB w w' := by
  obtain ⟨i0, hi, hz0, hz1, hz2⟩ := info_parts Tryd.info5f
  go_enter Tryd.func60, Tryd.ntmps60
  go_wp2
  go_loopw [0, 1, 8] (fun vb vu vi wr => ∃ (j y : Nat), vi = .int .i64 j ∧ vu = .int .i64 y ∧ y = x / 256 ^ j ∧ y ≤ 9223372036854775807 ∧ j ≤ K ∧ wr.ownsRow base 5 1 vb (n + j) (xs ++ B8 (le j x)) ∧ Below base w wr ∧ NB w wr) (fun _ _ vi _ => K - (intOf vi).toNat)
  case atStart => exact ⟨0, x, rfl, rfl, by simp, hx, Nat.zero_le _, by simpa [B8, le] using hown, Below.refl _ _, NB.refl _⟩
  case round =>
    obtain ⟨j, y, rfl, rfl, hy, hyl, hj, ho, hbe, hnb⟩ := hrel
    have HY : Hid (y = x / 256 ^ j) := hy
    have HNB : Hid (NB w wr) := hnb
    have HHOWN := hown
    clear hy hown hnb HHOWN
    have hsz := hbe.size
    by_cases hlt : j < K
    · have HU : Hid (IntKind.u8.wrap (y : Int) = ((x / 256 ^ j % 256 : Nat) : Int)) := by show _ = _; rw [IntKind.wrap_u8', HY.out]; omega
      go_wp2_with (at_builtin; refine wpList_append_own _ rfl _ _ 22 rfl base 5 i0 (.int .u8 0) 1 1 Tryd.underlying22 hi hz0 hz1 hz2 rfl (by decide) _ _ _ rfl (ho.alloc _) ⟨wr.heap.size, 0, none⟩ 1 1 [.int .u8 (IntKind.u8.wrap (y : Int))] rfl rfl (cell_new _ _ _) (one_new _) (by unfold maxLen; omega) (by omega) (by simp; omega) ?_)
      intro v' w1 hown' hgrow _
      have hb1 := grown_row (hbe.alloc (by omega) _) (ho.alloc _) (by simp; omega) hgrow
      have hq1 : NB w w1 := HNB.out.trans ((NB.of_below ((Below.refl wr.heap.size wr).alloc (Nat.le_refl _) _)).trans (NB.of_grown (ho.alloc _) hgrow))
      have HQ1 : Hid (NB w w1) := hq1
      clear hgrow ho hbe hq1
      go_wp2
      go_roundw
      case rel =>
        refine ⟨j + 1, y / 256, by go_num, by go_num, ?_, by omega, by omega, ?_, hb1, HQ1.out⟩
        · rw [HY.out, Nat.div_div_eq_div_mul, Nat.pow_succ]
        · rw [HU.out] at hown'
          rw [le_snoc, B8_append, ← Nat.add_assoc]
          exact hown'
      case measure => simp [intOf]; omega
    · obtain rfl : j = K := by omega
      have HO : Hid (_) := ho
      go_wp2
      go_ret
      exact ⟨_, rfl, HO.out, hbe, HNB.out⟩
theorem wrap64_nil : wrap64 ((Crcm.val [] : Nat) : Int) = 0 := by unfold wrap64; rw [show Crcm.val [] = 0 from rfl]; omega
theorem i64_or_raw (a b : Int) : bits .or .i64 a b = IntKind.i64.wrap (((a % 18446744073709551616).toNat ||| (b % 18446744073709551616).toNat : Nat) : Int) := by
  show IntKind.i64.wrap ((BitVec.ofInt 64 a ||| BitVec.ofInt 64 b).toNat : Int) = _
  rw [BitVec.toNat_or, BitVec.toNat_ofInt, BitVec.toNat_ofInt]
  rfl
theorem wrap64_nat (a : Nat) (h : a < 18446744073709551616) : (wrap64 (a : Int) % 18446744073709551616).toNat = a := by
  unfold wrap64
  omega
theorem or_low (a c k : Nat) (ha : a < 2 ^ (8 * k)) (hc : c < 256) (hk : k ≤ 7) : bits .or .i64 (wrap64 (a : Int)) (wrap64 ((c : Int) * 2 ^ (8 * k))) = wrap64 ((a + c * 2 ^ (8 * k) : Nat) : Int) := by
  have h1 : 2 ^ (8 * k) ≤ 72057594037927936 := by
    have : 2 ^ (8 * k) ≤ 2 ^ 56 := Nat.pow_le_pow_right (by omega) (by omega)
    rw [show (2 : Nat) ^ 56 = 72057594037927936 from by decide] at this
    exact this
  have h2 : c * 2 ^ (8 * k) + 2 ^ (8 * k) ≤ 256 * 2 ^ (8 * k) := by
    rw [← Nat.succ_mul]; exact Nat.mul_le_mul_right _ hc
  have e1 : ((c : Int) * 2 ^ (8 * k)) = ((c * 2 ^ (8 * k) : Nat) : Int) := by simp
  have e3 := nat_join (8 * k) (c * 2 ^ (8 * k)) a (Nat.mul_mod_left _ _) ha
  rw [e1, i64_or_raw]
  generalize c * 2 ^ (8 * k) = M at *
  generalize 2 ^ (8 * k) = S at *
  rw [wrap64_nat a (by omega), wrap64_nat M (by omega), Nat.or_comm, e3, wrap_i64, Nat.add_comm]
  unfold wrap64
  rfl
set_option maxRecDepth 20000 in
set_option maxHeartbeats 400000 in
theorem low_any (l : List Nat) (n : Nat) (b off cap : Nat) (w : World) (hn : l.length = n) (h8 : n ≤ 8) (hb : Bytes w (some ⟨b, off, none⟩) l) :
    Calls Tryd.prog 87 #[.slice (some ⟨b, off, none⟩) n cap] w fun e w' => e = .returned (.int .i64 (wrap64 (Crcm.val l))) ∧ w = w' := by
  subst hn
  obtain ⟨hby, rfl | ⟨b', off', hE, hlt, hcell⟩⟩ := hb
  · go_enter Tryd.func87, Tryd.ntmps87
    go_wp2
    refine wp_loop_rounds 1 ?_
    rw [rounds_succ]
    go_wp2
    go_ret
    exact ⟨ret_int (show (0 : Int) = wrap64 ((Crcm.val [] : Nat) : Int) from wrap64_nil.symm), rfl⟩
  · cases hE
    have HBY : Hid (∀ i, l.getD i 0 < 256) := hby
    have HCELL : Hid (∀ i, i < l.length → w.cell? ⟨b, off + i, none⟩ = some (.int .u8 (l.getD i 0 : Nat))) := hcell
    clear hby hcell
    go_enter Tryd.func87, Tryd.ntmps87
    go_wp2
    go_loop [3, 8] (fun vr vi => ∃ k : Nat, ∃ r : Int, k ≤ l.length ∧ vi = .int .i64 k ∧ vr = .int .i64 r ∧ r = wrap64 (Crcm.val (l.take k))) (fun _ vi => l.length - (intOf vi).toNat)
    case atStart => exact ⟨0, 0, Nat.zero_le _, rfl, rfl, by rw [List.take_zero]; exact wrap64_nil.symm⟩
    case round =>
      obtain ⟨k, r, hk, rfl, rfl, hr⟩ := hrel
      have HR : Hid (r = wrap64 (Crcm.val (l.take k))) := hr
      clear hr
      by_cases hkl : k < l.length
      · have hc := HCELL.out k hkl
        have hc256 := HBY.out k
        obtain ⟨c, hcE⟩ : ∃ c, c = l.getD k 0 := ⟨_, rfl⟩
        rw [← hcE] at hc hc256
        have HN : Hid (bits .or .i64 r (wrap64 ((c : Int) * 2 ^ (8 * k))) = wrap64 ((Crcm.val (l.take (k + 1)) : Nat) : Int)) := by
          show _ = _
          rw [HR.out, or_low _ c k ?_ hc256 (by omega), take_snoc_nat l k c hkl hcE, Crcm.val_append, List.length_take, Nat.min_eq_left (by omega)]
          · rw [show Crcm.val [c] = c from rfl, Nat.mul_comm c]
          · have := Crcm.val_lt (l.take k) (fun x hx => by obtain ⟨i, hi, rfl⟩ := List.getElem_of_mem (List.mem_of_mem_take hx); have := HBY.out i; simpa [List.getD_eq_getElem?_getD, List.getElem?_eq_getElem hi] using this)
            rw [List.length_take, Nat.min_eq_left (by omega)] at this
            exact this
        clear hcE HCELL HBY
        go_wp2
        go_round
        case rel => exact ⟨k + 1, _, by omega, by go_num, rfl, HN.out⟩
        case measure => simp [intOf]; omega
      · go_wp2
        go_ret
        exact ⟨ret_int (by rw [HR.out, List.take_of_length_le (by omega)]), rfl⟩
end Go.Proofs.YtaegmeilhdbnnaaDoor
