/- Proved: rules of the walk: a region that draws its order, in which operations stand that turn memory (which ones: A), one behind the other (each waits for those ahead of it), beside operations and calls to which that makes no difference: one walk of the text's order serves every order. No condition. -/
import Derived.WalkKit
import Derived.Deep.QuietTactic
import Derived.BigQuiet
namespace Go.Proofs.YtifcibmpeolmdaaDoor
open Go.RowKit

section
variable {P : Program} {ops : Array Oper} {md : Region.Mode} {C : Nat → World → Prop} {A : Oper → Bool}

/-- A call of a Go function. -/
def isCall (o : Oper) : Bool := match o.op with
  | .call c => (match c.callee with | .value _ => true | _ => false)
  | _ => false
/-- What makes memory, or stores. -/
def isMade (o : Oper) : Bool := match o.op with
  | .alloc _ => true
  | .store _ _ _ => true
  | _ => false
def actAt (A : Oper → Bool) (ops : Array Oper) (i : Nat) : Bool := match ops[i]? with | some o => A o | none => false
/-- Operation j waits for i, maybe through others. -/
def waitsB (md : Region.Mode) (ops : Array Oper) : Nat → Nat → Nat → Bool
  | 0, _, _ => false
  | f + 1, j, i => match ops[j]? with
    | none => false
    | some o => o.after.toList.any fun e => Region.binds md e && (e.on == i || waitsB md ops f e.on i)
/-- Calls wait for the calls ahead of them. -/
def chainB (A : Oper → Bool) (md : Region.Mode) (ops : Array Oper) : Bool :=
  (List.range ops.size).all fun i => (List.range ops.size).all fun j => !(decide (i < j) && actAt A ops i && actAt A ops j) || waitsB md ops ops.size j i

def Closed (md : Region.Mode) (ops : Array Oper) (listed : Array Bool) : Prop := ∀ j o, ops[j]? = some o → listed.getD j false = true → ∀ e ∈ o.after, Region.binds md e = true → listed.getD e.on false = true
theorem Closed.start (n : Nat) : Closed md ops (Array.replicate n false) := by
  intro j o _ h
  exfalso
  rw [Array.getD_eq_getD_getElem?, Array.getElem?_replicate] at h
  split at h <;> simp at h
theorem Closed.more {listed : Array Bool} {i : Nat} (h : Closed md ops listed) (hi : i ∈ Region.ready md ops listed) : Closed md ops (listed.setIfInBounds i true) := by
  intro j o ho hj e he hb
  obtain ⟨_, oi, hoi, hall⟩ := mem_ready.1 hi
  by_cases hij : i = j
  · subst hij
    rw [hoi] at ho
    injection ho with ho
    subst ho
    exact getD_set_true (hall e he hb)
  · rw [getD_set_ne false hij] at hj
    exact getD_set_true (h j o ho hj e he hb)
theorem waits_listed {listed : Array Bool} (hc : Closed md ops listed) (i : Nat) : ∀ (f j : Nat) (o : Oper), ops[j]? = some o → (∀ e ∈ o.after, Region.binds md e = true → listed.getD e.on false = true) → waitsB md ops f j i = true → listed.getD i false = true
  | 0, _, _, _, _, h => by simp [waitsB] at h
  | f + 1, j, o, ho, hall, h => by
    simp only [waitsB, ho, List.any_eq_true, Bool.and_eq_true, Bool.or_eq_true, beq_iff_eq] at h
    obtain ⟨e, he, hb, h⟩ := h
    have he2 : e ∈ o.after := by simpa using he
    have hl := hall e he2 hb
    rcases h with h | h
    · rw [← h]; exact hl
    · cases ho2 : ops[e.on]? with
      | none => cases f <;> simp [waitsB, ho2] at h
      | some o2 => exact waits_listed hc i f e.on o2 ho2 (fun e' h' hb' => hc e.on o2 ho2 hl e' h' hb') h
theorem unlisted {listed : Array Bool} {i : Nat} (h : listed.getD i true = false) (h2 : listed.getD i false = true) : False := by
  rw [Array.getD_eq_getD_getElem?] at h h2
  cases hh : listed[i]? with
  | none => rw [hh] at h; simp at h
  | some b => rw [hh] at h h2; simp at h h2; rw [h] at h2; cases h2
theorem chain_one (hB : chainB A md ops = true) {listed : Array Bool} (hc : Closed md ops listed) {i j : Nat} (hi : i ∈ Region.ready md ops listed) (hj : j ∈ Region.ready md ops listed) (hne : j ≠ i) (ai : actAt A ops i = true) (aj : actAt A ops j = true) : False := by
  obtain ⟨ui, oi, hoi, halli⟩ := mem_ready.1 hi
  obtain ⟨uj, oj, hoj, hallj⟩ := mem_ready.1 hj
  have li : i < ops.size := (Array.getElem?_eq_some_iff.1 hoi).1
  have lj : j < ops.size := (Array.getElem?_eq_some_iff.1 hoj).1
  simp only [chainB, List.all_eq_true, List.mem_range] at hB
  rcases Nat.lt_or_gt_of_ne hne with h | h
  · have hw := hB j lj i li
    simp only [h, ai, aj, decide_true, Bool.and_self, Bool.not_true, Bool.false_or] at hw
    exact unlisted uj (waits_listed hc j _ i oi hoi halli hw)
  · have hw := hB i li j lj
    simp only [h, ai, aj, decide_true, Bool.and_self, Bool.not_true, Bool.false_or] at hw
    exact unlisted ui (waits_listed hc i _ j oj hoj hallj hw)

/-- One value, in every world of every phase; the phase stays. -/
def Still (P : Program) (C : Nat → World → Prop) (o : Oper) (a : Act) (v : Value) : Prop := ∀ q w, C q w → o.quietAt P a (C q) w v
def doneUpon (P : Program) (C' : World → Prop) (v : Value) : Result Next → Prop
  | .ok (.value u) w' => C' w' ∧ u = v
  | .ok .skip w' => C' w' ∧ v = undef
  | .ok (.enter f args) w' => Calls P f args w' (fun e w'' => e = .returned v ∧ C' w'')
  | _ => False
/-- An operation that brings the next phase. -/
def Acts (P : Program) (C : Nat → World → Prop) (A : Oper → Bool) (o : Oper) (a : Act) (p : Nat) (v : Value) : Prop :=
  A o = true ∧ ∀ w, C p w → doneUpon P (C (p + 1)) v ((execOp a.eval o).run P w)
/-- One operation, from phase p on. -/
def PhStep (P : Program) (ops : Array Oper) (C : Nat → World → Prop) (A : Oper → Bool) (o : Oper) (K : Act → Nat → Prop) (a : Act) (p : Nat) : Prop :=
  (Region.wanted o (yielded ops a.tmps) = true ∧ ∃ v, Still P C o a v ∧ K (a.put o.dst v) p) ∨
  (Region.wanted o (yielded ops a.tmps) = true ∧ ∃ v, Acts P C A o a p v ∧ K (a.put o.dst v) (p + 1)) ∨
  (Region.wanted o (yielded ops a.tmps) = false ∧ K (a.put o.dst undef) p)
def phOp (P : Program) (ops : Array Oper) (C : Nat → World → Prop) (A : Oper → Bool) (i : Nat) (K : Act → Nat → Prop) (a : Act) (p : Nat) : Prop :=
  match ops[i]? with
  | none => K a p
  | some o => PhStep P ops C A o K a p
/-- The text's order. -/
def wpPh (P : Program) (ops : Array Oper) (C : Nat → World → Prop) (A : Oper → Bool) (Q : Act → Nat → Prop) : List Oper → Act → Nat → Prop
  | [], a, p => Q a p
  | o :: rest, a, p => PhStep P ops C A o (wpPh P ops C A Q rest) a p
/-- Whatever order is picked. -/
def wpAnyP (P : Program) (md : Region.Mode) (ops : Array Oper) (C : Nat → World → Prop) (A : Oper → Bool) (Q : Act → Nat → Prop) : Nat → Array Bool → Act → Nat → Prop
  | 0, listed, a, p => Region.ready md ops listed = [] ∧ Q a p
  | fuel + 1, listed, a, p => (Region.ready md ops listed = [] → Q a p) ∧ ∀ i ∈ Region.ready md ops listed, phOp P ops C A i (wpAnyP P md ops C A Q fuel (listed.setIfInBounds i true)) a p

theorem PhStep.mono {o : Oper} {K K' : Act → Nat → Prop} {a : Act} {p : Nat} (h : ∀ a p, K a p → K' a p) (hh : PhStep P ops C A o K a p) : PhStep P ops C A o K' a p := by
  rcases hh with ⟨hw, v, h1, h2⟩ | ⟨hw, v, h1, h2⟩ | ⟨hw, h2⟩
  · exact .inl ⟨hw, v, h1, h _ _ h2⟩
  · exact .inr (.inl ⟨hw, v, h1, h _ _ h2⟩)
  · exact .inr (.inr ⟨hw, h _ _ h2⟩)
theorem Oper.wp_of_ph {o : Oper} {a : Act} {p : Nat} {K : Act → Nat → Prop} {K' : Act → World → Prop} {Q' : Exit → Act → World → Prop} {w : World} (hw : C p w) (h : ∀ a q w', C q w' → K a q → K' a w')
    (hh : (∃ v, Still P C o a v ∧ K (a.put o.dst v) p) ∨ ∃ v, Acts P C A o a p v ∧ K (a.put o.dst v) (p + 1)) : o.wp P a w K' Q' := by
  rcases hh with ⟨v, h1, h2⟩ | ⟨v, ⟨_, h1⟩, h2⟩
  · exact Oper.wp_of_quiet (C := C p) (K := fun a => K a p) hw (fun a w' hw' hk => h a p w' hw' hk) ⟨v, fun w hw => h1 p w hw, h2⟩
  · have hd := h1 w hw
    unfold Oper.wp
    generalize (execOp a.eval o).run P w = r at hd
    cases r with
    | halt x w' => simp only [doneUpon] at hd
    | ok n w' =>
      cases n <;> simp only [doneUpon] at hd <;> simp only [Oper.upon]
      case value => obtain ⟨hc, rfl⟩ := hd; exact h _ _ _ hc h2
      case skip => obtain ⟨hc, rfl⟩ := hd; exact h _ _ _ hc h2
      case enter f args => exact hd.mono fun e w'' ⟨he, hw''⟩ => by subst he; exact h _ _ _ hw'' h2
theorem wpOp_of_phOp {i : Nat} {a : Act} {p : Nat} {K : Act → Nat → Prop} {K' : Act → World → Prop} {Q' : Exit → Act → World → Prop} {w : World} (hC : C p w) (h : ∀ a q w', C q w' → K a q → K' a w') (hh : phOp P ops C A i K a p) : wpOp P ops Q' i K' a w := by
  unfold phOp at hh
  unfold wpOp
  split
  · rename_i ho; simp only [ho] at hh; exact h _ _ _ hC hh
  · rename_i o ho
    simp only [ho] at hh
    rcases hh with ⟨hw, hh⟩ | ⟨hw, hh⟩ | ⟨hw, hh⟩
    · simp only [hw, if_true]; exact .inl (Oper.wp_of_ph (A := A) hC h (.inl hh))
    · simp only [hw, if_true]; exact .inl (Oper.wp_of_ph (A := A) hC h (.inr hh))
    · simp only [hw, Bool.false_eq_true, if_false]; exact h _ _ _ hC hh
theorem wpAny_of_ph {Q : Act → Nat → Prop} {Q' : Exit → Act → World → Prop} (hQ : ∀ a p w, C p w → Q a p → Q' .normal a w) : ∀ (fuel : Nat) (listed : Array Bool) (a : Act) (p : Nat) (w : World), C p w →
    wpAnyP P md ops C A Q fuel listed a p → wpAny P md ops Q' fuel listed a w
  | 0, _, _, _, _, hw, h => ⟨h.1, hQ _ _ _ hw h.2⟩
  | fuel + 1, _, _, _, _, hw, h => ⟨fun h0 => hQ _ _ _ hw (h.1 h0), fun i hi => wpOp_of_phOp hw (fun a' q' w' hw' => wpAny_of_ph hQ fuel _ a' q' w' hw') (h.2 i hi)⟩

/-- What an operation does in a state; d: how many phases on. -/
def YieldsP (P : Program) (ops : Array Oper) (C : Nat → World → Prop) (A : Oper → Bool) (o : Oper) (v : Value) (a : Act) (p d : Nat) : Prop :=
  (d = 0 ∧ Region.wanted o (yielded ops a.tmps) = true ∧ Still P C o a v) ∨
  (d = 1 ∧ Region.wanted o (yielded ops a.tmps) = true ∧ Acts P C A o a p v) ∨
  (d = 0 ∧ Region.wanted o (yielded ops a.tmps) = false ∧ v = undef)
theorem yieldsP_of {o : Oper} {K : Act → Nat → Prop} {a : Act} {p : Nat} (h : PhStep P ops C A o K a p) : ∃ v d, YieldsP P ops C A o v a p d ∧ K (a.put o.dst v) (p + d) := by
  rcases h with ⟨hw, v, h1, h2⟩ | ⟨hw, v, h1, h2⟩ | ⟨hw, h2⟩
  · exact ⟨v, 0, .inl ⟨rfl, hw, h1⟩, h2⟩
  · exact ⟨v, 1, .inr (.inl ⟨rfl, hw, h1⟩), h2⟩
  · exact ⟨undef, 0, .inr (.inr ⟨rfl, hw, rfl⟩), h2⟩
theorem YieldsP.step {o : Oper} {v : Value} {a : Act} {p d : Nat} {K : Act → Nat → Prop} (hy : YieldsP P ops C A o v a p d) (h : K (a.put o.dst v) (p + d)) : PhStep P ops C A o K a p := by
  rcases hy with ⟨rfl, hw, hv⟩ | ⟨rfl, hw, hv⟩ | ⟨rfl, hw, rfl⟩
  · exact .inl ⟨hw, v, hv, h⟩
  · exact .inr (.inl ⟨hw, v, hv, h⟩)
  · exact .inr (.inr ⟨hw, h⟩)
theorem still_same {o : Oper} {a a' : Act} {v : Value} (he : execOp a'.eval o = execOp a.eval o) (h : Still P C o a v) : Still P C o a' v := by
  unfold Still Oper.quietAt at *
  rw [he]; exact h
theorem acts_same {o : Oper} {a a' : Act} {p : Nat} {v : Value} (he : execOp a'.eval o = execOp a.eval o) (h : Acts P C A o a p v) : Acts P C A o a' p v := by
  unfold Acts at *
  rw [he]; exact h
theorem YieldsP.of_same {o : Oper} {v : Value} {a a' : Act} {p d : Nat} (hy : YieldsP P ops C A o v a p d) (he : execOp a'.eval o = execOp a.eval o)
    (hw : Region.wanted o (yielded ops a'.tmps) = Region.wanted o (yielded ops a.tmps)) : YieldsP P ops C A o v a' p d := by
  rcases hy with ⟨h0, h1, h2⟩ | ⟨h0, h1, h2⟩ | ⟨h0, h1, h2⟩
  · exact .inl ⟨h0, hw.trans h1, still_same he h2⟩
  · exact .inr (.inl ⟨h0, hw.trans h1, acts_same he h2⟩)
  · exact .inr (.inr ⟨h0, hw.trans h1, h2⟩)
theorem YieldsP.phase {o : Oper} {v : Value} {a : Act} {p d : Nat} (hy : YieldsP P ops C A o v a p d) (hd : d = 0) (q : Nat) : YieldsP P ops C A o v a q d := by
  rcases hy with h | ⟨h0, _⟩ | h
  · exact .inl h
  · omega
  · exact .inr (.inr h)
theorem YieldsP.act {o : Oper} {v : Value} {a : Act} {p : Nat} (hy : YieldsP P ops C A o v a p 1) : A o = true := by
  rcases hy with ⟨h0, _⟩ | ⟨_, _, h⟩ | ⟨h0, _⟩
  · omega
  · exact h.1
  · omega

theorem ph_put {oi oj : Oper} {v : Value} {p d : Nat} (hap : oi.apart ops oj = true) (hsi : ∀ cs b, oi.op ≠ .select cs b) (hsj : ∀ cs b, oj.op ≠ .select cs b) (hno : d = 1 → A oj = true → False)
    {K : Act → Nat → Prop} {a : Act} (hy : YieldsP P ops C A oi v a p d) (h : PhStep P ops C A oj K (a.put oi.dst v) (p + d)) :
    PhStep P ops C A oj (fun a' q => YieldsP P ops C A oi v a' q d ∧ K (a'.put oi.dst v) (q + d)) a p := by
  obtain ⟨h1, h2, h3⟩ := Oper.apart_spec hap
  have keep : ∀ u, YieldsP P ops C A oi v (a.put oj.dst u) p d := fun u =>
    hy.of_same (execOp_put oi hsi a oj.dst u h3) (wanted_put oi a oj.dst u h3)
  have ew := wanted_put oj a oi.dst v h1
  have ee := execOp_put oj hsj a oi.dst v h1
  rcases h with ⟨hw, u, hu, hn⟩ | ⟨hw, u, hu, hn⟩ | ⟨hw, hn⟩
  · exact .inl ⟨ew.symm.trans hw, u, still_same ee.symm hu, keep u, by rw [← Act.put_comm a v u h2]; exact hn⟩
  · have hd : d = 0 := by
      rcases hy with ⟨e, _⟩ | ⟨e, _⟩ | ⟨e, _⟩
      · exact e
      · exact (hno e hu.1).elim
      · exact e
    refine .inr (.inl ⟨ew.symm.trans hw, u, ?_, (keep u).phase hd _, ?_⟩)
    · have := acts_same ee.symm hu
      rw [hd] at this
      exact this
    · rw [← Act.put_comm a v u h2, hd]
      rw [hd] at hn
      exact hn
  · exact .inr (.inr ⟨ew.symm.trans hw, keep _, by rw [← Act.put_comm a v undef h2]; exact hn⟩)

theorem wpAnyP_first {Q : Act → Nat → Prop} (hB : chainB A md ops = true) {i : Nat} {oi : Oper} {v : Value} {d : Nat} (hi : ops[i]? = some oi) (hsel : ∀ (j : Nat) (o : Oper) cs b, ops[j]? = some o → o.op ≠ .select cs b) :
    ∀ (fuel : Nat) (listed : Array Bool) (a : Act) (p : Nat), Closed md ops listed →
      (∀ j oj, ops[j]? = some oj → j ≠ i → listed.getD j true = false → (∀ e ∈ oj.after, Region.binds md e = true → e.on ≠ i) → oi.apart ops oj = true) →
      i ∈ Region.ready md ops listed → YieldsP P ops C A oi v a p d →
      wpAnyP P md ops C A Q fuel (listed.setIfInBounds i true) (a.put oi.dst v) (p + d) → wpAnyP P md ops C A Q (fuel + 1) listed a p := by
  have base : ∀ {K : Act → Nat → Prop} {a : Act} {p : Nat}, YieldsP P ops C A oi v a p d → K (a.put oi.dst v) (p + d) → phOp P ops C A i K a p := fun hy h => by
    unfold phOp
    simp only [hi]
    exact hy.step h
  intro fuel
  induction fuel with
  | zero =>
    intro listed a p _ _ hr hy H
    refine ⟨fun h => (by rw [h] at hr; cases hr), fun j hj => ?_⟩
    by_cases hji : j = i
    · subst hji; exact base hy H
    · have := ready_mono hj hji
      rw [H.1] at this
      cases this
  | succ fuel ih =>
    intro listed a p hcl hfree hr hy H
    refine ⟨fun h => (by rw [h] at hr; cases hr), fun j hj => ?_⟩
    by_cases hji : j = i
    · subst hji; exact base hy H
    · have h1 := H.2 j (ready_mono hj hji)
      obtain ⟨hjun, oj, hoj, hall⟩ := mem_ready.1 hj
      have hnot : ∀ e ∈ oj.after, Region.binds md e = true → e.on ≠ i := fun e he hb heq => by
        have h1 := hall e he hb
        rw [heq] at h1
        exact unlisted (mem_ready.1 hr).1 h1
      unfold phOp at h1 ⊢
      simp only [hoj] at h1 ⊢
      have h2 := ph_put (hfree j oj hoj hji hjun hnot) (fun cs b => hsel i oi cs b hi) (fun cs b => hsel j oj cs b hoj) (fun hd haj => by
        subst hd
        exact chain_one hB hcl hr hj hji (by unfold actAt; rw [hi]; exact hy.act) (by unfold actAt; rw [hoj]; exact haj)) hy h1
      have hfree' : ∀ k ok, ops[k]? = some ok → k ≠ i → (listed.setIfInBounds j true).getD k true = false →
          (∀ e ∈ ok.after, Region.binds md e = true → e.on ≠ i) → oi.apart ops ok = true := fun k ok hk hki hun hno => by
        refine hfree k ok hk hki ?_ hno
        by_cases hjk : j = k
        · subst hjk; exact hjun
        · rw [getD_set_ne true hjk] at hun; exact hun
      refine PhStep.mono (fun a' q h3 => ih (listed.setIfInBounds j true) a' q (hcl.more hj) hfree' (ready_mono hr (Ne.symm hji)) h3.1 ?_) h2
      rw [Array.setIfInBounds_comm _ _ hji]
      exact h3.2
theorem wpAnyP_lex {Q : Act → Nat → Prop} (hB : chainB A md ops = true) (hs : Region.noSelect ops = true) : ∀ (l : List Oper) (k : Nat) (listed : Array Bool) (a : Act) (p : Nat), Closed md ops listed → (∀ j, l[j]? = ops[k + j]?) →
    Region.lexFrom md ops l.length k listed = true → wpPh P ops C A Q l a p → wpAnyP P md ops C A Q l.length listed a p
  | [], _, _, _, _, _, _, hL, h => ⟨by simpa [Region.lexFrom] using hL, h⟩
  | o :: l, k, listed, a, p, hcl, hl, hL, h => by
    have h0 : ops[k]? = some o := by simpa using (hl 0).symm
    simp only [List.length_cons, Region.lexFrom, Bool.and_eq_true] at hL
    obtain ⟨⟨hr, hf⟩, hL'⟩ := hL
    have hr2 : k ∈ Region.ready md ops listed := by simpa using hr
    obtain ⟨v, d, hy, hK⟩ := yieldsP_of h
    exact wpAnyP_first hB h0 (Region.noSelect_spec hs) l.length listed a p hcl (Region.free_spec h0 hf) hr2 hy
      (wpAnyP_lex hB hs l (k + 1) _ _ _ (hcl.more hr2) (fun j => by have := hl (j + 1); simpa [Nat.add_assoc, Nat.add_comm 1 j] using this) hL' hK)
/-- One walk of the text's order serves every order. -/
theorem wp_region_ph {id : Nat} {Q : Exit → Act → World → Prop} {a : Act} {w : World} {l : List Oper} (hm : P.follows .mixedOrders = true) (hL : Region.lexB .any l.toArray = true) (hB : chainB A .any l.toArray = true) (hC : C 0 w.drew)
    (h : wpPh P l.toArray C A (fun a' p => ∀ w', C p w' → Q .normal a' w') l a 0) : (Code.region id l.toArray true).wp P Q a w := by
  simp only [Region.lexB, Bool.and_eq_true] at hL
  refine wp_region_any hm (wpAny_of_ph (C := C) (A := A) (Q := fun a' p => ∀ w', C p w' → Q .normal a' w') (fun _ p w' hw' h => h w' hw') _ _ _ 0 _ hC ?_)
  have := wpAnyP_lex (C := C) (A := A) (md := .any) hB hL.1 l 0 (Array.replicate l.toArray.size false) a 0 (Closed.start _) (by simp) (by simpa using hL.2) h
  simpa using this

/-- The worlds of all phases. -/
def PW (C : Nat → World → Prop) : Type := { w' : World // ∃ q, C q w' }
/-- An operation that cannot enter a function. -/
def plainB (o : Oper) : Bool := match o.op with
  | .move _ | .assign _ | .pick _ _ _ | .load _ _ | .binOp _ _ _ _ _ | .unOp _ _ _ | .convert _ _ _ | .slice _ _ _ _ _ | .fieldAddr _ _ _ | .field _ _ _ | .indexAddr _ _ _ | .index _ _ _ | .extract _ _ => true
  | .call c => (match c.callee with | .builtin .len => true | .builtin .min => true | .builtin .max => true | _ => false)
  | _ => false
theorem val_ne (s : Sem Value) (w w' : World) (f : FuncId) (args : Array Value) : (do pure (Next.value (← s)) : Sem Next).run P w ≠ .ok (.enter f args) w' := by
  simp only [Sem.run_bind]
  cases s.run P w <;> simp [Result.andThen]
theorem plain_ne (ρ : Operand → Value) (o : Oper) (h : plainB o = true) (w w' : World) (f : FuncId) (args : Array Value) : (execOp ρ o).run P w ≠ .ok (.enter f args) w' := by
  obtain ⟨dst, op, ty, pos, after, guard⟩ := o
  cases op <;> simp only [plainB, Bool.false_eq_true] at h <;> simp only [execOp]
  all_goals first | exact val_ne _ _ _ _ _ | skip
  case call c =>
    obtain ⟨callee, cargs, ctypes⟩ := c
    cases callee with
    | builtin b =>
      cases b <;> simp only [Bool.false_eq_true] at h <;> simp only [resolve, pure_bind, invoke, builtin] <;> exact val_ne _ _ _ _ _
    | value _ => simp at h
    | invoke _ _ => simp at h
  case pick c x y =>
    simp only [Sem.run_bind]
    cases (asBool (ρ c)).run P w <;> simp [Result.andThen]
  all_goals simp
/-- An operation that is no call, by the quiet walk's own step. -/
theorem ph_quiet {Q : Act → Nat → Prop} {o : Oper} {rest : List Oper} {a : Act} {p : Nat} (hp : plainB o = true)
    (h : wpQuiet P ops (fun w' => ∃ u : PW C, w' = u.1) (fun a' => wpPh P ops C A Q rest a' p) [o] a) : wpPh P ops C A Q (o :: rest) a p := by
  unfold wpQuiet at h
  split at h
  · rename_i hw
    obtain ⟨v, h1, h2⟩ := h
    refine .inl ⟨hw, v, fun q w hq => ?_, h2⟩
    have h3 := h1 w ⟨⟨w, q, hq⟩, rfl⟩
    unfold Oper.quietAt at h3 ⊢
    have hne := plain_ne (P := P) a.eval o hp w
    generalize (execOp a.eval o).run P w = r at *
    cases r with
    | ok n w' =>
      cases n <;> simp only [Oper.quietUpon] at h3 ⊢
      case value => exact h3
      case skip => exact h3
      case enter f args => exact absurd rfl (hne w' f args)
    | halt x w' => simp only [Oper.quietUpon] at h3
  · rename_i hw
    exact .inr (.inr ⟨by simpa using hw, h⟩)
/-- A call that brings the next phase. -/
theorem ph_act {Q : Act → Nat → Prop} {o : Oper} {rest : List Oper} {a : Act} {p : Nat} {f : FuncId} {args : Array Value} {v : Value}
    (hc : ∀ w, C p w → Calls P f args w fun e w' => e = .returned v ∧ C (p + 1) w')
    (h : ∀ K : Act → Prop, (∀ a, wpPh P ops C A Q rest a (p + 1) → K a) → Region.wanted o (yielded ops a.tmps) = true ∧ A o = true ∧ (∀ w, (execOp a.eval o).run P w = .ok (.enter f args) w) ∧ K (a.put o.dst v)) : wpPh P ops C A Q (o :: rest) a p := by
  obtain ⟨hw, ha, he, hn⟩ := h _ (fun _ h => h)
  exact .inr (.inl ⟨hw, v, ⟨ha, fun w hq => by rw [he w]; exact hc w hq⟩, hn⟩)
/-- A call that makes no difference. -/
theorem ph_still {Q : Act → Nat → Prop} {o : Oper} {rest : List Oper} {a : Act} {p : Nat} {f : FuncId} {args : Array Value} {v : Value}
    (hc : ∀ q w, C q w → Calls P f args w fun e w' => e = .returned v ∧ C q w')
    (h : ∀ K : Act → Prop, (∀ a, wpPh P ops C A Q rest a p → K a) → Region.wanted o (yielded ops a.tmps) = true ∧ (∀ w, (execOp a.eval o).run P w = .ok (.enter f args) w) ∧ K (a.put o.dst v)) : wpPh P ops C A Q (o :: rest) a p := by
  obtain ⟨hw, he, hn⟩ := h _ (fun _ h => h)
  refine .inl ⟨hw, v, fun q w hq => ?_, hn⟩
  unfold Oper.quietAt
  rw [he w]
  exact ⟨rfl, hc q w hq⟩
/-- A call that isn't wanted. -/
theorem ph_skip {Q : Act → Nat → Prop} {o : Oper} {rest : List Oper} {a : Act} {p : Nat}
    (h : ∀ K : Act → Prop, (∀ a, wpPh P ops C A Q rest a p → K a) → Region.wanted o (yielded ops a.tmps) = false ∧ K (a.put o.dst undef)) : wpPh P ops C A Q (o :: rest) a p := by
  obtain ⟨hw, hn⟩ := h _ (fun _ h => h)
  exact .inr (.inr ⟨hw, hn⟩)
/-- An operation of one value, that makes no difference. -/
theorem ph_value {Q : Act → Nat → Prop} {o : Oper} {rest : List Oper} {a : Act} {p : Nat} (hg : o.guard = none) (v : Value) (he : ∀ w, (execOp a.eval o).run P w = .ok (.value v) w)
    (h : wpPh P ops C A Q rest (a.put o.dst v) p) : wpPh P ops C A Q (o :: rest) a p := by
  refine .inl ⟨by simp [Region.wanted, hg], v, fun q w _ => ?_, h⟩
  unfold Oper.quietAt
  rw [he w]
  exact ⟨rfl, rfl⟩
/-- A call that leaves the world alone. -/
theorem ph_same {Q : Act → Nat → Prop} {o : Oper} {rest : List Oper} {a : Act} {p : Nat} {f : FuncId} {args : Array Value} {v : Value} (hg : o.guard = none)
    (hc : ∀ w, Calls P f args w fun e w' => e = .returned v ∧ w' = w) (he : ∀ w, (execOp a.eval o).run P w = .ok (.enter f args) w)
    (h : wpPh P ops C A Q rest (a.put o.dst v) p) : wpPh P ops C A Q (o :: rest) a p := by
  refine .inl ⟨by simp [Region.wanted, hg], v, fun q w hq => ?_, h⟩
  unfold Oper.quietAt
  rw [he w]
  exact ⟨rfl, (hc w).mono fun e w' ⟨e1, e2⟩ => ⟨e1, by rw [e2]; exact hq⟩⟩
/-- Memory made. -/
theorem ph_make {Q : Act → Nat → Prop} {o : Oper} {rest : List Oper} {a : Act} {p : Nat} (hg : o.guard = none) (hA : A o = true) (v : Value) (g : World → World) (he : ∀ w, C p w → (execOp a.eval o).run P w = .ok (.value v) (g w) ∧ C (p + 1) (g w))
    (h : wpPh P ops C A Q rest (a.put o.dst v) (p + 1)) : wpPh P ops C A Q (o :: rest) a p :=
  .inr (.inl ⟨by simp [Region.wanted, hg], v, ⟨hA, fun w hq => by rw [(he w hq).1]; exact ⟨(he w hq).2, rfl⟩⟩, h⟩)
/-- Memory turned. -/
theorem ph_write {Q : Act → Nat → Prop} {o : Oper} {rest : List Oper} {a : Act} {p : Nat} (hg : o.guard = none) (hA : A o = true) (g : World → World) (he : ∀ w, C p w → (execOp a.eval o).run P w = .ok .skip (g w) ∧ C (p + 1) (g w))
    (h : wpPh P ops C A Q rest (a.put o.dst undef) (p + 1)) : wpPh P ops C A Q (o :: rest) a p :=
  .inr (.inl ⟨by simp [Region.wanted, hg], undef, ⟨hA, fun w hq => by rw [(he w hq).1]; exact ⟨(he w hq).2, rfl⟩⟩, h⟩)
theorem ph_nil {Q : Act → Nat → Prop} {a : Act} {p : Nat} (h : Q a p) : wpPh P ops C A Q [] a p := h
end
end Go.Proofs.YtifcibmpeolmdaaDoor
