/- Proved: plain mathematics of senders: what becomes of one that is never answered, of one that is told at each tick that all came, and of any other one. No condition. -/
import Derived.Test.YtcnaaoakcmdfkaaDoorSn
namespace Go.Proofs.YtcnaaoakcmdfkaaDoor

/-! ### The window -/
theorem filter_range (a b n : Nat) (h1 : a ≤ b) (h2 : b ≤ n) (p : Nat → Bool) (hp : ∀ i, i < n → p i = (decide (a ≤ i) && decide (i < b))) : (List.range n).filter p = List.range' a (b - a) := by
  have e : List.range n = List.range' 0 a ++ (List.range' a (b - a) ++ List.range' b (n - b)) := by
    have h3 := List.range'_append (s := a) (m := b - a) (n := n - b) (step := 1)
    have h4 := List.range'_append (s := 0) (m := a) (n := n - a) (step := 1)
    rw [Nat.one_mul, show a + (b - a) = b by omega, show b - a + (n - b) = n - a by omega] at h3
    rw [Nat.one_mul, Nat.zero_add, show a + (n - a) = n by omega] at h4
    rw [h3, h4, List.range_eq_range']
  rw [e, List.filter_append, List.filter_append]
  have f1 : (List.range' 0 a).filter p = [] := by
    rw [List.filter_eq_nil_iff]
    intro i hi
    rw [List.mem_range'_1] at hi
    rw [hp i (by omega), decide_eq_false (by omega : ¬ a ≤ i)]
    simp
  have f2 : (List.range' a (b - a)).filter p = List.range' a (b - a) := by
    rw [List.filter_eq_self]
    intro i hi
    rw [List.mem_range'_1] at hi
    rw [hp i (by omega), decide_eq_true (by omega : a ≤ i), decide_eq_true (by omega : i < b)]
    rfl
  have f3 : (List.range' b (n - b)).filter p = [] := by
    rw [List.filter_eq_nil_iff]
    intro i hi
    rw [List.mem_range'_1] at hi
    rw [hp i (by omega), decide_eq_false (by omega : ¬ i < b)]
    simp
  rw [f1, f2, f3]
  simp
/-- Where the first m are there, and all of the others were never sent, or all long ago. -/
theorem due_first (s : Sd) (m : Nat) (hm : m ≤ s.l.length) (hl : ∀ i, s.l.getD i false = decide (i < m)) (hf : ∀ i, m ≤ i → i < m + 8 → i < s.l.length → s.fresh i = true) : baseN s.l = m ∧ s.due = List.range' m (min (m + 8) s.l.length - m) := by
  have hb : baseN s.l = m := base_one (fun i hi => by rw [hl, decide_eq_true hi]) (by rw [hl, decide_eq_false (Nat.lt_irrefl m)])
  refine ⟨hb, ?_⟩
  have hw : s.win = List.range' m (min (m + 8) s.l.length - m) := by
    unfold Sd.win misL misK
    rw [hb]
    refine filter_range m (min (m + 8) s.l.length) s.l.length (by omega) (by omega) _ fun i hi => ?_
    unfold misP
    rw [hl]
    by_cases h1 : m ≤ i
    · rw [decide_eq_true (by omega : (m : Int) ≤ i), decide_eq_true h1, decide_eq_false (by omega : ¬ i < m)]
      simp only [Bool.not_false, Bool.and_true, Bool.true_and]
      rw [decide_eq_decide]
      omega
    · rw [decide_eq_false (by omega : ¬ (m : Int) ≤ i), decide_eq_false h1]
      rfl
  unfold Sd.due
  rw [hw, List.filter_eq_self]
  intro i hi
  rw [List.mem_range'_1] at hi
  exact hf i (by omega) (by omega) (by omega)
theorem due_none (s : Sd) (h : ∀ i, i ∈ s.win → s.fresh i = false) : s.due = [] := by
  unfold Sd.due
  rw [List.filter_eq_nil_iff]
  intro i hi
  rw [h i hi]
  simp

/-! ### A tick that sends -/
theorem tick_ok {s : Sd} (h1 : ¬ s.full) (h2 : s.lost = false) (h3 : ¬ s.on.due.any s.on.over = true) : s.tickE = 0 ∧ s.tickF = s.on.due.map s.on.frame ∧ s.tick = s.on.puts s.on.due := by
  have hl : ¬ s.lost = true := by rw [h2]; simp
  unfold Sd.tickE Sd.tickF Sd.tick
  rw [if_neg h1, if_neg h1, if_neg h1, if_neg hl, if_neg hl, if_neg hl, if_neg h3, if_neg h3, if_neg h3]
  exact ⟨rfl, rfl, rfl⟩
theorem tick_cases (s : Sd) : (s.full ∧ s.tickE = 15 ∧ s.tickF = [] ∧ s.tick = s) ∨ (¬ s.full ∧ s.tick.lost = true ∧ s.tickE = 16 ∧ s.tickF = [] ∧ s.tick.ch = s.ch) ∨
    (¬ s.full ∧ s.lost = false ∧ (∀ i ∈ s.on.due, s.on.over i = false) ∧ s.tickE = 0 ∧ s.tickF = s.on.due.map s.on.frame ∧ s.tick = s.on.puts s.on.due) := by
  by_cases h1 : s.full
  · refine .inl ⟨h1, ?_⟩
    unfold Sd.tickE Sd.tickF Sd.tick
    rw [if_pos h1, if_pos h1, if_pos h1]
    exact ⟨rfl, rfl, rfl⟩
  · by_cases h2 : s.lost = true
    · refine .inr (.inl ⟨h1, ?_⟩)
      unfold Sd.tickE Sd.tickF Sd.tick
      rw [if_neg h1, if_neg h1, if_neg h1, if_pos h2, if_pos h2, if_pos h2]
      exact ⟨h2, rfl, rfl, rfl⟩
    · by_cases h3 : s.on.due.any s.on.over = true
      · refine .inr (.inl ⟨h1, ?_⟩)
        unfold Sd.tickE Sd.tickF Sd.tick
        rw [if_neg h1, if_neg h1, if_neg h1, if_neg h2, if_neg h2, if_neg h2, if_pos h3, if_pos h3, if_pos h3]
        exact ⟨rfl, rfl, rfl, rfl⟩
      · have hl : s.lost = false := by simpa using h2
        obtain ⟨a, b, c⟩ := tick_ok h1 hl h3
        exact .inr (.inr ⟨h1, hl, any_false h3, a, b, c⟩)

/-! ### All came -/
/-- The first m came. -/
structure Wh (n k : Nat) (s : Sd) : Prop where
  ses : s.ses = 1
  ep : s.ep = 2
  ch : s.ch.length = n
  l : s.l.length = n
  lost : s.lost = false
  now : s.now = k
  there : ∀ i, s.l.getD i false = decide (i < min (8 * k) n)
  tries : ∀ i, (s.at i).tries = if i < min (8 * k) n then 1 else 0
theorem getD_rep (n i : Nat) : (List.replicate n false).getD i false = false := by
  rw [List.getD_eq_getElem?_getD, List.getElem?_replicate]
  split <;> rfl
theorem Wh.new (L : List (List UInt8)) : Wh L.length 0 (newS 1 2 L) :=
  ⟨rfl, rfl, by simp [newS], by simp [newS], rfl, rfl, fun i => by rw [show (newS 1 2 L).l = List.replicate L.length false from rfl, getD_rep, decide_eq_false (by omega)], fun i => by rw [(new_at_tries 1 2 L i).1, if_neg (by omega)]⟩
def ackF (m n : Nat) : Fr := ⟨2, 1, 2, m, n, []⟩
theorem told_nil (a : Int) (i : Nat) : toldB a [] i = decide ((i : Int) < a) := by
  unfold toldB
  rw [show ofL [] = [] from rfl, show (([] : List Bool).getD ((i : Int) - a - 1).toNat false) = false by simp, Bool.and_false, Bool.or_false]
theorem Wh.step {n k : Nat} {s : Sd} (h : Wh n k s) (hk : 8 * k < n) : s.tickE = 0 ∧ s.tickF = (List.range' (8 * k) (min (8 * (k + 1)) n - 8 * k)).map s.on.frame ∧ s.tick.ackE (ackF (min (8 * (k + 1)) n) n) = 0 ∧ Wh n (k + 1) (s.tick.ack (ackF (min (8 * (k + 1)) n) n)) := by
  have hmin : min (8 * k) n = 8 * k := by omega
  have hd := due_first s.on (8 * k) (by show _ ≤ s.l.length; rw [h.l]; omega) (fun i => by show s.l.getD i false = _; rw [h.there, hmin]) (fun i h1 _ _ => by
    unfold Sd.fresh
    have : (s.on.at i).tries = 0 := by show (s.at i).tries = 0; rw [h.tries, if_neg (by omega)]
    rw [decide_eq_true this]; rfl)
  have hon : s.on.l.length = n := h.l
  obtain ⟨hb, hdue⟩ := hd
  rw [hon, show 8 * k + 8 = 8 * (k + 1) by omega] at hdue
  have hfull : ¬ s.full := by
    unfold Sd.full
    have : baseN s.l = 8 * k := hb
    rw [this, h.l]; omega
  have hover : ¬ s.on.due.any s.on.over = true := by
    rw [hdue]
    intro q
    obtain ⟨i, hi, ho⟩ := List.any_eq_true.1 q
    rw [List.mem_range'_1] at hi
    unfold Sd.over at ho
    rw [decide_eq_true_eq] at ho
    have : (s.on.at i).tries = 0 := by show (s.at i).tries = 0; rw [h.tries, if_neg (by omega)]
    omega
  obtain ⟨t1, t2, t3⟩ := tick_ok hfull h.lost hover
  rw [hdue] at t2 t3
  have hnd : (List.range' (8 * k) (min (8 * (k + 1)) n - 8 * k)).Nodup := List.nodup_range'
  have hin : ∀ i ∈ List.range' (8 * k) (min (8 * (k + 1)) n - 8 * k), i < s.on.ch.length := fun i hi => by
    rw [List.mem_range'_1] at hi
    show i < s.ch.length
    rw [h.ch]; omega
  obtain ⟨p1, p2, p3, p4, p5, p6⟩ := puts_ses s.on (List.range' (8 * k) (min (8 * (k + 1)) n - 8 * k))
  have e1 : s.tick.ses = 1 := by rw [t3, p1]; exact h.ses
  have e2 : s.tick.ep = 2 := by rw [t3, p2]; exact h.ep
  have e3 : s.tick.l = s.l := by rw [t3, p3]; rfl
  have e6 : s.tick.ch.length = n := by rw [t3, p6]; exact h.ch
  have hack : s.tick.ackE (ackF (min (8 * (k + 1)) n) n) = 0 := by
    unfold Sd.ackE ackF
    rw [if_neg (by simp), if_neg (by rw [e1]; simp), if_neg (by rw [e2]; simp), if_neg (by rw [e6]; simp; omega)]
  refine ⟨t1, t2, hack, ?_⟩
  have ea : s.tick.ack (ackF (min (8 * (k + 1)) n) n) = { s.tick with l := merL s.l ((min (8 * (k + 1)) n : Nat) : Int) [] } := by
    unfold Sd.ack
    rw [if_pos hack, e3]
    rfl
  rw [ea]
  refine ⟨e1, e2, e6, by show (merL _ _ _).length = n; rw [merL_len, h.l], by show s.tick.lost = false; rw [t3, p5]; exact h.lost, by show s.tick.now = k + 1; rw [t3, p4]; show s.now + 1 = k + 1; rw [h.now], fun i => ?_, fun i => ?_⟩
  · show (merL s.l _ []).getD i false = _
    by_cases hi : i < s.l.length
    · rw [merL_get _ _ _ i hi, told_nil, h.there]
      have hi2 : i < n := by rw [← h.l]; exact hi
      by_cases h8 : i < 8 * (k + 1)
      · rw [decide_eq_true (show (i : Int) < ((min (8 * (k + 1)) n : Nat) : Int) by omega), Bool.or_true, decide_eq_true (by omega)]
      · rw [decide_eq_false (show ¬ (i : Int) < ((min (8 * (k + 1)) n : Nat) : Int) by omega), decide_eq_false (by omega), decide_eq_false (by omega)]; rfl
    · rw [getD_out _ _ (by rw [merL_len]; omega), decide_eq_false (by rw [h.l] at hi; omega)]
  · show (s.tick.at i).tries = _
    rw [t3, puts_at s.on _ hnd hin i]
    by_cases h1 : i ∈ List.range' (8 * k) (min (8 * (k + 1)) n - 8 * k)
    · rw [if_pos h1]
      rw [List.mem_range'_1] at h1
      rw [if_pos (by omega)]
      show (s.at i).tries + 1 = 1
      rw [h.tries, if_neg (by omega)]
    · rw [if_neg h1]
      rw [List.mem_range'_1] at h1
      show (s.at i).tries = _
      rw [h.tries]
      by_cases h2 : i < 8 * k
      · rw [if_pos (by omega), if_pos (by omega)]
      · rw [if_neg (by omega), if_neg (by omega)]
theorem Wh.end {n k : Nat} {s : Sd} (h : Wh n k s) (hk : n ≤ 8 * k) (hn : 1 ≤ n) : s.full ∧ s.tries 0 = 1 := by
  refine ⟨?_, ?_⟩
  · unfold Sd.full
    exact base_full fun i hi => by rw [h.l] at hi; rw [h.there, decide_eq_true (by omega)]
  · show (s.at (0 : Int).toNat).tries = 1
    have := h.tries 0
    rw [if_pos (by omega)] at this
    exact this

/-! ### None came -/
structure Lo (n i : Nat) (s : Sd) : Prop where
  ch : s.ch.length = n
  l : s.l = List.replicate n false
  on : i ≤ 32 → s.lost = false ∧ s.now = i ∧ ∀ j, j < min 8 n → (s.at j).tries = (i + 3) / 4 ∧ (s.at j).last = (if i = 0 then 0 else 4 * ((i - 1) / 4) + 1)
  off : 33 ≤ i → s.lost = true ∧ (s.at 0).tries = 8
theorem Lo.new (a b : Int) (L : List (List UInt8)) : Lo L.length 0 (newS a b L) :=
  ⟨by simp [newS], rfl, fun _ => ⟨rfl, rfl, fun j _ => new_at_tries a b L j⟩, fun h => by omega⟩
theorem rep_base (n : Nat) : baseN (List.replicate n false) = 0 := by cases n <;> rfl
theorem Lo.notFull {n i : Nat} {s : Sd} (h : Lo n i s) (hn : 1 ≤ n) : ¬ s.full := by
  unfold Sd.full
  rw [h.l, rep_base, List.length_replicate]
  omega
theorem Lo.step {n i : Nat} {s : Sd} (h : Lo n i s) (hn : 1 ≤ n) : s.tickE = (if i < 32 then 0 else 16) ∧ Lo n (i + 1) s.tick := by
  have hf := h.notFull hn
  by_cases h33 : 33 ≤ i
  · obtain ⟨hl, ht⟩ := h.off h33
    rw [if_neg (by omega)]
    unfold Sd.tickE Sd.tick
    rw [if_neg hf, if_neg hf, if_pos hl, if_pos hl]
    exact ⟨rfl, h.ch, h.l, fun q => by omega, fun _ => ⟨hl, ht⟩⟩
  obtain ⟨hl, hnow, hj⟩ := h.on (by omega)
  have hol : s.on.l = List.replicate n false := h.l
  have hwin : ∀ j, j ∈ s.on.win → j < min 8 n := fun j hj => by
    rw [win_mem, hol, rep_base, List.length_replicate] at hj
    omega
  by_cases h4 : i % 4 = 0
  · have hd := due_first s.on 0 (Nat.zero_le _) (fun i => by rw [hol, getD_rep, decide_eq_false (by omega)]) (fun j _ h8 hjl => by
      rw [hol, List.length_replicate] at hjl
      obtain ⟨q1, q2⟩ := hj j (by omega)
      unfold Sd.fresh
      by_cases hi : i = 0
      · rw [decide_eq_true (show (s.on.at j).tries = 0 by show (s.at j).tries = 0; rw [q1, hi])]; rfl
      · rw [decide_eq_true (show (s.on.at j).last + 4 ≤ s.on.now by show (s.at j).last + 4 ≤ s.now + 1; rw [q2, if_neg hi, hnow]; omega), Bool.or_true])
    rw [hol, List.length_replicate, Nat.zero_add, Nat.sub_zero] at hd
    have hdue := hd.2
    by_cases h32 : i < 32
    · have hover : ¬ s.on.due.any s.on.over = true := by
        rw [hdue]
        intro q
        obtain ⟨j, hjm, ho⟩ := List.any_eq_true.1 q
        rw [List.mem_range'_1] at hjm
        unfold Sd.over at ho
        rw [decide_eq_true_eq] at ho
        have : (s.on.at j).tries = (i + 3) / 4 := (hj j (by omega)).1
        omega
      obtain ⟨t1, _, t3⟩ := tick_ok hf hl hover
      rw [if_pos h32]
      refine ⟨t1, ?_⟩
      rw [hdue] at t3
      obtain ⟨p1, p2, p3, p4, p5, p6⟩ := puts_ses s.on (List.range' 0 (min 8 n))
      have hin : ∀ x ∈ List.range' 0 (min 8 n), x < s.on.ch.length := fun x hx => by
        rw [List.mem_range'_1] at hx
        show x < s.ch.length
        rw [h.ch]; omega
      rw [t3]
      refine ⟨by rw [p6]; exact h.ch, by rw [p3]; exact h.l, fun _ => ⟨by rw [p5]; exact hl, by rw [p4]; show s.now + 1 = _; rw [hnow], fun j hjn => ?_⟩, fun q => by omega⟩
      rw [puts_at s.on _ List.nodup_range' hin j, if_pos (by rw [List.mem_range'_1]; omega), if_neg (by omega)]
      refine ⟨?_, ?_⟩
      · show (s.at j).tries + 1 = _
        rw [(hj j hjn).1]; omega
      · show s.now + 1 = _
        rw [hnow]; omega
    · have h32e : i = 32 := by omega
      have hover : s.on.due.any s.on.over = true := by
        rw [hdue]
        refine List.any_eq_true.2 ⟨0, by rw [List.mem_range'_1]; omega, ?_⟩
        unfold Sd.over
        rw [decide_eq_true_eq]
        have : (s.on.at 0).tries = (i + 3) / 4 := (hj 0 (by omega)).1
        omega
      have hl2 : ¬ s.lost = true := by rw [hl]; simp
      rw [if_neg (by omega)]
      unfold Sd.tickE Sd.tick
      rw [if_neg hf, if_neg hf, if_neg hl2, if_neg hl2, if_pos hover, if_pos hover]
      refine ⟨rfl, h.ch, h.l, fun q => by omega, fun _ => ⟨rfl, ?_⟩⟩
      show (s.at 0).tries = 8
      rw [(hj 0 (by omega)).1, h32e]
  · have hdue : s.on.due = [] := due_none s.on fun j hjw => by
      obtain ⟨q1, q2⟩ := hj j (hwin j hjw)
      unfold Sd.fresh
      have hi : i ≠ 0 := fun e => h4 (by rw [e])
      rw [decide_eq_false (show ¬ (s.on.at j).tries = 0 by show ¬ (s.at j).tries = 0; rw [q1]; omega), decide_eq_false (show ¬ (s.on.at j).last + 4 ≤ s.on.now by show ¬ (s.at j).last + 4 ≤ s.now + 1; rw [q2, if_neg hi, hnow]; omega)]
      rfl
    have hover : ¬ s.on.due.any s.on.over = true := by rw [hdue]; simp
    obtain ⟨t1, _, t3⟩ := tick_ok hf hl hover
    rw [hdue, puts_nil] at t3
    rw [if_pos (by omega), t3]
    refine ⟨t1, h.ch, h.l, fun _ => ⟨hl, by show s.now + 1 = _; rw [hnow], fun j hjn => ?_⟩, fun q => by omega⟩
    obtain ⟨q1, q2⟩ := hj j hjn
    have hi : i ≠ 0 := fun e => h4 (by rw [e])
    refine ⟨?_, ?_⟩
    · show (s.at j).tries = _
      rw [q1]; omega
    · show (s.at j).last = _
      rw [q2, if_neg hi, if_neg (by omega)]; omega
theorem Lo.end {n i : Nat} {s : Sd} (h : Lo n i s) (hi : 33 ≤ i) (hn : 1 ≤ n) : s.err = 16 ∧ ¬ s.full ∧ s.tries 0 = 8 := by
  obtain ⟨hl, ht⟩ := h.off hi
  exact ⟨by unfold Sd.err; rw [if_pos hl], h.notFull hn, ht⟩
end Go.Proofs.YtcnaaoakcmdfkaaDoor
