/- Proved: plain facts of a receiver that takes its own chunks in whatever order, and however often; and the closure of the law ReceiverOrder, by a contract of its own. Conditions: at most 50 chunks, none above 1000 bytes; what the closure captures lies in memory. -/
import Derived.Test.YtifcibmpeolmdaaDoorFw
namespace Go.Proofs.YtifcibmpeolmdaaDoor
open Go.RowKit

/-- The frame of chunk i. -/
def oF (ch : List (List UInt8)) (i : Nat) : Fr := ⟨1, 1, 2, i, ch.length, ch.getD i []⟩
structure Few (ch : List (List UInt8)) : Prop where
  pos : 1 ≤ ch.length
  few : ch.length ≤ 50
  text : ∀ i, (ch.getD i []).length ≤ 1000
/-- A receiver that has taken m of them. -/
structure Tk (ch : List (List UInt8)) (m : Nat) (r : Rv) : Prop where
  good : Good r
  ses : r.ses = 1
  ep : r.ep = 2
  len : r.c.length = ch.length
  text : ∀ i, r.l.getD i false = true → r.c.getD i [] = ch.getD i []
  nine : r.d 9 + cntN r.l = m
  low : ∀ e, r.d e ≤ m
section
variable {ch : List (List UInt8)} {m i : Nat} {r : Rv}
theorem cnt_none (n : Nat) : cntN (List.replicate n false) = 0 := by simp [cntN, List.count_replicate]
theorem Few.may (h : Few ch) : mayR 1 2 (ch.length : Nat) := by unfold mayR; have := h.pos; have := h.few; omega
theorem Tk.new (h : Few ch) : Tk ch 0 (newR 1 2 ch.length) := ⟨Good.new h.may, rfl, rfl, by simp [newR], (fun i hi => by
  have : (List.replicate ch.length false).getD i false = true := hi
  rw [getD_rep] at this
  cases this), (by show 0 + cntN (List.replicate ch.length false) = 0; rw [cnt_none]), fun _ => Nat.le_refl _⟩
theorem oF_right (h : Few ch) (hi : i < ch.length) : rightF (oF ch i) := by
  have h1 := h.few
  have h2 := h.text i
  exact ⟨.inl rfl, (by show (0 : Int) ≤ 1 ∧ (1 : Int) < 4294967296; decide), (by show (0 : Int) ≤ 2 ∧ (2 : Int) < 4294967296; decide), ⟨by show (0 : Int) ≤ i; omega, by show (i : Int) < 65536; omega⟩, ⟨by show (0 : Int) ≤ ch.length; omega, by show (ch.length : Int) < 65536; omega⟩, by show (ch.getD i []).length ≤ 65000; omega⟩
theorem oF_sq (h : Few ch) (hi : i < ch.length) : SqF (oF ch i) := by
  have h1 := h.few
  have h2 := h.text i
  exact sq_of (by show (0 : Int) ≤ 1 ∧ (1 : Int) ≤ 1000; decide) (by show (0 : Int) ≤ 2 ∧ (2 : Int) ≤ 1000; decide) ⟨by show (0 : Int) ≤ i; omega, by show (i : Int) ≤ 1000; omega⟩ ⟨by show (0 : Int) ≤ ch.length; omega, by show (ch.length : Int) ≤ 1000; omega⟩ (by show (ch.getD i []).length ≤ 1000000; omega)
theorem Tk.wrong (h : Tk ch m r) (hf : Few ch) (hi : i < ch.length) : r.wrong (oF ch i) = if r.l.getD i false then 9 else 0 := by
  have h2 := hf.text i
  unfold Rv.wrong
  rw [if_neg (by intro e; rcases e with e | e; exact e rfl; exact e (oF_right hf hi)), if_neg (by rw [h.ses]; exact fun e => e rfl), if_neg (by rw [h.ep]; exact fun e => e rfl),
    if_neg (by rw [h.len]; show ¬ ((ch.length : Int) ≠ ch.length ∨ (ch.length : Int) ≤ i); omega), if_neg (by show ¬ 1000 < (ch.getD i []).length; omega)]
  show (if r.l.getD (i : Int).toNat false then 9 else 0) = _
  rw [Int.toNat_natCast]
theorem Tk.take (h : Tk ch m r) (hf : Few ch) (hi : i < ch.length) : Tk ch (m + 1) (r.take (oF ch i)) ∧ (r.take (oF ch i)).l.getD i false = true ∧ ∀ j, r.l.getD j false = true → (r.take (oF ch i)).l.getD j false = true := by
  have hw := h.wrong hf hi
  have hg := h.good.take (oF ch i)
  have hn := h.nine
  have hrl : i < r.l.length := by rw [h.good.len, h.len]; exact hi
  have hrc : i < r.c.length := by rw [h.len]; exact hi
  cases hl : r.l.getD i false with
  | true =>
    rw [hl, if_pos rfl] at hw
    have ht : r.take (oF ch i) = r.count (9 : Nat) := by unfold Rv.take; rw [hw, if_neg (by decide)]
    rw [ht] at hg ⊢
    refine ⟨⟨hg, h.ses, h.ep, h.len, h.text, ?_, fun e => ?_⟩, hl, fun j hj => hj⟩
    · show (if (9 : Int) = ((9 : Nat) : Int) then r.d 9 + 1 else r.d 9) + cntN r.l = m + 1
      rw [if_pos (show (9 : Int) = ((9 : Nat) : Int) from rfl)]; omega
    · show (if e = ((9 : Nat) : Int) then r.d e + 1 else r.d e) ≤ m + 1
      have := h.low e
      split <;> omega
  | false =>
    rw [hl, if_neg (by decide)] at hw
    have ht : r.take (oF ch i) = r.keep i (ch.getD i []) := by rw [take_yes hw]; show r.keep (i : Int).toNat _ = _; rw [Int.toNat_natCast]; rfl
    rw [ht] at hg ⊢
    refine ⟨⟨hg, h.ses, h.ep, by show (r.c.set i _).length = _; rw [List.length_set]; exact h.len, fun j hj => ?_, ?_, fun e => ?_⟩, ?_, fun j hj => ?_⟩
    · have hj : (r.l.set i true).getD j false = true := hj
      show (r.c.set i _).getD j [] = _
      rw [getD_setS _ _ _ _ hrc]
      split
      · next e => rw [e]
      · next e =>
        rw [getD_set _ _ _ hrl] at hj
        exact h.text j (by simpa [e] using hj)
    · show r.d 9 + cntN (r.l.set i true) = m + 1
      rw [cnt_set _ _ hrl hl]; omega
    · show r.d e ≤ m + 1
      have := h.low e; omega
    · show (r.l.set i true).getD i false = true
      rw [getD_set _ _ _ hrl]; simp
    · show (r.l.set i true).getD j false = true
      rw [getD_set _ _ _ hrl, hj]; simp
theorem Tk.all (h : Tk ch m r) (ha : ∀ i, i < ch.length → r.l.getD i false = true) : r.full ∧ r.data = ch.flatten ∧ r.dataE = 0 ∧ cntN r.l = ch.length ∧ r.d 9 + ch.length = m := by
  have hl : r.l.length = ch.length := by rw [h.good.len, h.len]
  have hb : baseN r.l = r.l.length := base_full fun i hi => ha i (by omega)
  have hc := (cnt_full_iff r.l).1 hb
  have hf : r.full := by show baseN r.l = r.c.length; rw [hb, h.good.len]
  have hn := h.nine
  have e : r.c = ch := ext_getS h.len fun i hi => h.text i (ha i (by rw [← h.len]; exact hi))
  refine ⟨hf, ?_, if_pos hf, by omega, by omega⟩
  unfold Rv.data
  rw [if_pos hf, e]
end

theorem flat_few (ch : List (List UInt8)) : ∀ k, (∀ i, i < k → (ch.getD i []).length ≤ 1000) → ((ch.take k).flatten).length ≤ 1000 * k
  | 0, _ => by simp
  | k + 1, h => by
    have ih := flat_few ch k (fun i hi => h i (by omega))
    have h2 := h k (by omega)
    rw [List.take_add_one]
    cases he : ch[k]? with
    | none => simp at ih ⊢; omega
    | some x =>
      rw [List.getD_eq_getElem?_getD, he] at h2
      simp at ih h2 ⊢; omega

/-! ### The law's closure -/
def PhO (y : World) (K : List Nat) (b : Nat) (r : Rv) : Nat → World → Prop
  | 0, w => Keep y w
  | _, w => ∃ K', Z w K' b r ∧ Turn K y w ∧ More y K K'
theorem PhO.turn {y w : World} {K : List Nat} {b : Nat} {r : Rv} : ∀ p, PhO y K b r p w → Turn K y w
  | 0, h => Turn.keep _ (show Keep y w from h)
  | _ + 1, ⟨_, _, h, _⟩ => h
set_option maxRecDepth 100000 in
set_option maxHeartbeats 1000000 in
theorem closure_at (ch : List (List UInt8)) (hf : Few ch) (i b Br Bn Bc g o cap m : Nat) (r : Rv) (K : List Nat) (w : World) (hi : i < ch.length) (hr : w.heap[Br]? = some (.cells #[.pointer (some ⟨b, 0, none⟩)] 24 (0, 0)))
    (hn : w.heap[Bn]? = some (.cells #[.int .i64 ch.length] 3 (0, 0))) (hc : w.heap[Bc]? = some (.cells #[.slice (some ⟨g, o, none⟩) ch.length cap] 38 (0, 0))) (hs : TexS w (.slice (some ⟨g, o, none⟩) ch.length cap) ch)
    (hz : Z w K b r) (hK : Apart K [g, Br, Bn, Bc]) (ht : Tk ch m r) (hm : m ≤ 1000) :
    Calls Tryd.prog 30 #[.int .i64 i, .pointer (some ⟨Br, 0, none⟩), .pointer (some ⟨Bn, 0, none⟩), .pointer (some ⟨Bc, 0, none⟩)] w fun e w' =>
      e = .returned (.tuple #[]) ∧ ∃ K', Z w' K' b (r.take (oF ch i)) ∧ Turn K w w' ∧ More w K K' := by
  obtain ⟨P, hP⟩ : ∃ P, PhO w K b (r.take (oF ch i)) = P := ⟨_, rfl⟩
  obtain ⟨N, hN⟩ : ∃ N, ch.length = N := ⟨_, rfl⟩
  have HP0 := Lib.hid (show P 0 w.drew from by rw [← hP]; exact (Keep.refl w).drew)
  have ne : Nonempty (PW P) := ⟨⟨w.drew, 0, HP0.out⟩⟩
  have hx : ch[i]? = some (ch.getD i []) := by rw [List.getD_eq_getElem?_getD, List.getElem?_eq_getElem hi]; rfl
  have a1 : ∀ u : PW P, u.1.cell? ⟨Br, 0, none⟩ = some (.pointer (some ⟨b, 0, none⟩)) := by
    rintro ⟨v, p, hp⟩
    rw [← hP] at hp
    exact cell_obj ((PhO.turn p hp).obj hr (fun e => hK _ e (by simp))) rfl
  have a2 : ∀ u : PW P, u.1.cell? ⟨Bn, 0, none⟩ = some (.int .i64 N) := by
    rintro ⟨v, p, hp⟩
    rw [← hP] at hp
    rw [← hN]
    exact cell_obj ((PhO.turn p hp).obj hn (fun e => hK _ e (by simp))) rfl
  have a3 : ∀ u : PW P, u.1.cell? ⟨Bc, 0, none⟩ = some (.slice (some ⟨g, o, none⟩) N cap) := by
    rintro ⟨v, p, hp⟩
    rw [← hP] at hp
    rw [← hN]
    exact cell_obj ((PhO.turn p hp).obj hc (fun e => hK _ e (by simp))) rfl
  have a4 : ∀ u : PW P, u.1.cell? ⟨g, o + i, none⟩ = some (.string ⟨(ch.getD i []).toArray⟩) := by
    rintro ⟨v, p, hp⟩
    rw [← hP] at hp
    exact TexS.text (l := ch) ((PhO.turn p hp).cells hs (fun q hq e => hK _ e (by cases hq; simp))) i _ hx
  have hb := build_frame 1 1 2 i N (ch.getD i [])
  have hbnd : (0 : Int) ≤ i ∧ (i : Int) < N := by omega
  have cA : Hid (∀ v, P 0 v → Calls Tryd.prog 14 #[.pointer (some ⟨b, 0, none⟩), .agg (fc (oF ch i))] v fun e w' => e = .returned (.int .i64 (r.wrong (oF ch i) : Nat)) ∧ P 1 w') := Lib.hid (by
    rw [← hP]
    intro v (hv : Keep w v)
    refine (ztake (oF ch i) (oF_sq hf hi) (hz.keep hv) (by have := ht.low (r.wrong (oF ch i) : Nat); omega)).mono ?_
    rintro e w' ⟨rfl, K', z, t, mo⟩
    exact ⟨rfl, K', z, Turn.ofKeep hv t, fun k hk => (mo k hk).elim .inl fun h => .inr (Nat.le_trans hv.size h)⟩)
  have HP1 := Lib.hid (fun v => (show P 1 v → ∃ K', Z v K' b (r.take (oF ch i)) ∧ Turn K w v ∧ More w K K' from by rw [← hP]; exact id))
  rw [show (⟨1, 1, 2, (i : Int), (N : Int), ch.getD i []⟩ : Fr) = oF ch i from by unfold oF; rw [hN]] at hb
  have HB := Lib.hid hb
  clear hP hr hn hc hs hz hK ht hx hN hb hi
  generalize fc (oF ch i) = C at *
  generalize (ch.getD i []).toArray = tx at *
  generalize r.wrong (oF ch i) = W at *
  go_enter Tryd.func30, Tryd.ntmps30
  go_wp2_with fail
  refine wp_region_ph (A := isCall) (C := P) (by kernel_rfl) (by kernel_rfl) (by kernel_rfl) HP0.out ?_
  repeat (refine ph_quiet (by rfl) ?_; (first | go_big_quiet_step (fail) | quiet_step (fail)); refine wpQuiet_nil ?_)
  refine ph_build rfl 32 _ rfl _ rfl (.agg C) HB.out ?_
  refine ph_act cA.out (fun K hK => ?_)
  refine ⟨by rfl, by rfl, fun w => by go_simp, ?_⟩
  go_simp
  refine hK _ ?_
  clear hK K
  refine ph_nil ?_
  intro v5 h5
  have HE := Lib.hid (HP1.out v5 h5)
  clear h5 HP1 HP0 cA a1 a2 a3 a4 ne
  go_wp2
  first | go_end0 | trace_state
  exact ⟨rfl, HE.out⟩

/-- What the law holds: the receiver, and the variables that the closure captures. -/
structure Ob (w0 : World) (b Br Bn Bc g o cap : Nat) (ch : List (List UInt8)) (m : Nat) (r : Rv) (K : List Nat) (v : World) : Prop where
  z : Z v K b r
  tk : Tk ch m r
  apart : Apart K [g, Br, Bn, Bc]
  new : From w0.heap.size K
  keep : Keep w0 v
  br : v.heap[Br]? = some (.cells #[.pointer (some ⟨b, 0, none⟩)] 24 (0, 0))
  bn : v.heap[Bn]? = some (.cells #[.int .i64 ch.length] 3 (0, 0))
  bc : v.heap[Bc]? = some (.cells #[.slice (some ⟨g, o, none⟩) ch.length cap] 38 (0, 0))
section
variable {w0 v v' : World} {b Br Bn Bc g o cap m : Nat} {ch : List (List UInt8)} {r : Rv} {K : List Nat}
theorem Ob.kept (h : Ob w0 b Br Bn Bc g o cap ch m r K v) (k : Keep v v') : Ob w0 b Br Bn Bc g o cap ch m r K v' := ⟨h.z.keep k, h.tk, h.apart, h.new, h.keep.trans k, k.obj h.br, k.obj h.bn, k.obj h.bc⟩
theorem Ob.cr (h : Ob w0 b Br Bn Bc g o cap ch m r K v) : v.cell? ⟨Br, 0, none⟩ = some (.pointer (some ⟨b, 0, none⟩)) := cell_obj h.br rfl
theorem Ob.cn (h : Ob w0 b Br Bn Bc g o cap ch m r K v) : v.cell? ⟨Bn, 0, none⟩ = some (.int .i64 ch.length) := cell_obj h.bn rfl
theorem Ob.take (h : Ob w0 b Br Bn Bc g o cap ch m r K v) (hf : Few ch) (hs : TexS w0 (.slice (some ⟨g, o, none⟩) ch.length cap) ch) (i : Nat) (hi : i < ch.length) (hm : m ≤ 1000) :
    Calls Tryd.prog 30 #[.int .i64 i, .pointer (some ⟨Br, 0, none⟩), .pointer (some ⟨Bn, 0, none⟩), .pointer (some ⟨Bc, 0, none⟩)] v fun e w' =>
      e = .returned (.tuple #[]) ∧ ∃ K', Ob w0 b Br Bn Bc g o cap ch (m + 1) (r.take (oF ch i)) K' w' := by
  have hsv := hs.keep h.keep
  have hgl : g < v.heap.size := hsv.lt rfl
  refine (closure_at ch hf i b Br Bn Bc g o cap m r K v hi h.br h.bn h.bc hsv h.z h.apart h.tk hm).mono ?_
  rintro e w' ⟨rfl, K', z, t, mo⟩
  have hu : Upto' v.heap.size [g, Br, Bn, Bc] := fun k hk => by
    simp only [List.mem_cons, List.not_mem_nil, or_false] at hk
    rcases hk with rfl | rfl | rfl | rfl
    · exact hgl
    · exact block_lt h.br
    · exact block_lt h.bn
    · exact block_lt h.bc
  exact ⟨rfl, K', z, (h.tk.take hf hi).1, h.apart.more mo hu, h.new.more mo h.keep.size, Turn.from h.keep t h.new, t.obj h.br (fun e => h.apart _ e (by simp)), t.obj h.bn (fun e => h.apart _ e (by simp)), t.obj h.bc (fun e => h.apart _ e (by simp))⟩
end
end Go.Proofs.YtifcibmpeolmdaaDoor
