/- Proved: plain mathematics of CRC-32, with no program in it: the register is linear, bits that are fed are as if they stood in it, and a burst of up to 32 bits never comes to nought. No condition. -/
namespace Go.Proofs.Ytbakmfeikkpmjaa.K

def poly : Nat := 3988292384
/-- One bit, nought. -/
def S (x : Nat) : Nat := if x % 2 = 1 then x / 2 ^^^ poly else x / 2
/-- One bit. -/
def stp (x b : Nat) : Nat := if x % 2 ≠ b then x / 2 ^^^ poly else x / 2
/-- Bits, one behind the other. -/
def run : Nat → List Bool → Nat
  | x, [] => x
  | x, b :: l => run (stp x b.toNat) l
/-- Bits as a number, the first one the lowest. -/
def pad : List Bool → Nat
  | [] => 0
  | b :: l => b.toNat + 2 * pad l
def Sn : Nat → Nat → Nat
  | 0, x => x
  | n + 1, x => Sn n (S x)

theorem xor_mod (x y : Nat) : (x ^^^ y) % 2 = (x % 2 + y % 2) % 2 := by
  have h := Nat.testBit_xor x y 0
  simp only [Nat.testBit_zero] at h
  have hx := Nat.mod_two_eq_zero_or_one x
  have hy := Nat.mod_two_eq_zero_or_one y
  have hz := Nat.mod_two_eq_zero_or_one (x ^^^ y)
  rcases hx with hx | hx <;> rcases hy with hy | hy <;> rcases hz with hz | hz <;> simp_all

theorem xor_div (x y : Nat) : (x ^^^ y) / 2 = x / 2 ^^^ y / 2 := by
  apply Nat.eq_of_testBit_eq
  intro i
  simp only [Nat.testBit_xor, Nat.testBit_div_two]

theorem S_xor (x y : Nat) : S (x ^^^ y) = S x ^^^ S y := by
  unfold S
  rw [xor_mod, xor_div]
  have hx := Nat.mod_two_eq_zero_or_one x
  have hy := Nat.mod_two_eq_zero_or_one y
  rcases hx with hx | hx <;> rcases hy with hy | hy
  · simp [hx, hy]
  · simp [hx, hy, Nat.xor_assoc]
  · simp only [hx, hy]
    simp [Nat.xor_assoc, Nat.xor_comm poly]
  · simp only [hx, hy]
    simp
    rw [Nat.xor_assoc, ← Nat.xor_assoc poly, Nat.xor_comm poly (y / 2), Nat.xor_assoc (y / 2), Nat.xor_self, Nat.xor_zero]

theorem S_zero : S 0 = 0 := rfl
theorem S_lt (x : Nat) (h : x < 2 ^ 32) : S x < 2 ^ 32 := by
  unfold S
  split
  · exact Nat.xor_lt_two_pow (by omega) (by decide)
  · omega

theorem top_poly (y : Nat) (h : y < 2 ^ 31) : (y ^^^ poly).testBit 31 = true := by
  rw [Nat.testBit_xor, Nat.testBit_lt_two_pow h]
  decide

theorem S_inj0 (x : Nat) (h : x < 2 ^ 32) (e : S x = 0) : x = 0 := by
  unfold S at e
  split at e
  · have h1 := top_poly (x / 2) (by omega)
    rw [e] at h1
    simp at h1
  · omega

theorem stp_S (x b : Nat) (hb : b < 2) : stp x b = S (x ^^^ b) := by
  unfold stp S
  rw [xor_mod, xor_div]
  have hx := Nat.mod_two_eq_zero_or_one x
  have hb2 : b = 0 ∨ b = 1 := by omega
  rcases hb2 with rfl | rfl <;> rcases hx with hx | hx <;> simp [hx]

theorem toNat_lt (b : Bool) : b.toNat < 2 := by cases b <;> decide

/-- Bits of unlike rows: the register's difference is that of the differences. -/
theorem run_xor (l m : List Bool) : ∀ x y, l.length = m.length → run x l ^^^ run y m = run (x ^^^ y) (List.zipWith (fun a b => a ^^ b) l m) := by
  induction l generalizing m with
  | nil => intro x y h; cases m with
    | nil => rfl
    | cons b m => simp at h
  | cons a l ih => intro x y h; cases m with
    | nil => simp at h
    | cons b m =>
      rw [run, run, List.zipWith_cons_cons, run, ih m _ _ (by simpa using h)]
      congr 1
      rw [stp_S _ _ (toNat_lt a), stp_S _ _ (toNat_lt b), stp_S _ _ (toNat_lt _), ← S_xor]
      congr 1
      have : (a ^^ b).toNat = a.toNat ^^^ b.toNat := by cases a <;> cases b <;> rfl
      rw [this, Nat.xor_assoc, ← Nat.xor_assoc a.toNat, Nat.xor_comm a.toNat y, Nat.xor_assoc y, ← Nat.xor_assoc x]

theorem run_append (l m : List Bool) : ∀ x, run x (l ++ m) = run (run x l) m := by
  induction l with
  | nil => intro x; rfl
  | cons b l ih => intro x; rw [List.cons_append, run, run, ih]

theorem run_lt (l : List Bool) : ∀ x, x < 2 ^ 32 → run x l < 2 ^ 32 := by
  induction l with
  | nil => intro x h; exact h
  | cons b l ih =>
    intro x h
    rw [run]
    refine ih _ ?_
    rw [stp_S _ _ (toNat_lt b)]
    exact S_lt _ (Nat.xor_lt_two_pow h (by have := toNat_lt b; omega))

theorem pad_lt (l : List Bool) : pad l < 2 ^ l.length := by
  induction l with
  | nil => decide
  | cons b l ih => have := toNat_lt b; rw [pad, List.length_cons, Nat.pow_succ]; omega

theorem pad_zero (l : List Bool) (h : pad l = 0) : ∀ b ∈ l, b = false := by
  induction l with
  | nil => intro b hb; cases hb
  | cons c l ih =>
    intro b hb
    rw [pad] at h
    have h2 : pad l = 0 := by omega
    have h1 : c.toNat = 0 := by omega
    rcases List.mem_cons.1 hb with rfl | hb
    · cases b <;> simp_all
    · exact ih h2 b hb

theorem Sn_zero (n : Nat) : Sn n 0 = 0 := by induction n with
  | zero => rfl
  | succ n ih => rw [Sn, S_zero, ih]
theorem Sn_xor (n : Nat) : ∀ x y, Sn n (x ^^^ y) = Sn n x ^^^ Sn n y := by
  induction n with
  | zero => intro x y; rfl
  | succ n ih => intro x y; rw [Sn, Sn, Sn, S_xor, ih]
theorem Sn_inj0 (n : Nat) : ∀ x, x < 2 ^ 32 → Sn n x = 0 → x = 0 := by
  induction n with
  | zero => intro x _ h; exact h
  | succ n ih => intro x h e; rw [Sn] at e; exact S_inj0 x h (ih (S x) (S_lt x h) e)

theorem S_double (x : Nat) : S (2 * x) = x := by
  unfold S
  rw [if_neg (by omega)]
  omega

/-- Up to 32 bits that are fed are as if they had stood in the register. -/
theorem run_pad (l : List Bool) : ∀ x, run x l = Sn l.length (x ^^^ pad l) := by
  induction l with
  | nil => intro x; simp [run, Sn, pad]
  | cons b l ih =>
    intro x
    rw [run, ih, stp_S _ _ (toNat_lt b), List.length_cons, Sn]
    congr 1
    have e : x ^^^ pad (b :: l) = (x ^^^ b.toNat) ^^^ 2 * pad l := by
      rw [pad, Nat.xor_assoc]
      congr 1
      apply Nat.eq_of_testBit_eq
      intro i
      cases i with
      | zero => rw [Nat.testBit_xor]; simp only [Nat.testBit_zero]; cases b <;> simp <;> omega
      | succ i =>
        rw [Nat.testBit_xor, Nat.testBit_succ, Nat.testBit_succ, Nat.testBit_succ]
        have h1 := toNat_lt b
        rw [show (b.toNat + 2 * pad l) / 2 = pad l by omega, show b.toNat / 2 = 0 by omega, show 2 * pad l / 2 = pad l by omega]
        simp
    rw [e, S_xor (x ^^^ b.toNat) (2 * pad l), S_double]

/-- A register that isn't nought stays so over noughts. -/
theorem run_zeros (n : Nat) (x : Nat) : run x (List.replicate n false) = Sn n x := by
  rw [run_pad, List.length_replicate]
  have : pad (List.replicate n false) = 0 := by
    induction n with
    | zero => rfl
    | succ n ih => rw [List.replicate_succ, pad, ih]; rfl
  rw [this, Nat.xor_zero]

/-- A burst: noughts, then up to 32 bits of which one is 1, then noughts: never comes to nought. -/
theorem burst (n m : Nat) (l : List Bool) (hl : l.length ≤ 32) (h1 : true ∈ l) : run 0 (List.replicate n false ++ (l ++ List.replicate m false)) ≠ 0 := by
  rw [run_append, run_append, run_zeros, run_zeros, Sn_zero, run_pad, Nat.zero_xor]
  intro e
  have hp : pad l < 2 ^ 32 := Nat.lt_of_lt_of_le (pad_lt l) (Nat.pow_le_pow_right (by omega) hl)
  have hs : ∀ n x, x < 2 ^ 32 → Sn n x < 2 ^ 32 := fun n => by
    induction n with
    | zero => intro x h; exact h
    | succ n ih => intro x h; rw [Sn]; exact ih _ (S_lt x h)
  have h2 := Sn_inj0 m _ (hs _ _ hp) e
  have h3 := Sn_inj0 _ _ hp h2
  have h4 := pad_zero l h3 true h1
  cases h4

/-! ### Bytes -/
def ones : Nat := 4294967295
def byteBits (c : UInt8) : List Bool := [c.toNat.testBit 0, c.toNat.testBit 1, c.toNat.testBit 2, c.toNat.testBit 3, c.toNat.testBit 4, c.toNat.testBit 5, c.toNat.testBit 6, c.toNat.testBit 7]
def bitsOf : List UInt8 → List Bool
  | [] => []
  | c :: l => byteBits c ++ bitsOf l
/-- The sum of bytes. -/
def sum (l : List UInt8) : Nat := run ones (bitsOf l) ^^^ ones
def le4 (v : Nat) : List UInt8 := [UInt8.ofNat (v % 256), UInt8.ofNat (v / 256 % 256), UInt8.ofNat (v / 65536 % 256), UInt8.ofNat (v / 16777216 % 256)]
def sealB (l : List UInt8) : List UInt8 := l ++ le4 (sum l)

theorem bitsOf_append (l m : List UInt8) : bitsOf (l ++ m) = bitsOf l ++ bitsOf m := by
  induction l with
  | nil => rfl
  | cons c l ih => rw [List.cons_append, bitsOf, bitsOf, ih, List.append_assoc]
theorem bitsOf_len (l : List UInt8) : (bitsOf l).length = 8 * l.length := by
  induction l with
  | nil => rfl
  | cons c l ih => rw [bitsOf, List.length_append, ih, List.length_cons]; simp [byteBits]; omega
theorem pad_append (l m : List Bool) : pad (l ++ m) = pad l + 2 ^ l.length * pad m := by
  induction l with
  | nil => simp [pad]
  | cons b l ih => rw [List.cons_append, pad, pad, ih, List.length_cons, Nat.pow_succ, Nat.mul_add, Nat.mul_comm (2 ^ l.length) 2, Nat.mul_assoc]; omega
theorem pad_byteN : ∀ n : Nat, n < 256 → pad [n.testBit 0, n.testBit 1, n.testBit 2, n.testBit 3, n.testBit 4, n.testBit 5, n.testBit 6, n.testBit 7] = n := by decide +kernel
theorem pad_byte (c : UInt8) : pad (byteBits c) = c.toNat := pad_byteN c.toNat c.toNat_lt
theorem toNat_byte (n : Nat) (h : n < 256) : (UInt8.ofNat n).toNat = n := by simp [UInt8.toNat_ofNat']; omega

/-- The number that bytes make, the lowest first. -/
def leN : List UInt8 → Nat
  | [] => 0
  | c :: l => c.toNat + 256 * leN l
theorem pad_bytes (l : List UInt8) : pad (bitsOf l) = leN l := by
  induction l with
  | nil => rfl
  | cons c l ih => rw [bitsOf, pad_append, pad_byte, ih, leN, show (byteBits c).length = 8 from rfl]
theorem leN_le4 (v : Nat) (h : v < 2 ^ 32) : leN (le4 v) = v := by
  unfold le4 leN leN leN leN leN
  rw [toNat_byte _ (by omega), toNat_byte _ (by omega), toNat_byte _ (by omega), toNat_byte _ (by omega)]
  omega
theorem le4_leN (a b c d : UInt8) : le4 (leN [a, b, c, d]) = [a, b, c, d] := by
  have ha := a.toNat_lt
  have hb := b.toNat_lt
  have hc := c.toNat_lt
  have hd := d.toNat_lt
  unfold le4 leN leN leN leN leN
  have e : ∀ (n : Nat) (x : UInt8), n = x.toNat → UInt8.ofNat n = x := fun n x h => by rw [h]; simp
  rw [e _ a (by omega), e _ b (by omega), e _ c (by omega), e _ d (by omega)]

theorem le4_of (f : List UInt8) (hf : f.length = 4) : le4 (leN f) = f := by
  match f, hf with
  | [a, b, c, d], _ => exact le4_leN a b c d
theorem leN_lt (f : List UInt8) (hf : f.length = 4) : leN f < 2 ^ 32 := by
  match f, hf with
  | [a, b, c, d], _ =>
    have := a.toNat_lt; have := b.toNat_lt; have := c.toNat_lt; have := d.toNat_lt
    unfold leN leN leN leN leN; omega

theorem ones_lt : ones < 2 ^ 32 := by decide
theorem sum_lt (l : List UInt8) : sum l < 2 ^ 32 := Nat.xor_lt_two_pow (run_lt _ _ ones_lt) ones_lt

/-- What is left in the register behind sealed bytes. -/
def rest : Nat := Sn 32 ones

theorem run_four (r : Nat) (l : List UInt8) (h : l.length = 4) : run r (bitsOf l) = Sn 32 (r ^^^ leN l) := by
  rw [run_pad, bitsOf_len, h, pad_bytes]

/-- Bytes and four more are sealed just where the register comes to 'rest'. -/
theorem sealed_iff (t f : List UInt8) (hf : f.length = 4) : f = le4 (sum t) ↔ run ones (bitsOf (t ++ f)) = rest := by
  rw [bitsOf_append, run_append, run_four _ _ hf]
  have hr := run_lt (bitsOf t) ones ones_lt
  have hl := leN_lt f hf
  constructor
  · intro e
    rw [e, leN_le4 _ (sum_lt t)]
    unfold sum rest
    rw [← Nat.xor_assoc, Nat.xor_self, Nat.zero_xor]
  · intro e
    have h1 : Sn 32 ((run ones (bitsOf t) ^^^ leN f) ^^^ ones) = 0 := by rw [Sn_xor, e]; unfold rest; rw [Nat.xor_self]
    have h2 := Sn_inj0 32 _ (Nat.xor_lt_two_pow (Nat.xor_lt_two_pow hr hl) ones_lt) h1
    have h3 : leN f = sum t := by
      unfold sum
      have h4 : (run ones (bitsOf t) ^^^ ones) ^^^ ((run ones (bitsOf t) ^^^ leN f) ^^^ ones) = leN f := by
        rw [Nat.xor_comm (run ones (bitsOf t)) ones, Nat.xor_assoc ones, ← Nat.xor_assoc (run ones (bitsOf t)), ← Nat.xor_assoc (run ones (bitsOf t)), Nat.xor_self, Nat.zero_xor, Nat.xor_comm (leN f) ones, ← Nat.xor_assoc, Nat.xor_self, Nat.zero_xor]
      rw [h2, Nat.xor_zero] at h4
      exact h4.symm
    rw [← h3]
    exact (le4_of f hf).symm

/-- Sealed bytes of which a burst of up to 32 bits is turned aren't sealed bytes. -/
theorem burst_told (u v : List UInt8) (n m : Nat) (l : List Bool) (hl : l.length ≤ 32) (h1 : true ∈ l) (hu : run ones (bitsOf u) = rest) (hlen : u.length = v.length)
    (he : List.zipWith (fun a b => a ^^ b) (bitsOf u) (bitsOf v) = List.replicate n false ++ (l ++ List.replicate m false)) : run ones (bitsOf v) ≠ rest := by
  intro hv
  have h := run_xor (bitsOf u) (bitsOf v) ones ones (by rw [bitsOf_len, bitsOf_len, hlen])
  rw [hu, hv, Nat.xor_self, Nat.xor_self, he] at h
  exact burst n m l hl h1 h.symm

/-! ### A byte at a time, by the table -/
theorem split256 (z : Nat) : z = z % 256 ^^^ 256 * (z / 256) := by
  apply Nat.eq_of_testBit_eq
  intro i
  rw [Nat.testBit_xor, show (256 : Nat) = 2 ^ 8 from rfl, Nat.testBit_mod_two_pow, Nat.testBit_two_pow_mul]
  by_cases h : i < 8
  · have h2 : ¬ 8 ≤ i := by omega
    simp [h, h2]
  · have h2 : 8 ≤ i := by omega
    simp only [h, h2, decide_true, decide_false, Bool.false_and, Bool.true_and, Bool.false_xor]
    rw [Nat.testBit_div_two_pow, show i - 8 + 8 = i by omega]

theorem Sn_256 (y : Nat) : Sn 8 (256 * y) = y := by
  have e : 256 * y = 2 * (2 * (2 * (2 * (2 * (2 * (2 * (2 * y))))))) := by omega
  rw [e]
  simp only [Sn, S_double]

/-- One byte: the row of its (turned) lowest byte, and the others. -/
theorem run_byte (x : Nat) (c : UInt8) : run x (byteBits c) = Sn 8 ((x ^^^ c.toNat) % 256) ^^^ (x ^^^ c.toNat) / 256 := by
  rw [run_pad, pad_byte, show (byteBits c).length = 8 from rfl]
  conv => lhs; rw [split256 (x ^^^ c.toNat)]
  rw [Sn_xor, Sn_256]

theorem xor_byte (x c : Nat) (hc : c < 256) : (x ^^^ c) % 256 = x % 256 ^^^ c ∧ (x ^^^ c) / 256 = x / 256 := by
  constructor
  · rw [show (256 : Nat) = 2 ^ 8 from rfl, Nat.xor_mod_two_pow, Nat.mod_eq_of_lt (show c < 2 ^ 8 from hc)]
  · rw [show (256 : Nat) = 2 ^ 8 from rfl, Nat.xor_div_two_pow, Nat.div_eq_of_lt (show c < 2 ^ 8 from hc), Nat.xor_zero]

theorem Sn_inj (n x y : Nat) (hx : x < 2 ^ 32) (hy : y < 2 ^ 32) (h : Sn n x = Sn n y) : x = y := by
  have h1 : Sn n (x ^^^ y) = 0 := by rw [Sn_xor, h, Nat.xor_self]
  have h2 := Sn_inj0 n _ (Nat.xor_lt_two_pow hx hy) h1
  have h3 : x ^^^ (x ^^^ y) = y := by rw [← Nat.xor_assoc, Nat.xor_self, Nat.zero_xor]
  rw [h2, Nat.xor_zero] at h3
  exact h3

/-! ### Bits turned -/
/-- Bytes exclusive-or'ed with a number, the lowest byte first. -/
def xorN : List UInt8 → Nat → List UInt8
  | [], _ => []
  | c :: l, m => UInt8.ofNat (c.toNat ^^^ m % 256) :: xorN l (m / 256)

theorem xorN_len (l : List UInt8) : ∀ m, (xorN l m).length = l.length := by
  induction l with
  | nil => intro m; rfl
  | cons c l ih => intro m; rw [xorN, List.length_cons, List.length_cons, ih]
theorem toNat_x (c : UInt8) (m : Nat) : (UInt8.ofNat (c.toNat ^^^ m % 256)).toNat = c.toNat ^^^ m % 256 :=
  toNat_byte _ (Nat.xor_lt_two_pow (n := 8) c.toNat_lt (by omega))
theorem xorN_xorN (l : List UInt8) : ∀ m n, xorN (xorN l m) n = xorN l (m ^^^ n) := by
  induction l with
  | nil => intro m n; rfl
  | cons c l ih =>
    intro m n
    rw [xorN, xorN, xorN, ih, toNat_x, Nat.xor_assoc]
    congr 2
    · rw [show (256 : Nat) = 2 ^ 8 from rfl, Nat.xor_mod_two_pow]
    · rw [show (256 : Nat) = 2 ^ 8 from rfl, Nat.xor_div_two_pow]
theorem xorN_zero (l : List UInt8) : xorN l 0 = l := by
  induction l with
  | nil => rfl
  | cons c l ih => rw [xorN, Nat.zero_div, ih, Nat.zero_mod, Nat.xor_zero]; simp
theorem xorN_twice (l : List UInt8) (m : Nat) : xorN (xorN l m) m = l := by rw [xorN_xorN, Nat.xor_self, xorN_zero]
theorem xorN_mod (l : List UInt8) : ∀ m, xorN l (m % 2 ^ (8 * l.length)) = xorN l m := by
  induction l with
  | nil => intro m; rfl
  | cons c l ih =>
    intro m
    have e : 2 ^ (8 * (c :: l).length) = 256 * 2 ^ (8 * l.length) := by
      rw [List.length_cons, Nat.mul_add, Nat.pow_add, Nat.mul_comm]
    rw [xorN, xorN, e, Nat.mod_mul_right_mod, Nat.mod_mul_right_div_self, ih]
theorem xorN_over (l : List UInt8) (k : Nat) (h : 8 * l.length ≤ k) : xorN l (2 ^ k) = l := by
  rw [← xorN_mod, show k = 8 * l.length + (k - 8 * l.length) by omega, Nat.pow_add, Nat.mul_mod_right, xorN_zero]
/-- One byte turned. -/
theorem xorN_set (c : Nat) (hc : c < 256) (l : List UInt8) : ∀ j (h : j < l.length), l.set j (UInt8.ofNat ((l[j]'h).toNat ^^^ c)) = xorN l (2 ^ (8 * j) * c) := by
  induction l with
  | nil => intro j h; simp at h
  | cons x l ih =>
    intro j h
    cases j with
    | zero =>
      rw [xorN, Nat.mul_zero, Nat.pow_zero, Nat.one_mul, Nat.mod_eq_of_lt hc, Nat.div_eq_of_lt hc, xorN_zero]
      rfl
    | succ j =>
      have e : 2 ^ (8 * (j + 1)) * c = 256 * (2 ^ (8 * j) * c) := by
        rw [Nat.mul_add, Nat.pow_add, Nat.mul_comm (2 ^ (8 * j)), Nat.mul_assoc]
      rw [xorN, e, Nat.mul_mod_right, Nat.mul_div_cancel_left _ (by omega), Nat.xor_zero, ← ih j (by simpa using h)]
      simp
theorem xorN_bit (l : List UInt8) (k : Nat) (h : k / 8 < l.length) : l.set (k / 8) (UInt8.ofNat ((l[k / 8]'h).toNat ^^^ 2 ^ (k % 8))) = xorN l (2 ^ k) := by
  have h8 : 2 ^ (k % 8) < 256 := Nat.pow_lt_pow_right (n := 8) (by omega) (by omega)
  rw [xorN_set (2 ^ (k % 8)) h8 l (k / 8) h, ← Nat.pow_add]
  congr 2
  omega

/-- A number's bits, moved to 'at'. -/
def big (p : Int) (b : Nat) : Nat := if 0 ≤ p then 2 ^ p.toNat * b else b / 2 ^ (-p).toNat
theorem big_bit (p : Int) (b k : Nat) : (big p b).testBit k = (decide (p ≤ k) && b.testBit ((k : Int) - p).toNat) := by
  unfold big
  split
  · rename_i h
    rw [Nat.testBit_two_pow_mul]
    by_cases h2 : p ≤ k
    · rw [show ((k : Int) - p).toNat = k - p.toNat by omega]
      simp [h2]
    · have : ¬ p.toNat ≤ k := by omega
      simp [h2, this]
  · rename_i h
    rw [Nat.testBit_div_two_pow]
    rw [show ((k : Int) - p).toNat = k + (-p).toNat by omega]
    have : p ≤ k := by omega
    simp [this]
theorem big_zero (p : Int) : big p 0 = 0 := by unfold big; split <;> simp

/-- One more bit of those asked for. -/
theorem big_step (p : Int) (b i : Nat) : big p (b % 2 ^ (i + 1)) = big p (b % 2 ^ i) ^^^ (if b / 2 ^ i % 2 = 1 ∧ 0 ≤ p + i then 2 ^ (p + i).toNat else 0) := by
  apply Nat.eq_of_testBit_eq
  intro k
  rw [Nat.testBit_xor, big_bit, big_bit, Nat.testBit_mod_two_pow, Nat.testBit_mod_two_pow]
  have hb : (b / 2 ^ i % 2 = 1) ↔ b.testBit i = true := by rw [Nat.testBit_eq_decide_div_mod_eq]; simp
  by_cases h : p ≤ k
  · by_cases h2 : ((k : Int) - p).toNat = i
    · rw [h2]
      have h3 : 0 ≤ p + i := by omega
      have h4 : (p + i).toNat = k := by omega
      cases h5 : b.testBit i
      · have : ¬ (b / 2 ^ i % 2 = 1) := by rw [hb, h5]; simp
        simp [h, this]
      · have : b / 2 ^ i % 2 = 1 := by rw [hb, h5]
        simp [h, this, h3, h4]
    · have h6 : decide (((k : Int) - p).toNat < i + 1) = decide (((k : Int) - p).toNat < i) := by
        by_cases h7 : ((k : Int) - p).toNat < i
        · simp [h7]; omega
        · simp [h7]; omega
      rw [h6]
      have h8 : (if b / 2 ^ i % 2 = 1 ∧ 0 ≤ p + i then 2 ^ (p + i).toNat else 0).testBit k = false := by
        split
        · rename_i h9
          rw [Nat.testBit_two_pow]
          simp
          omega
        · simp
      rw [h8, Bool.xor_false]
  · have h8 : (if b / 2 ^ i % 2 = 1 ∧ 0 ≤ p + i then 2 ^ (p + i).toNat else 0).testBit k = false := by
      split
      · rename_i h9
        rw [Nat.testBit_two_pow]
        simp
        omega
      · simp
    rw [h8]
    simp [h]

/-- One more place of those looked at. -/
theorem mod_step (m k : Nat) : m % 2 ^ (k + 1) = m % 2 ^ k ^^^ (if m.testBit k = true then 2 ^ k else 0) := by
  apply Nat.eq_of_testBit_eq
  intro i
  rw [Nat.testBit_xor, Nat.testBit_mod_two_pow, Nat.testBit_mod_two_pow]
  by_cases h : i = k
  · subst h
    cases h5 : m.testBit i <;> simp
  · have h6 : decide (i < k + 1) = decide (i < k) := by
      by_cases h7 : i < k
      · simp [h7]; omega
      · simp [h7]; omega
    have h8 : (if m.testBit k = true then 2 ^ k else 0).testBit i = false := by
      split
      · rw [Nat.testBit_two_pow]; simp; omega
      · simp
    rw [h6, h8, Bool.xor_false]

/-! ### A burst -/
def bitsN : Nat → Nat → List Bool
  | 0, _ => []
  | n + 1, m => m.testBit 0 :: bitsN n (m / 2)
theorem bitsN_len (n : Nat) : ∀ m, (bitsN n m).length = n := by
  induction n with
  | zero => intro m; rfl
  | succ n ih => intro m; rw [bitsN, List.length_cons, ih]
theorem bitsN_zero (n : Nat) : bitsN n 0 = List.replicate n false := by
  induction n with
  | zero => rfl
  | succ n ih => rw [bitsN, ih, List.replicate_succ]; rfl
theorem bitsN_add (a n : Nat) : ∀ m, bitsN (a + n) m = bitsN a m ++ bitsN n (m / 2 ^ a) := by
  induction a with
  | zero => intro m; simp [bitsN]
  | succ a ih =>
    intro m
    rw [show a + 1 + n = (a + n) + 1 by omega, bitsN, bitsN, ih, List.cons_append, Nat.div_div_eq_div_mul, Nat.pow_succ, Nat.mul_comm (2 ^ a)]
theorem bitsN_mem (n : Nat) : ∀ m i, i < n → m.testBit i = true → true ∈ bitsN n m := by
  induction n with
  | zero => intro m i h; omega
  | succ n ih =>
    intro m i h hb
    rw [bitsN]
    cases i with
    | zero => rw [hb]; exact List.mem_cons_self
    | succ i => exact List.mem_cons_of_mem _ (ih (m / 2) i (by omega) (by rw [← Nat.testBit_succ]; exact hb))
theorem bitsN_mul (a n B : Nat) : bitsN (a + n) (2 ^ a * B) = List.replicate a false ++ bitsN n B := by
  rw [bitsN_add, Nat.mul_div_cancel_left _ (Nat.pow_pos (by omega))]
  congr 1
  induction a with
  | zero => rfl
  | succ a ih =>
    have e : 2 ^ (a + 1) * B = 2 * (2 ^ a * B) := by rw [Nat.pow_succ, Nat.mul_comm (2 ^ a) 2, Nat.mul_assoc]
    rw [bitsN, e, List.replicate_succ, show 2 * (2 ^ a * B) / 2 = 2 ^ a * B by omega, ih]
    congr 1
    rw [Nat.testBit_zero, show 2 * (2 ^ a * B) % 2 = 0 by omega]
    rfl

theorem byte_zip (c : UInt8) (m : Nat) : List.zipWith (fun a b => a ^^ b) (byteBits c) (byteBits (UInt8.ofNat (c.toNat ^^^ m % 256))) = bitsN 8 m := by
  have h : ∀ i, i < 8 → (c.toNat.testBit i ^^ (c.toNat ^^^ m % 256).testBit i) = m.testBit i := fun i hi => by
    rw [Nat.testBit_xor, show (256 : Nat) = 2 ^ 8 from rfl, Nat.testBit_mod_two_pow]
    cases c.toNat.testBit i <;> simp [hi]
  unfold byteBits
  rw [toNat_x]
  simp only [List.zipWith_cons_cons, List.zipWith_nil_right, h 0 (by omega), h 1 (by omega), h 2 (by omega), h 3 (by omega), h 4 (by omega), h 5 (by omega), h 6 (by omega), h 7 (by omega)]
  simp only [bitsN, Nat.testBit_succ]
theorem zip_xorN (l : List UInt8) : ∀ m, List.zipWith (fun a b => a ^^ b) (bitsOf l) (bitsOf (xorN l m)) = bitsN (8 * l.length) m := by
  induction l with
  | nil => intro m; rfl
  | cons c l ih =>
    intro m
    rw [xorN, bitsOf, bitsOf, List.zipWith_append (l₁ := byteBits c) (l₂ := byteBits (UInt8.ofNat (c.toNat ^^^ m % 256))) (by rfl), byte_zip, ih, List.length_cons, show 8 * (l.length + 1) = 8 + 8 * l.length by omega, bitsN_add]

theorem burst_bits (a n B i : Nat) (hB : B < 2 ^ 32) (hi : i < n) (hb : B.testBit i = true) :
    ∃ l m, l.length ≤ 32 ∧ true ∈ l ∧ bitsN (a + n) (2 ^ a * B) = List.replicate a false ++ (l ++ List.replicate m false) := by
  by_cases h : n ≤ 32
  · exact ⟨bitsN n B, 0, by rw [bitsN_len]; exact h, bitsN_mem n B i hi hb, by rw [bitsN_mul]; simp⟩
  · have h32 : i < 32 := by
      by_cases h2 : i < 32
      · exact h2
      · have := Nat.testBit_lt_two_pow (x := B) (i := i) (Nat.lt_of_lt_of_le hB (Nat.pow_le_pow_right (by omega) (by omega)))
        rw [this] at hb
        cases hb
    refine ⟨bitsN 32 B, n - 32, by rw [bitsN_len]; omega, bitsN_mem 32 B i h32 hb, ?_⟩
    rw [bitsN_mul]
    congr 1
    rw [show n = 32 + (n - 32) by omega, bitsN_add, Nat.div_eq_of_lt hB, bitsN_zero]
    congr 2
    omega

/-! ### Opened -/
def openB (l : List UInt8) : List UInt8 × Int :=
  if l.length < 4 then ([], 3) else if le4 (sum (l.take (l.length - 4))) = l.drop (l.length - 4) then (l.take (l.length - 4), 0) else ([], 5)
theorem le4_len (v : Nat) : (le4 v).length = 4 := rfl
theorem sealB_len (s : List UInt8) : (sealB s).length = s.length + 4 := by unfold sealB; rw [List.length_append, le4_len]
theorem sealB_rest (s : List UInt8) : run ones (bitsOf (sealB s)) = rest := (sealed_iff s (le4 (sum s)) rfl).1 rfl
theorem open_add (s f : List UInt8) (hf : f.length = 4) : openB (s ++ f) = if le4 (sum s) = f then (s, 0) else ([], 5) := by
  unfold openB
  rw [List.length_append, hf, if_neg (by omega), show s.length + 4 - 4 = s.length by omega, List.take_left, List.drop_left]
theorem open_seal (s : List UInt8) : openB (sealB s) = (s, 0) := by unfold sealB; rw [open_add _ _ rfl, if_pos rfl]
theorem open_told (u : List UInt8) (h4 : 4 ≤ u.length) (h : run ones (bitsOf u) ≠ rest) : openB u = ([], 5) := by
  have hd : (u.drop (u.length - 4)).length = 4 := by rw [List.length_drop]; omega
  unfold openB
  rw [if_neg (by omega), if_neg]
  intro e
  have := (sealed_iff (u.take (u.length - 4)) (u.drop (u.length - 4)) hd).1 e.symm
  rw [List.take_append_drop] at this
  exact h this
theorem open_ok (u : List UInt8) (h : (openB u).2 = 0) : sealB (openB u).1 = u := by
  unfold openB at *
  split at h
  · simp at h
  · split at h
    · rename_i h1 h2
      rw [if_neg h1, if_pos h2]
      unfold sealB
      simp only
      rw [h2, List.take_append_drop]
    · simp at h
/-- A burst of up to 32 bits, of sealed bytes. -/
theorem open_burst (s : List UInt8) (a B i : Nat) (hB : B < 2 ^ 32) (hb : B.testBit i = true) (hi : a + i < 8 * (sealB s).length) : openB (xorN (sealB s) (2 ^ a * B)) = ([], 5) := by
  refine open_told _ (by rw [xorN_len, sealB_len]; omega) ?_
  obtain ⟨l, m, h1, h2, h3⟩ := burst_bits a (8 * (sealB s).length - a) B i hB (by omega) hb
  refine burst_told (sealB s) _ a m l h1 h2 (sealB_rest s) (by rw [xorN_len]) ?_
  rw [zip_xorN, ← h3]
  congr 1
  omega
theorem xorN_ne (l : List UInt8) (a B i : Nat) (hb : B.testBit i = true) (hi : a + i < 8 * l.length) : xorN l (2 ^ a * B) ≠ l := by
  intro e
  have h := zip_xorN l (2 ^ a * B)
  rw [e, show 8 * l.length = a + (8 * l.length - a) by omega, bitsN_mul] at h
  have h2 := bitsN_mem (8 * l.length - a) B i (by omega) hb
  have h3 : true ∈ List.zipWith (fun a b => a ^^ b) (bitsOf l) (bitsOf l) := by rw [h]; exact List.mem_append_right _ h2
  have h4 : ∀ m : List Bool, ¬ true ∈ List.zipWith (fun a b => a ^^ b) m m := fun m => by
    induction m with
    | nil => simp
    | cons b m ih => intro hm; rw [List.zipWith_cons_cons, Bool.xor_self] at hm; simp at hm
  exact h4 _ h3

end Go.Proofs.Ytbakmfeikkpmjaa.K
