/- The plain arithmetic of layer 7: numbers as bytes, the lowest first, and what a reader does with bytes. No program in sight. -/
namespace Go.Proofs.YtndpidmbfdpiaaaDoor.Rp

/-- the byte of a number at a place, the lowest first -/
def byteAt (n i : Nat) : UInt8 := UInt8.ofNat (n / 256 ^ i % 256)

theorem byteAt_toNat (n i : Nat) : (byteAt n i).toNat = n / 256 ^ i % 256 := by
  unfold byteAt
  rw [UInt8.toNat_ofNat_of_lt' (by simp [UInt8.size]; omega)]

/-- a number's lowest bytes, so many -/
def bytesOf (n size : Nat) : List UInt8 := (List.range size).map (byteAt n)

theorem bytesOf_zero (n : Nat) : bytesOf n 0 = [] := rfl

theorem bytesOf_succ (n k : Nat) : bytesOf n (k + 1) = bytesOf n k ++ [byteAt n k] := by
  simp [bytesOf, List.range_succ]

theorem bytesOf_length (n k : Nat) : (bytesOf n k).length = k := by simp [bytesOf]

theorem bytesOf_one (n : Nat) : bytesOf n 1 = [byteAt n 0] := rfl

/-- the number of some bytes, the lowest first -/
def numOf : List UInt8 → Nat
  | [] => 0
  | b :: r => b.toNat + 256 * numOf r

theorem numOf_append (p q : List UInt8) : numOf (p ++ q) = numOf p + 256 ^ p.length * numOf q := by
  induction p with
  | nil => simp [numOf]
  | cons b r ih =>
    simp only [List.cons_append, numOf, ih, List.length_cons, Nat.pow_succ, Nat.mul_add]
    rw [Nat.mul_comm (256 ^ r.length) 256, Nat.mul_assoc]
    omega

theorem numOf_snoc (p : List UInt8) (b : UInt8) : numOf (p ++ [b]) = numOf p + 256 ^ p.length * b.toNat := by
  rw [numOf_append]; simp [numOf]

theorem numOf_lt (p : List UInt8) : numOf p < 256 ^ p.length := by
  induction p with
  | nil => simp [numOf]
  | cons b r ih =>
    have := b.toNat_lt
    simp only [numOf, List.length_cons, Nat.pow_succ]
    omega

theorem numOf_bytesOf (n k : Nat) : numOf (bytesOf n k) = n % 256 ^ k := by
  induction k with
  | zero => simp [bytesOf, numOf, Nat.mod_one]
  | succ k ih =>
    rw [bytesOf_succ, numOf_snoc, ih, bytesOf_length, byteAt_toNat, Nat.pow_succ, Nat.mod_mul]

/-- a number as the machine's of eight bytes -/
def u64 (x : Int) : Nat := (x % 18446744073709551616).toNat

theorem u64_lt (x : Int) : u64 x < 18446744073709551616 := by unfold u64; omega

theorem u64_cast (x : Int) : ((u64 x : Nat) : Int) = x % 18446744073709551616 := by unfold u64; omega

theorem u64_nat (n : Nat) (h : n < 18446744073709551616) : u64 (n : Int) = n := by unfold u64; omega

/-- some numbers' lowest bytes, one number behind the other -/
def numsOf (size : Nat) (zs : List Int) : List UInt8 := zs.flatMap fun z => bytesOf (u64 z) size

theorem numsOf_nil (size : Nat) : numsOf size [] = [] := rfl

theorem numsOf_snoc (size : Nat) (zs : List Int) (z : Int) : numsOf size (zs ++ [z]) = numsOf size zs ++ bytesOf (u64 z) size := by simp [numsOf]

theorem numsOf_length (size : Nat) (zs : List Int) : (numsOf size zs).length = zs.length * size := by
  induction zs with
  | nil => simp [numsOf]
  | cons z r ih =>
    have e : numsOf size (z :: r) = bytesOf (u64 z) size ++ numsOf size r := by simp [numsOf]
    rw [e, List.length_append, bytesOf_length, ih, List.length_cons, Nat.succ_mul]; omega

theorem numsOf_one (size : Nat) (z : Int) : numsOf size [z] = bytesOf (u64 z) size := by simp [numsOf]

theorem take_snoc (zs : List Int) (k : Nat) (h : k < zs.length) : zs.take (k + 1) = zs.take k ++ [zs.getD k 0] := by
  rw [List.take_succ_eq_append_getElem h]; simp [List.getD, h]

/-! ### a reader: the bytes that are left, the error -/
abbrev St := List UInt8 × Int

/-- the next bytes -/
def takeS (s : St) (n : Nat) : List UInt8 × St :=
  if s.2 ≠ 0 then ([], s) else if s.1.length < n then ([], (s.1, 9)) else (s.1.take n, (s.1.drop n, 0))

theorem takeS_err {l : List UInt8} {e : Int} (n : Nat) (h : e ≠ 0) : takeS (l, e) n = ([], (l, e)) := by simp [takeS, h]

theorem takeS_short {l : List UInt8} {n : Nat} (h : l.length < n) : takeS (l, 0) n = ([], (l, 9)) := by simp [takeS, h]

theorem takeS_ok {l : List UInt8} {n : Nat} (h : n ≤ l.length) : takeS (l, 0) n = (l.take n, (l.drop n, 0)) := by
  simp [takeS, show ¬ l.length < n by omega]

def failS (s : St) (e : Int) : St := if s.2 = 0 then (s.1, e) else s

def leftS (s : St) : Nat := if s.2 ≠ 0 then 0 else s.1.length

def numS (s : St) (n : Nat) : Nat × St := (numOf (takeS s n).1, (takeS s n).2)

theorem takeS_len (s : St) (n : Nat) : (takeS s n).1.length ≤ n := by
  unfold takeS; split
  · simp
  · split <;> simp; omega

theorem numS_lt (s : St) (n : Nat) : (numS s n).1 < 256 ^ n :=
  Nat.lt_of_lt_of_le (numOf_lt _) (Nat.pow_le_pow_right (by omega) (takeS_len s n))

/-- a number of five bytes, its highest bit its sign -/
def sign40 (n : Nat) : Int := if 549755813888 ≤ n then (n : Int) - 1099511627776 else n

def fixS (s : St) : Int × St :=
  if sign40 (numS s 5).1 < -2147483648 ∨ 2147483648 < sign40 (numS s 5).1 then (0, failS (numS s 5).2 33) else (sign40 (numS s 5).1, (numS s 5).2)

def small16 (n : Nat) : Int := if 32768 ≤ n then (n : Int) - 65536 else n

/-- the reader behind so many numbers of layer 1, and the next of them -/
def fixK (s : St) : Nat → St
  | 0 => s
  | k + 1 => (fixS (fixK s k)).2

def fixV (s : St) (k : Nat) : Int := (fixS (fixK s k)).1

def threeS (s : St) : (Nat → Int) × St := (if (fixK s 3).2 ≠ 0 then fun _ => 0 else fixV s, fixK s 3)

/-- the bytes of a sum: those that are there, else nothing -/
def padded (p : List UInt8) (j : Nat) : UInt8 := p.getD j 0

def sumS (s : St) : (List UInt8) × St := (if (takeS s 32).1 = [] then List.replicate 32 0 else (takeS s 32).1, (takeS s 32).2)

def blobS (s : St) (most : Int) : List UInt8 × St :=
  if max most 0 < ((numS s 4).1 : Int) then ([], failS (numS s 4).2 8) else takeS (numS s 4).2 (numS s 4).1

def endS (s : St) : St := if 0 < leftS s then failS s 10 else s
end Go.Proofs.YtndpidmbfdpiaaaDoor.Rp
