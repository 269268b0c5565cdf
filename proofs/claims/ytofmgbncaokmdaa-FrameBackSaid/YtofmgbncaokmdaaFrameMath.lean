/- Frames, as lists of numbers: what is packed, and what comes of bytes; plain: no function of the program; nothing is asked. -/
import Derived.Test.YtofmgbncaokmdaaCrcMath
namespace Go.Proofs.Ytofmgbncaokmdaa.FrM
open Go.Proofs.Ytofmgbncaokmdaa.CrcM

/-- The number of four bytes, and the four bytes of a number. -/
def rd (xs : List Int) : Int := xs.getD 0 0 + 256 * xs.getD 1 0 + 65536 * xs.getD 2 0 + 16777216 * xs.getD 3 0
def wd (n : Int) : List Int := [n % 256, n / 256 % 256, n / 65536 % 256, n / 16777216]

theorem rd_wd (n : Int) : rd (wd n) = n := by
  simp only [rd, wd, List.getD_cons_zero, List.getD_cons_succ]
  omega

theorem getD_byte {xs : List Int} (h : Bytes xs) (i : Nat) : 0 ≤ xs.getD i 0 ∧ xs.getD i 0 < 256 := by
  rw [List.getD_eq_getElem?_getD]
  by_cases hi : i < xs.length
  · rw [List.getElem?_eq_getElem hi]
    exact h _ (List.getElem_mem hi)
  · rw [List.getElem?_eq_none (by omega)]
    decide

theorem rd_bd {xs : List Int} (h : Bytes xs) : 0 ≤ rd xs ∧ rd xs ≤ 4294967295 := by
  have h0 := getD_byte h 0
  have h1 := getD_byte h 1
  have h2 := getD_byte h 2
  have h3 := getD_byte h 3
  unfold rd
  omega

theorem wd_bytes {n : Int} (h0 : 0 ≤ n) (h1 : n ≤ 4294967295) : Bytes (wd n) := by
  intro x hx
  simp only [wd, List.mem_cons, List.not_mem_nil, or_false] at hx
  omega

theorem bytes_app {xs ys : List Int} (hx : Bytes xs) (hy : Bytes ys) : Bytes (xs ++ ys) := by
  intro z hz
  rcases List.mem_append.1 hz with h | h
  · exact hx z h
  · exact hy z h
theorem bytes_take {xs : List Int} (h : Bytes xs) (k : Nat) : Bytes (xs.take k) := fun x hx => h x (List.mem_of_mem_take hx)
theorem bytes_drop {xs : List Int} (h : Bytes xs) (k : Nat) : Bytes (xs.drop k) := fun x hx => h x (List.mem_of_mem_drop hx)

/-- What is packed. -/
def pk (xs : List Int) : List Int := wd xs.length ++ wd (next 0 xs : Nat) ++ xs
theorem pk_len (xs : List Int) : (pk xs).length = xs.length + 8 := by simp [pk, wd]
theorem pk_bytes {xs : List Int} (h : Bytes xs) (hl : xs.length ≤ 4294967295) : Bytes (pk xs) :=
  bytes_app (bytes_app (wd_bytes (by omega) (by omega)) (wd_bytes (by omega) (by have := next_lt 0 xs; omega))) h

/-- What the first eight bytes tell, and the bytes behind them. -/
def sz (xs : List Int) : Nat := (rd (xs.take 4)).toNat
def sm (xs : List Int) : Int := rd ((xs.drop 4).take 4)
def fr (xs : List Int) : List Int := (xs.drop 8).take (sz xs)

/-- What comes of bytes: is it dead, what is left, and the frames. -/
structure R where
  dead : Bool
  left : List Int
  fs : List (List Int)

def R.add (f : List Int) (r : R) : R := ⟨r.dead, r.left, f :: r.fs⟩
def R.addAll (l : List (List Int)) (r : R) : R := ⟨r.dead, r.left, l ++ r.fs⟩
theorem addAll_nil (r : R) : R.addAll [] r = r := rfl
theorem addAll_snoc (l : List (List Int)) (f : List Int) (r : R) : R.addAll (l ++ [f]) r = R.addAll l (R.add f r) := by simp [R.addAll, R.add]
theorem addAll_addAll (l m : List (List Int)) (r : R) : R.addAll l (R.addAll m r) = R.addAll (l ++ m) r := by simp [R.addAll]
theorem add_addAll (f : List Int) (m : List (List Int)) (r : R) : R.add f (R.addAll m r) = R.addAll (f :: m) r := by simp [R.addAll, R.add]

def feed (xs : List Int) : R :=
  if _h : xs.length < 8 then ⟨false, xs, []⟩
  else if 512 < sz xs then ⟨true, [], []⟩
  else if xs.length < 8 + sz xs then ⟨false, xs, []⟩
  else if ((next 0 (fr xs) : Nat) : Int) ≠ sm xs then ⟨true, [], []⟩
  else R.add (fr xs) (feed (xs.drop (8 + sz xs)))
termination_by xs.length
decreasing_by simp only [List.length_drop]; omega

theorem feed_short {xs : List Int} (h : xs.length < 8) : feed xs = ⟨false, xs, []⟩ := by rw [feed, dif_pos h]
theorem feed_great {xs : List Int} (h : 8 ≤ xs.length) (g : 512 < sz xs) : feed xs = ⟨true, [], []⟩ := by rw [feed, dif_neg (by omega), if_pos g]
theorem feed_wait {xs : List Int} (h : 8 ≤ xs.length) (g : sz xs ≤ 512) (l : xs.length < 8 + sz xs) : feed xs = ⟨false, xs, []⟩ := by rw [feed, dif_neg (by omega), if_neg (by omega), if_pos l]
theorem feed_bad {xs : List Int} (h : 8 ≤ xs.length) (g : sz xs ≤ 512) (l : 8 + sz xs ≤ xs.length) (s : ((next 0 (fr xs) : Nat) : Int) ≠ sm xs) : feed xs = ⟨true, [], []⟩ := by
  rw [feed, dif_neg (by omega), if_neg (by omega), if_neg (by omega), if_pos s]
theorem feed_good {xs : List Int} (h : 8 ≤ xs.length) (g : sz xs ≤ 512) (l : 8 + sz xs ≤ xs.length) (s : ((next 0 (fr xs) : Nat) : Int) = sm xs) : feed xs = R.add (fr xs) (feed (xs.drop (8 + sz xs))) := by
  rw [feed, dif_neg (by omega), if_neg (by omega), if_neg (by omega), if_neg (by simpa using s)]

/-- The five ways. -/
theorem feed_ind {p : List Int → Prop} (h1 : ∀ xs, xs.length < 8 → p xs) (h2 : ∀ xs, 8 ≤ xs.length → 512 < sz xs → p xs) (h3 : ∀ xs, 8 ≤ xs.length → sz xs ≤ 512 → xs.length < 8 + sz xs → p xs)
    (h4 : ∀ xs, 8 ≤ xs.length → sz xs ≤ 512 → 8 + sz xs ≤ xs.length → ((next 0 (fr xs) : Nat) : Int) ≠ sm xs → p xs)
    (h5 : ∀ xs, 8 ≤ xs.length → sz xs ≤ 512 → 8 + sz xs ≤ xs.length → ((next 0 (fr xs) : Nat) : Int) = sm xs → p (xs.drop (8 + sz xs)) → p xs) : ∀ xs, p xs := by
  have key : ∀ n, ∀ xs : List Int, xs.length = n → p xs := by
    intro n
    induction n using Nat.strongRecOn with
    | _ n ih =>
      intro xs hn
      by_cases a : xs.length < 8
      · exact h1 xs a
      by_cases b : 512 < sz xs
      · exact h2 xs (by omega) b
      by_cases c : xs.length < 8 + sz xs
      · exact h3 xs (by omega) (by omega) c
      by_cases d : ((next 0 (fr xs) : Nat) : Int) = sm xs
      · exact h5 xs (by omega) (by omega) (by omega) d (ih _ (by rw [List.length_drop]; omega) _ rfl)
      · exact h4 xs (by omega) (by omega) (by omega) d
  exact fun xs => key _ xs rfl

/-- A framer that is fed. -/
def feed' (d : Bool) (fb b : List Int) : R := if d = true then ⟨true, fb, []⟩ else feed (fb ++ b)
theorem feed'_dead (fb b : List Int) : feed' true fb b = ⟨true, fb, []⟩ := rfl
theorem feed'_live (fb b : List Int) : feed' false fb b = feed (fb ++ b) := rfl

theorem head_app {u : List Int} (v : List Int) (h : 8 ≤ u.length) : sz (u ++ v) = sz u ∧ sm (u ++ v) = sm u := by
  unfold sz sm
  rw [List.take_append_of_le_length (by omega), List.drop_append_of_le_length (by omega), List.take_append_of_le_length (by rw [List.length_drop]; omega)]
  exact ⟨rfl, rfl⟩

theorem fr_app {u : List Int} (v : List Int) (h : 8 ≤ u.length) (l : 8 + sz u ≤ u.length) : fr (u ++ v) = fr u := by
  unfold fr
  rw [(head_app v h).1, List.drop_append_of_le_length (by omega), List.take_append_of_le_length (by rw [List.length_drop]; omega)]

theorem feed_app (v : List Int) : ∀ u, feed (u ++ v) = R.addAll (feed u).fs (feed' (feed u).dead (feed u).left v) := by
  refine feed_ind ?_ ?_ ?_ ?_ ?_
  · intro u h
    rw [feed_short h]
    rfl
  · intro u h g
    rw [feed_great h g, feed_great (by rw [List.length_append]; omega) (by rw [(head_app v h).1]; exact g)]
    rfl
  · intro u h g l
    rw [feed_wait h g l]
    rfl
  · intro u h g l s
    obtain ⟨e1, e2⟩ := head_app v h
    rw [feed_bad h g l s, feed_bad (by rw [List.length_append]; omega) (by rw [e1]; exact g) (by rw [e1, List.length_append]; omega) (by rw [fr_app v h l, e2]; exact s)]
    rfl
  · intro u h g l s ih
    obtain ⟨e1, e2⟩ := head_app v h
    rw [feed_good h g l s, feed_good (by rw [List.length_append]; omega) (by rw [e1]; exact g) (by rw [e1, List.length_append]; omega) (by rw [fr_app v h l, e2]; exact s)]
    rw [e1, List.drop_append_of_le_length l, ih, fr_app v h l, add_addAll]
    rfl

/-- A framer fed twice is one fed once. -/
theorem feed'_app (d : Bool) (fb u v : List Int) : feed' d fb (u ++ v) = R.addAll (feed' d fb u).fs (feed' (feed' d fb u).dead (feed' d fb u).left v) := by
  cases d with
  | true => rfl
  | false =>
    rw [feed'_live, feed'_live, ← List.append_assoc]
    exact feed_app v _

/-- Of what is left nothing comes. -/
theorem feed_rest : ∀ u, (feed u).dead = false → feed (feed u).left = ⟨false, (feed u).left, []⟩ := by
  refine feed_ind ?_ ?_ ?_ ?_ ?_
  · intro u h _
    rw [feed_short h]
    exact feed_short h
  · intro u h g hd
    rw [feed_great h g] at hd
    cases hd
  · intro u h g l _
    rw [feed_wait h g l]
    exact feed_wait h g l
  · intro u h g l s hd
    rw [feed_bad h g l s] at hd
    cases hd
  · intro u h g l s ih hd
    rw [feed_good h g l s] at hd ⊢
    exact ih hd

theorem feed'_rest (d : Bool) (fb u : List Int) : feed' (feed' d fb u).dead (feed' d fb u).left [] = ⟨(feed' d fb u).dead, (feed' d fb u).left, []⟩ := by
  cases d with
  | true => rfl
  | false =>
    rw [feed'_live]
    cases h : (feed (fb ++ u)).dead with
    | true => rfl
    | false =>
      rw [feed'_live, List.append_nil]
      exact feed_rest _ h

/-- What is told is not too long. -/
theorem feed_fs : ∀ u, ∀ f ∈ (feed u).fs, f.length ≤ 512 := by
  refine feed_ind ?_ ?_ ?_ ?_ ?_
  · intro u h f hf
    rw [feed_short h] at hf
    cases hf
  · intro u h g f hf
    rw [feed_great h g] at hf
    cases hf
  · intro u h g l f hf
    rw [feed_wait h g l] at hf
    cases hf
  · intro u h g l s f hf
    rw [feed_bad h g l s] at hf
    cases hf
  · intro u h g l s ih f hf
    rw [feed_good h g l s] at hf
    rcases List.mem_cons.1 hf with rfl | h'
    · unfold fr
      rw [List.length_take]
      omega
    · exact ih f h'

/-- What is left is less than a frame, and no more than came. -/
theorem feed_left : ∀ u, (feed u).left.length < 520 ∧ (feed u).left.length ≤ u.length := by
  refine feed_ind ?_ ?_ ?_ ?_ ?_
  · intro u h
    rw [feed_short h]
    exact ⟨by simp only; omega, Nat.le_refl _⟩
  · intro u h g
    rw [feed_great h g]
    exact ⟨by simp, by simp⟩
  · intro u h g l
    rw [feed_wait h g l]
    exact ⟨by simp only; omega, Nat.le_refl _⟩
  · intro u h g l s
    rw [feed_bad h g l s]
    exact ⟨by simp, by simp⟩
  · intro u h g l s ih
    rw [feed_good h g l s]
    refine ⟨ih.1, Nat.le_trans ih.2 ?_⟩
    rw [List.length_drop]
    omega

theorem feed_bytes : ∀ u, Bytes u → Bytes (feed u).left ∧ ∀ f ∈ (feed u).fs, Bytes f := by
  refine feed_ind ?_ ?_ ?_ ?_ ?_
  · intro u h hb
    rw [feed_short h]
    exact ⟨hb, fun f hf => by cases hf⟩
  · intro u h g _
    rw [feed_great h g]
    exact ⟨(fun x hx => by cases hx), (fun f hf => by cases hf)⟩
  · intro u h g l hb
    rw [feed_wait h g l]
    exact ⟨hb, fun f hf => by cases hf⟩
  · intro u h g l s _
    rw [feed_bad h g l s]
    exact ⟨(fun x hx => by cases hx), (fun f hf => by cases hf)⟩
  · intro u h g l s ih hb
    rw [feed_good h g l s]
    have i := ih (bytes_drop hb _)
    refine ⟨i.1, fun f hf => ?_⟩
    rcases List.mem_cons.1 hf with rfl | h'
    · exact bytes_take (bytes_drop hb _) _
    · exact i.2 f h'

/-- How many frames there may be. -/
theorem feed_many : ∀ u, 8 * (feed u).fs.length ≤ u.length := by
  refine feed_ind ?_ ?_ ?_ ?_ ?_
  · intro u h
    rw [feed_short h]
    simp
  · intro u h g
    rw [feed_great h g]
    simp
  · intro u h g l
    rw [feed_wait h g l]
    simp
  · intro u h g l s
    rw [feed_bad h g l s]
    simp
  · intro u h g l s ih
    rw [feed_good h g l s]
    rw [List.length_drop] at ih
    simp only [R.add, List.length_cons]
    omega

theorem feed'_fs (d : Bool) (fb b : List Int) : ∀ f ∈ (feed' d fb b).fs, f.length ≤ 512 := by
  cases d with
  | true => intro f hf; cases hf
  | false => exact feed_fs _
theorem feed'_left (d : Bool) (fb b : List Int) (h : (feed' d fb b).dead = false) : (feed' d fb b).left.length < 520 := by
  cases d with
  | true => cases h
  | false => exact (feed_left _).1
theorem feed'_len (d : Bool) (fb b : List Int) : (feed' d fb b).left.length ≤ fb.length + b.length := by
  cases d with
  | true => exact Nat.le_add_right _ _
  | false =>
    have := (feed_left (fb ++ b)).2
    rw [List.length_append] at this
    exact this
theorem feed'_many (d : Bool) (fb b : List Int) : (feed' d fb b).fs.length ≤ fb.length + b.length := by
  cases d with
  | true => exact Nat.zero_le _
  | false =>
    have := feed_many (fb ++ b)
    rw [List.length_append] at this
    rw [feed'_live]
    omega

/-- What is packed is one frame. -/
theorem pk_head (x r : List Int) : sz (pk x ++ r) = x.length ∧ sm (pk x ++ r) = ((next 0 x : Nat) : Int) ∧ fr (pk x ++ r) = x := by
  have e1 : (pk x ++ r).take 4 = wd x.length := by simp [pk, wd]
  have e2 : ((pk x ++ r).drop 4).take 4 = wd (next 0 x : Nat) := by simp [pk, wd]
  have e3 : (pk x ++ r).drop 8 = x ++ r := by simp [pk, wd]
  have s : sz (pk x ++ r) = x.length := by
    unfold sz
    rw [e1, rd_wd]
    simp
  refine ⟨s, ?_, ?_⟩
  · unfold sm
    rw [e2, rd_wd]
  · unfold fr
    rw [s, e3]
    simp

theorem feed_pk (x r : List Int) (h : x.length ≤ 512) : feed (pk x ++ r) = R.add x (feed r) := by
  obtain ⟨h1, h2, h3⟩ := pk_head x r
  have hl : (pk x ++ r).length = x.length + 8 + r.length := by rw [List.length_append, pk_len]
  have hd : (pk x ++ r).drop (8 + x.length) = r := by
    rw [List.drop_append, pk_len, List.drop_of_length_le (by rw [pk_len]; omega), List.nil_append, show 8 + x.length - (x.length + 8) = 0 from by omega, List.drop_zero]
  rw [feed_good (by omega) (by omega) (by omega) (by rw [h3, h2]), h3, h1, hd]

/-- All of them, one behind the other. -/
def pks : List (List Int) → List Int
  | [] => []
  | x :: l => pk x ++ pks l
theorem pks_app (l m : List (List Int)) : pks (l ++ m) = pks l ++ pks m := by
  induction l with
  | nil => rfl
  | cons x l ih => simp [pks, ih]
theorem feed_pks (rest : List Int) (hr : rest.length < 8) : ∀ l : List (List Int), (∀ x ∈ l, x.length ≤ 512) → feed (pks l ++ rest) = ⟨false, rest, l⟩
  | [], _ => by rw [pks, List.nil_append, feed_short hr]
  | x :: l, h => by
    rw [pks, List.append_assoc, feed_pk x _ (h x (by simp)), feed_pks rest hr l (fun y hy => h y (by simp [hy]))]
    rfl

/-- One byte changed. -/
theorem feed_bit (b : List Int) (at_ : Nat) (c : Int) (hb : Bytes b) (hl : b.length ≤ 512) (h4 : 4 ≤ at_) (hat : at_ < b.length + 8) (hc : 0 ≤ c ∧ c < 256) (hne : (pk b).getD at_ 0 ≠ c) :
    feed ((pk b).set at_ c) = ⟨true, [], []⟩ := by
  obtain ⟨h1, h2, h3⟩ := pk_head b []
  rw [List.append_nil] at h1 h2 h3
  have hlen : ((pk b).set at_ c).length = b.length + 8 := by rw [List.length_set, pk_len]
  have s1 : sz ((pk b).set at_ c) = b.length := by
    rw [← h1]
    unfold sz
    rw [List.take_set_of_le h4]
  by_cases h8 : at_ < 8
  · have f1 : fr ((pk b).set at_ c) = b := by
      have e : fr ((pk b).set at_ c) = fr (pk b) := by
        unfold fr
        rw [s1, h1, List.drop_set_of_lt h8]
      rw [e, h3]
    refine feed_bad (by omega) (by omega) (by omega) ?_
    rw [f1]
    have hnb := next_lt 0 b
    obtain ⟨n, hn⟩ : ∃ n : Int, n = ((next 0 b : Nat) : Int) := ⟨_, rfl⟩
    have hw : pk b = wd b.length ++ wd n ++ b := by rw [hn, pk]
    rw [← hn]
    have hn0 : 0 ≤ n ∧ n < 4294967296 := by omega
    clear hn hnb h1 h2 h3 s1 f1 hlen
    rw [hw] at hne ⊢
    obtain ⟨l, hl⟩ : ∃ l : Int, l = (b.length : Int) := ⟨_, rfl⟩
    rw [← hl] at hne ⊢
    have hk : at_ = 4 ∨ at_ = 5 ∨ at_ = 6 ∨ at_ = 7 := by omega
    unfold sm
    rcases hk with rfl | rfl | rfl | rfl <;> simp [wd, rd, -Int.natCast_emod, -Int.natCast_ediv] at hne ⊢ <;> omega
  · obtain ⟨k, rfl⟩ : ∃ k, at_ = 8 + k := ⟨at_ - 8, by omega⟩
    have hk : k < b.length := by omega
    have e8 : (pk b).drop 8 = b := by simp [pk, wd]
    have f1 : fr ((pk b).set (8 + k) c) = b.set k c := by
      unfold fr
      rw [s1, List.drop_set, if_neg (by omega), e8, show 8 + k - 8 = k from by omega, List.take_of_length_le (by rw [List.length_set]; omega)]
    have m1 : sm ((pk b).set (8 + k) c) = ((next 0 b : Nat) : Int) := by
      rw [← h2]
      unfold sm
      rw [List.drop_set, if_neg (by omega), List.take_set_of_le (by omega)]
    refine feed_bad (by omega) (by omega) (by omega) ?_
    rw [f1, m1]
    intro e
    have e' : next 0 (b.set k c) = next 0 b := by omega
    have hx : (pk b).getD (8 + k) 0 = b.getD k 0 := by
      rw [List.getD_eq_getElem?_getD, List.getD_eq_getElem?_getD, ← List.getElem?_drop, e8]
    rw [hx] at hne
    have hbk := getD_byte hb k
    have p1 : b = b.take k ++ b.getD k 0 :: b.drop (k + 1) := by
      have : b.drop k = b.getD k 0 :: b.drop (k + 1) := by
        rw [List.drop_eq_getElem_cons hk]
        simp [List.getD_eq_getElem?_getD, hk]
      rw [← this, List.take_append_drop]
    have p2 : b.set k c = b.take k ++ c :: b.drop (k + 1) := by
      rw [List.set_eq_take_append_cons_drop, if_pos hk]
    rw [p2] at e'
    rw [show next 0 b = next 0 (b.take k ++ b.getD k 0 :: b.drop (k + 1)) from by rw [← p1]] at e'
    exact hne (next_one (by decide) (bytes_take hb k) (bytes_drop hb (k + 1)) hbk hc e').symm

/-- A length that is too great. -/
theorem feed_long (n : Int) (sum : List Int) (hn : 512 < n) (hs : sum.length = 4) : feed (wd n ++ sum) = ⟨true, [], []⟩ := by
  refine feed_great (by simp [wd, hs]) ?_
  have e : (wd n ++ sum).take 4 = wd n := by simp [wd]
  unfold sz
  rw [e, rd_wd]
  omega

/-- The examples. -/
theorem feed_zero : feed [0, 0, 0, 0, 0, 0, 0, 0] = ⟨false, [], [[]]⟩ := by
  have h := feed_pk [] [] (by decide)
  have e : pk [] ++ [] = [0, 0, 0, 0, 0, 0, 0, 0] := by decide +kernel
  rw [e, feed_short (xs := []) (by decide)] at h
  exact h
theorem pk_nil : pk [] = [0, 0, 0, 0, 0, 0, 0, 0] := by decide +kernel
theorem feed_seven : feed [1, 0, 0, 0, 0, 0, 0, 0, 7] = ⟨true, [], []⟩ :=
  feed_bad (by decide) (by decide) (by decide) (by decide +kernel)
end Go.Proofs.Ytofmgbncaokmdaa.FrM
