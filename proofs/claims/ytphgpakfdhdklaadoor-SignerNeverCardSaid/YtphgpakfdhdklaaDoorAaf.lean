/-
  Trees of one-time keys: ids, nodes, levels, signatures and what a signature leads to. Nothing is claimed of the program here.
  Saved states of signers, without a program. Nothing is claimed of the program here.
  Rows of strings, and rows of such rows, that a call has made itself. Nothing is claimed of the program here.
  The contract of the reference's Public.
-/
import Derived.Test.YtphgpakfdhdklaaDoorAaa
import Derived.Test.YtphgpakfdhdklaaDoorAae
namespace Go.Proofs.YtphgpakfdhdklaaDoor
open Go.RowKit

/-- The id of a seed. -/
def idT (seed : ByteArray) : ByteArray := shortStr (73 :: seed.data.toList)
/-- Node i of level l of the tree of a seed. -/
def nodeS (seed : ByteArray) (l i : Nat) : ByteArray := nodeQ hQ (idT seed).data.toList (fun j => pubS (idT seed) seed j) l i
/-- Level l of the tree of a seed with height h. -/
def levelS (seed : ByteArray) (h l : Nat) : List ByteArray := (List.range (2 ^ (h - l))).map (nodeS seed l)
def levelsS (seed : ByteArray) (h n : Nat) : List (List ByteArray) := (List.range n).map (levelS seed h)
def rootS (seed : ByteArray) (h : Nat) : ByteArray := nodeS seed h 0
theorem idT_size (seed : ByteArray) : (idT seed).size = 16 := shortStr_size _
theorem joinQ_size (id : List UInt8) (l i : Nat) (x y : ByteArray) : (joinQ hQ id l i x y).size = 16 := shortStr_size _
theorem nodeS_size (seed : ByteArray) : ∀ l i, (nodeS seed l i).size = 16
  | 0, _ => shortStr_size _
  | _ + 1, _ => shortStr_size _
theorem rootS_size (seed : ByteArray) (h : Nat) : (rootS seed h).size = 16 := nodeS_size seed h 0
theorem node_up (seed : ByteArray) (l i : Nat) : nodeS seed (l + 1) i = joinQ hQ (idT seed).data.toList l i (nodeS seed l (2 * i)) (nodeS seed l (2 * i + 1)) := rfl
theorem levelS_len (seed : ByteArray) (h l : Nat) : (levelS seed h l).length = 2 ^ (h - l) := by unfold levelS; rw [List.length_map, List.length_range]
theorem levelS_at (seed : ByteArray) (h l i : Nat) (hi : i < 2 ^ (h - l)) : (levelS seed h l).getD i ByteArray.empty = nodeS seed l i := by
  unfold levelS
  rw [List.getD_eq_getElem?_getD, List.getElem?_map, List.getElem?_range hi]
  rfl
theorem levelsS_len (seed : ByteArray) (h n : Nat) : (levelsS seed h n).length = n := by unfold levelsS; rw [List.length_map, List.length_range]
theorem levelsS_at (seed : ByteArray) (h n l : Nat) (hl : l < n) : (levelsS seed h n).getD l [] = levelS seed h l := by
  unfold levelsS
  rw [List.getD_eq_getElem?_getD, List.getElem?_map, List.getElem?_range hl]
  rfl
theorem levelsS_succ (seed : ByteArray) (h n : Nat) : levelsS seed h (n + 1) = levelsS seed h n ++ [levelS seed h n] := by
  unfold levelsS
  rw [List.range_succ, List.map_append]
  rfl
/-- What is hashed for a node, and for a message. -/
theorem cat_join (id x y : ByteArray) (l i : Nat) : cat_z [⟨#[78]⟩, id, strOf (b1 l), strOf (b4 i), x, y] = 78 :: (id.data.toList ++ b1 l ++ b4 i ++ x.data.toList ++ y.data.toList) := by
  simp [cat_z, strOf_list]
theorem join_eq (id x y : ByteArray) (l i : Nat) : shortStr (cat_z [⟨#[78]⟩, id, strOf (b1 l), strOf (b4 i), x, y]) = joinQ hQ id.data.toList l i x y := by rw [cat_join]; rfl
theorem join_room {id x y : ByteArray} (hi : id.size ≤ 1000) (hx : x.size ≤ 1000) (hy : y.size ≤ 1000) (l i : Nat) : (cat_z [⟨#[78]⟩, id, strOf (b1 l), strOf (b4 i), x, y]).length ≤ 1099511627776 := by
  rw [cat_join]
  simp only [List.length_cons, List.length_append, b4_len, b1_len, size_listq]
  omega
/-- The digest of a message for a leaf. -/
def dgM (id root : ByteArray) (leaf : Nat) (m : ByteArray) : ByteArray := shortStr (cat_z [⟨#[77]⟩, id, root, strOf (b4 leaf), m])
theorem dgM_size (id root : ByteArray) (leaf : Nat) (m : ByteArray) : (dgM id root leaf m).size = 16 := shortStr_size _
theorem dgM_room {id root m : ByteArray} (hi : id.size ≤ 1000) (hr : root.size ≤ 1000) (hm : m.size ≤ 1000000000) (leaf : Nat) : (cat_z [⟨#[77]⟩, id, root, strOf (b4 leaf), m]).length ≤ 1099511627776 := by
  have e : cat_z [⟨#[77]⟩, id, root, strOf (b4 leaf), m] = 77 :: (id.data.toList ++ root.data.toList ++ b4 leaf ++ m.data.toList) := by simp [cat_z, strOf_list]
  rw [e]
  simp only [List.length_cons, List.length_append, b4_len, size_listq]
  omega
/-- The siblings on the way up from a leaf, one behind the other. -/
def sibsS (seed : ByteArray) (leaf n : Nat) : ByteArray := rowB (fun l => nodeS seed l (sibQ (leaf / 2 ^ l))) n
theorem sibsS_size (seed : ByteArray) (leaf n : Nat) : (sibsS seed leaf n).size = n * 16 := rowB_size (fun l => nodeS_size seed l _) n
/-- The signature of a message with a leaf of the tree of a seed. -/
def otsS (seed : ByteArray) (h leaf : Nat) (m : ByteArray) : ByteArray := sigS (idT seed) seed leaf (digs (dgM (idT seed) (rootS seed h) leaf m).data.toList)
def sigT (seed : ByteArray) (h leaf : Nat) (m : ByteArray) : ByteArray := (strOf (b4 leaf) ++ otsS seed h leaf m) ++ sibsS seed leaf h
theorem otsS_size (seed : ByteArray) (h leaf : Nat) (m : ByteArray) : (otsS seed h leaf m).size = 560 := sigS_size _ _ _ _
theorem sigT_size (seed : ByteArray) (h leaf : Nat) (m : ByteArray) : (sigT seed h leaf m).size = 564 + h * 16 := by
  unfold sigT
  rw [ByteArray.size_append, ByteArray.size_append, otsS_size, sibsS_size]
  show 4 + 560 + h * 16 = _
  omega
/-! ### Signatures -/
/-- The number that the first four bytes of a signature are. -/
def leafS (s : ByteArray) : Nat := u8at s 0 * 16777216 + u8at s 1 * 65536 + u8at s 2 * 256 + u8at s 3
/-- The first error of a key. -/
def keyE (h : Int) (id root : ByteArray) : Nat := if 0 ≤ h ∧ h ≤ 8 ∧ id.size = 16 ∧ root.size = 16 then 0 else 18
/-- The sibling of level l in a signature. -/
def sibP (s : ByteArray) (l : Nat) : ByteArray := s.extract (564 + l * 16) (564 + (l + 1) * 16)
/-- What a signature leads to at level n. -/
def upS (id root m s : ByteArray) (n : Nat) : ByteArray := climbQ hQ id.data.toList (leafS s) (sibP s) n (recS id (leafS s) (digs (dgM id root (leafS s) m).data.toList) (s.extract 4 564))
def verE (h : Int) (id root m s : ByteArray) : Nat :=
  if keyE h id root = 0 then (if s.size = 564 + h.toNat * 16 ∧ leafS s < 2 ^ h.toNat ∧ upS id root m s h.toNat = root then 0 else 17) else 18
theorem climb_congr (H : List UInt8 → ByteArray) (id : List UInt8) (leaf : Nat) {f g : Nat → ByteArray} (v : ByteArray) : ∀ n, (∀ l, l < n → f l = g l) → climbQ H id leaf f n v = climbQ H id leaf g n v
  | 0, _ => rfl
  | n + 1, h => by
    unfold climbQ
    rw [climb_congr H id leaf v n (fun l hl => h l (by omega)), h n (by omega)]
theorem append_extract_left (a b : ByteArray) (i j : Nat) (hj : j ≤ a.size) : (a ++ b).extract i j = a.extract i j := by
  apply list_inj
  rw [extract_listq, extract_listq, str_add, List.take_append_of_le_length (by show j ≤ a.size; exact hj)]
theorem append_extract_right (a b : ByteArray) (i j : Nat) : (a ++ b).extract (a.size + i) (a.size + j) = b.extract i j := by
  apply list_inj
  have ha : a.data.toList.length = a.size := rfl
  rw [extract_listq, extract_listq, str_add, ← ha, List.take_length_add_append, List.drop_length_add_append]
theorem append_extract_all (a b : ByteArray) : (a ++ b).extract a.size (a.size + b.size) = b := by
  have := append_extract_right a b 0 b.size
  rw [Nat.add_zero] at this
  rw [this]
  apply list_inj
  rw [extract_listq, List.drop_zero, List.take_of_length_le (by show b.data.toList.length ≤ b.size; exact Nat.le_refl _)]
theorem rowB_part {f : Nat → ByteArray} (hf : ∀ c, (f c).size = 16) : ∀ (n l : Nat), l < n → (rowB f n).extract (l * 16) ((l + 1) * 16) = f l
  | 0, _, h => absurd h (Nat.not_lt_zero _)
  | n + 1, l, h => by
    have hs := rowB_size hf n
    show (rowB f n ++ f n).extract (l * 16) ((l + 1) * 16) = f l
    by_cases hl : l < n
    · rw [append_extract_left _ _ _ _ (by rw [hs]; omega)]
      exact rowB_part hf n l hl
    · obtain rfl : l = n := by omega
      have := append_extract_all (rowB f l) (f l)
      rw [hs, hf, show l * 16 + 16 = (l + 1) * 16 by omega] at this
      exact this
theorem u8at_front (a b : ByteArray) (i : Nat) (h : i < a.size) : u8at (a ++ b) i = u8at a i := by
  unfold u8at
  rw [str_add, List.getD_eq_getElem?_getD, List.getElem?_append_left (by show i < a.size; exact h), ← List.getD_eq_getElem?_getD]
theorem leaf_b4 (n : Nat) (hn : n < 4294967296) : leafS (strOf (b4 n)) = n := by
  show (UInt8.ofNat (n / 16777216 % 256)).toNat * 16777216 + (UInt8.ofNat (n / 65536 % 256)).toNat * 65536 + (UInt8.ofNat (n / 256 % 256)).toNat * 256 + (UInt8.ofNat (n % 256)).toNat = n
  simp only [UInt8.toNat_ofNat']
  omega
theorem sigT_leaf (seed : ByteArray) (h leaf : Nat) (m : ByteArray) (hl : leaf < 4294967296) : leafS (sigT seed h leaf m) = leaf := by
  have h4 : (strOf (b4 leaf)).size = 4 := rfl
  have e : ∀ i, i < 4 → u8at (sigT seed h leaf m) i = u8at (strOf (b4 leaf)) i := fun i hi => by
    unfold sigT
    rw [u8at_front _ _ i (by rw [ByteArray.size_append, h4]; omega), u8at_front _ _ i (by rw [h4]; exact hi)]
  unfold leafS
  rw [e 0 (by omega), e 1 (by omega), e 2 (by omega), e 3 (by omega)]
  exact leaf_b4 leaf hl
theorem sigT_ots (seed : ByteArray) (h leaf : Nat) (m : ByteArray) : (sigT seed h leaf m).extract 4 564 = otsS seed h leaf m := by
  have h4 : (strOf (b4 leaf)).size = 4 := rfl
  unfold sigT
  rw [append_extract_left _ _ _ _ (by rw [ByteArray.size_append, h4, otsS_size]; omega)]
  have := append_extract_all (strOf (b4 leaf)) (otsS seed h leaf m)
  rw [h4, otsS_size] at this
  exact this
theorem sigT_sib (seed : ByteArray) (h leaf l : Nat) (m : ByteArray) (hl : l < h) : sibP (sigT seed h leaf m) l = nodeS seed l (sibQ (leaf / 2 ^ l)) := by
  have h4 : (strOf (b4 leaf)).size = 4 := rfl
  have hs : (strOf (b4 leaf) ++ otsS seed h leaf m).size = 564 := by rw [ByteArray.size_append, h4, otsS_size]
  unfold sibP sigT
  have := append_extract_right (strOf (b4 leaf) ++ otsS seed h leaf m) (sibsS seed leaf h) (l * 16) ((l + 1) * 16)
  rw [hs] at this
  rw [this]
  exact rowB_part (fun l => nodeS_size seed l _) h l hl
/-- Every signature of a tree leads to its root. -/
theorem sigT_up (seed : ByteArray) (h leaf : Nat) (m : ByteArray) (hl : leaf < 2 ^ h) (hh : h ≤ 8) : upS (idT seed) (rootS seed h) m (sigT seed h leaf m) h = rootS seed h := by
  have h9 : (2 : Nat) ^ h ≤ 2 ^ 8 := Nat.pow_le_pow_right (by omega) hh
  have hl4 : leaf < 4294967296 := by omega
  unfold upS
  rw [sigT_leaf seed h leaf m hl4, sigT_ots]
  unfold otsS
  rw [recS_sig _ _ _ (digs_le _ (by show (dgM _ _ _ _).size ≤ 16; rw [dgM_size]; exact Nat.le_refl _)), climb_congr hQ _ leaf _ h (fun l hh => sigT_sib seed h leaf l m hh)]
  exact climb_root hQ _ (fun j => pubS (idT seed) seed j) hl
theorem sigT_ver (seed : ByteArray) (h leaf : Nat) (m : ByteArray) (hl : leaf < 2 ^ h) (hh : h ≤ 8) : verE (h : Int) (idT seed) (rootS seed h) m (sigT seed h leaf m) = 0 := by
  have h9 : (2 : Nat) ^ h ≤ 2 ^ 8 := Nat.pow_le_pow_right (by omega) hh
  have hk : keyE (h : Int) (idT seed) (rootS seed h) = 0 := by
    unfold keyE
    rw [if_pos ⟨by omega, by omega, idT_size _, rootS_size _ _⟩]
  unfold verE
  rw [if_pos hk, if_pos ⟨sigT_size _ _ _ _, by rw [sigT_leaf _ _ _ _ (by omega)]; exact hl, sigT_up seed h leaf m hl hh⟩]
end Go.Proofs.YtphgpakfdhdklaaDoor
namespace Go.Proofs.YtphgpakfdhdklaaDoor
open Go.RowKit

/-- The word that a saved state begins with. -/
def key1 : ByteArray := ⟨#[75, 69, 89, 49]⟩
def saveS (seed : ByteArray) (h n : Nat) : ByteArray := ((key1 ++ seed) ++ strOf (b1 h)) ++ strOf (b4 n)
/-- The number that the last four of 41 bytes are. -/
def nextB (b : ByteArray) : Nat := u8at b 37 * 16777216 + u8at b 38 * 65536 + u8at b 39 * 256 + u8at b 40
def LoadOk (b : ByteArray) : Prop := b.size = 41 ∧ b.extract 0 4 = key1 ∧ u8at b 36 ≤ 8 ∧ nextB b ≤ 2 ^ u8at b 36
instance (b : ByteArray) : Decidable (LoadOk b) := inferInstanceAs (Decidable (_ ∧ _ ∧ _ ∧ _))
theorem saveS_list (seed : ByteArray) (h n : Nat) : (saveS seed h n).data.toList = [75, 69, 89, 49] ++ seed.data.toList ++ b1 h ++ b4 n := by
  unfold saveS
  rw [str_add, str_add, str_add, strOf_list, strOf_list]
  rfl
theorem saveS_size {seed : ByteArray} (hs : seed.size = 32) (h n : Nat) : (saveS seed h n).size = 41 := by
  have e : (saveS seed h n).data.toList.length = (saveS seed h n).size := rfl
  rw [← e, saveS_list]
  simp only [List.length_append, b1_len, b4_len, size_listq]
  rw [hs]
  rfl
theorem u8at_mid (b : ByteArray) (i : Nat) (L R : List UInt8) (x : UInt8) (h : b.data.toList = L ++ x :: R) (hl : L.length = i) : u8at b i = x.toNat := by
  unfold u8at
  rw [h, List.getD_eq_getElem?_getD, List.getElem?_append_right (by omega), hl, Nat.sub_self]
  rfl
theorem save_height {seed : ByteArray} (hs : seed.size = 32) {h : Nat} (hh : h < 256) (n : Nat) : u8at (saveS seed h n) 36 = h := by
  have hl : seed.data.toList.length = 32 := hs
  rw [u8at_mid (saveS seed h n) 36 ([75, 69, 89, 49] ++ seed.data.toList) (b4 n) (UInt8.ofNat (h % 256)) (by rw [saveS_list, List.append_assoc]; rfl) (by rw [List.length_append, hl]; rfl)]
  simp only [UInt8.toNat_ofNat']
  omega
theorem save_next {seed : ByteArray} (hs : seed.size = 32) (h : Nat) {n : Nat} (hn : n < 4294967296) : nextB (saveS seed h n) = n := by
  have hl : seed.data.toList.length = 32 := hs
  have e : (saveS seed h n).data.toList = ([75, 69, 89, 49] ++ seed.data.toList ++ b1 h) ++ [UInt8.ofNat (n / 16777216 % 256), UInt8.ofNat (n / 65536 % 256), UInt8.ofNat (n / 256 % 256), UInt8.ofNat (n % 256)] := by rw [saveS_list]; rfl
  have hL : ([75, 69, 89, 49] ++ seed.data.toList ++ b1 h : List UInt8).length = 37 := by rw [List.length_append, List.length_append, hl]; rfl
  unfold nextB
  rw [u8at_mid _ 37 _ _ _ e hL, u8at_mid _ 38 (([75, 69, 89, 49] ++ seed.data.toList ++ b1 h) ++ [UInt8.ofNat (n / 16777216 % 256)]) [UInt8.ofNat (n / 256 % 256), UInt8.ofNat (n % 256)] (UInt8.ofNat (n / 65536 % 256)) (by rw [e]; simp) (by rw [List.length_append, hL]; rfl),
    u8at_mid _ 39 (([75, 69, 89, 49] ++ seed.data.toList ++ b1 h) ++ [UInt8.ofNat (n / 16777216 % 256), UInt8.ofNat (n / 65536 % 256)]) [UInt8.ofNat (n % 256)] (UInt8.ofNat (n / 256 % 256)) (by rw [e]; simp) (by rw [List.length_append, hL]; rfl),
    u8at_mid _ 40 (([75, 69, 89, 49] ++ seed.data.toList ++ b1 h) ++ [UInt8.ofNat (n / 16777216 % 256), UInt8.ofNat (n / 65536 % 256), UInt8.ofNat (n / 256 % 256)]) [] (UInt8.ofNat (n % 256)) (by rw [e]; simp) (by rw [List.length_append, hL]; rfl)]
  simp only [UInt8.toNat_ofNat']
  omega
theorem save_word (seed : ByteArray) (h n : Nat) : (saveS seed h n).extract 0 4 = key1 := by
  apply list_inj
  rw [extract_listq, saveS_list, List.append_assoc, List.append_assoc, List.drop_zero]
  rfl
theorem save_seed {seed : ByteArray} (hs : seed.size = 32) (h n : Nat) : (saveS seed h n).extract 4 36 = seed := by
  apply list_inj
  have hl : seed.data.toList.length = 32 := hs
  rw [extract_listq, saveS_list, List.append_assoc, List.append_assoc]
  rw [List.take_append, List.drop_append]
  rw [show (36 - ([75, 69, 89, 49] : List UInt8).length) = seed.data.toList.length by rw [hl]; rfl, List.take_left]
  rfl
theorem load_save {seed : ByteArray} {h n : Nat} (hs : seed.size = 32) (hh : h ≤ 8) (hn : n ≤ 2 ^ h) : LoadOk (saveS seed h n) := by
  have hp := Nat.pow_le_pow_right (n := 2) (by omega) hh
  refine ⟨saveS_size hs h n, save_word seed h n, ?_, ?_⟩
  · rw [save_height hs (by omega)]; exact hh
  · rw [save_height hs (by omega), save_next hs h (by omega)]; exact hn
theorem parts41 (L : List UInt8) (h : L.length = 41) : ∃ (A B : List UInt8) (x0 x1 x2 x3 x4 : UInt8), L = A ++ (B ++ [x0, x1, x2, x3, x4]) ∧ A.length = 4 ∧ B.length = 32 := by
  have e1 : L = L.take 4 ++ ((L.drop 4).take 32 ++ (L.drop 4).drop 32) := by rw [List.take_append_drop, List.take_append_drop]
  have h3 : ((L.drop 4).drop 32).length = 5 := by rw [List.length_drop, List.length_drop, h]
  obtain ⟨x0, x1, x2, x3, x4, e2⟩ : ∃ x0 x1 x2 x3 x4, (L.drop 4).drop 32 = [x0, x1, x2, x3, x4] := by
    generalize (L.drop 4).drop 32 = R at h3
    match R, h3 with
    | [x0, x1, x2, x3, x4], _ => exact ⟨x0, x1, x2, x3, x4, rfl⟩
  exact ⟨L.take 4, (L.drop 4).take 32, x0, x1, x2, x3, x4, by rw [← e2]; exact e1, by rw [List.length_take, h]; rfl, by rw [List.length_take, List.length_drop, h]; rfl⟩
theorem b1_of (x : UInt8) : b1 x.toNat = [x] := by
  show [UInt8.ofNat (x.toNat % 256)] = [x]
  rw [Nat.mod_eq_of_lt x.toNat_lt, UInt8.ofNat_toNat]
theorem b4_of (x1 x2 x3 x4 : UInt8) : b4 (x1.toNat * 16777216 + x2.toNat * 65536 + x3.toNat * 256 + x4.toNat) = [x1, x2, x3, x4] := by
  have h1 := x1.toNat_lt
  have h2 := x2.toNat_lt
  have h3 := x3.toNat_lt
  have h4 := x4.toNat_lt
  have e : ∀ n, b4 n = [UInt8.ofNat (n / 16777216 % 256), UInt8.ofNat (n / 65536 % 256), UInt8.ofNat (n / 256 % 256), UInt8.ofNat (n % 256)] := fun _ => rfl
  rw [e, show (x1.toNat * 16777216 + x2.toNat * 65536 + x3.toNat * 256 + x4.toNat) / 16777216 % 256 = x1.toNat by omega, show (x1.toNat * 16777216 + x2.toNat * 65536 + x3.toNat * 256 + x4.toNat) / 65536 % 256 = x2.toNat by omega, show (x1.toNat * 16777216 + x2.toNat * 65536 + x3.toNat * 256 + x4.toNat) / 256 % 256 = x3.toNat by omega, show (x1.toNat * 16777216 + x2.toNat * 65536 + x3.toNat * 256 + x4.toNat) % 256 = x4.toNat by omega]
  simp only [UInt8.ofNat_toNat]
/-- What is loaded is what was saved. -/
theorem save_load {b : ByteArray} (h : LoadOk b) : b = saveS (b.extract 4 36) (u8at b 36) (nextB b) := by
  obtain ⟨hz, hw, _, _⟩ := h
  obtain ⟨A, B, x0, x1, x2, x3, x4, e, hA, hB⟩ := parts41 b.data.toList hz
  have hAB : (A ++ B).length = 36 := by rw [List.length_append, hA, hB]
  have g0 := u8at_mid b 36 (A ++ B) [x1, x2, x3, x4] x0 (by rw [e, List.append_assoc]) hAB
  have g1 := u8at_mid b 37 (A ++ B ++ [x0]) [x2, x3, x4] x1 (by rw [e, List.append_assoc, List.append_assoc]; rfl) (by rw [List.length_append, hAB]; rfl)
  have g2 := u8at_mid b 38 (A ++ B ++ [x0, x1]) [x3, x4] x2 (by rw [e, List.append_assoc, List.append_assoc]; rfl) (by rw [List.length_append, hAB]; rfl)
  have g3 := u8at_mid b 39 (A ++ B ++ [x0, x1, x2]) [x4] x3 (by rw [e, List.append_assoc, List.append_assoc]; rfl) (by rw [List.length_append, hAB]; rfl)
  have g4 := u8at_mid b 40 (A ++ B ++ [x0, x1, x2, x3]) [] x4 (by rw [e, List.append_assoc, List.append_assoc]; rfl) (by rw [List.length_append, hAB]; rfl)
  have hA2 : A = [75, 69, 89, 49] := by
    have h1 := congrArg (fun z : ByteArray => z.data.toList) hw
    simp only [extract_listq, List.drop_zero] at h1
    rw [e, List.take_append_of_le_length (by rw [hA]; exact Nat.le_refl _), List.take_of_length_le (by rw [hA]; exact Nat.le_refl _)] at h1
    exact h1
  have hB2 : (b.extract 4 36).data.toList = B := by
    rw [extract_listq, e, ← List.append_assoc, List.take_append_of_le_length (by rw [hAB]; exact Nat.le_refl _), List.take_of_length_le (by rw [hAB]; exact Nat.le_refl _), ← hA, List.drop_left]
  apply list_inj
  unfold nextB
  rw [saveS_list, hB2, g0, g1, g2, g3, g4, b1_of, b4_of, e, hA2, List.append_assoc, List.append_assoc]
  rfl
end Go.Proofs.YtphgpakfdhdklaaDoor
namespace Go.Proofs.YtphgpakfdhdklaaDoor
open Go.RowKit

/-- The slice value v, of memory from block B on, holds the strings ss. -/
def OwnL (w : World) (B : Nat) (v : Value) (ss : List ByteArray) : Prop := w.ownsRow B 9 1 v ss.length (ss.map Value.string)
/-- At the address lie the strings ss. -/
def StrsAt (w : World) (a : Option Addr) (ss : List ByteArray) : Prop := ss = [] ∨ ∃ b o, a = some ⟨b, o, none⟩ ∧ b < w.heap.size ∧ ∀ i, i < ss.length → w.cell? ⟨b, o + i, none⟩ = some (.string (ss.getD i ByteArray.empty))
theorem StrsAt.below {w w' : World} {a : Option Addr} {ss : List ByteArray} (h : StrsAt w a ss) (hb : Below w.heap.size w w') : StrsAt w' a ss := by
  rcases h with h | ⟨b, o, h1, h2, h3⟩
  · exact .inl h
  · exact .inr ⟨b, o, h1, Nat.lt_of_lt_of_le h2 hb.size, fun i hi => (hb.cell (p := ⟨b, o + i, none⟩) h2).trans (h3 i hi)⟩
theorem OwnL.nil (w : World) (B : Nat) : OwnL w B (.slice none 0 0) [] := World.ownsRow_nil _ _ _ _
theorem ownl_below {w w' : World} {B : Nat} {e : TypeId} {k n : Nat} {v : Value} {xs : List Value} (h : w.ownsRow B e k v n xs) (hb : Below w.heap.size w w') : w'.ownsRow B e k v n xs := by
  refine ⟨h.1, ?_⟩
  rcases h.2 with h0 | ⟨g, cap, cur, hv, hB, hg, r⟩
  · exact .inl h0
  · exact .inr ⟨g, cap, cur, hv, hB, (hb.block g (Array.getElem?_eq_some_iff.1 hg).1).trans hg, r⟩
theorem OwnL.below {w w' : World} {B : Nat} {v : Value} {ss : List ByteArray} (h : OwnL w B v ss) (hb : Below w.heap.size w w') : OwnL w' B v ss := ownl_below h hb
theorem OwnL.lies {w : World} {B : Nat} {v : Value} {ss : List ByteArray} (h : OwnL w B v ss) : ∃ a c, v = .slice a ss.length c ∧ ss.length ≤ c ∧ StrsAt w a ss := by
  have hh := h
  rcases h.2 with ⟨hv, h0⟩ | ⟨g, cap, cur, hv, _, hg, hcap, _⟩
  · exact ⟨none, 0, by rw [hv, h0], by omega, .inl (List.eq_nil_of_length_eq_zero h0)⟩
  · refine ⟨_, cap, hv, hcap, .inr ⟨g, 0, rfl, (Array.getElem?_eq_some_iff.1 hg).1, fun i hi => ?_⟩⟩
    unfold OwnL at hh
    rw [hv] at hh
    rw [Nat.zero_add, World.ownsRow.cellAt hh i (by omega), List.getElem?_map, List.getElem?_eq_getElem hi, List.getD_eq_getElem?_getD, List.getElem?_eq_getElem hi]
    rfl
/-- The slice value v, of memory from block B on, holds the rows n, each in memory of its own. -/
def OwnLL (w : World) (B : Nat) (v : Value) (n : List (List ByteArray)) : Prop := ∃ vs : List Value, vs.length = n.length ∧ w.ownsRow B 59 1 v n.length vs ∧ ∀ i, i < n.length → OwnL w B (vs.getD i (.slice none 0 0)) (n.getD i [])
/-- At the address lie the rows n. -/
def RowsAt (w : World) (a : Option Addr) (n : List (List ByteArray)) : Prop := n = [] ∨ ∃ b o, a = some ⟨b, o, none⟩ ∧ b < w.heap.size ∧ ∀ i, i < n.length → ∃ a' c', w.cell? ⟨b, o + i, none⟩ = some (.slice a' (n.getD i []).length c') ∧ (n.getD i []).length ≤ c' ∧ StrsAt w a' (n.getD i [])
theorem RowsAt.below {w w' : World} {a : Option Addr} {n : List (List ByteArray)} (h : RowsAt w a n) (hb : Below w.heap.size w w') : RowsAt w' a n := by
  rcases h with h | ⟨b, o, h1, h2, h3⟩
  · exact .inl h
  · refine .inr ⟨b, o, h1, Nat.lt_of_lt_of_le h2 hb.size, fun i hi => ?_⟩
    obtain ⟨a', c', e, q, r⟩ := h3 i hi
    exact ⟨a', c', (hb.cell (p := ⟨b, o + i, none⟩) h2).trans e, q, r.below hb⟩
theorem OwnLL.nil (w : World) (B : Nat) : OwnLL w B (.slice none 0 0) [] := ⟨[], rfl, World.ownsRow_nil _ _ _ _, fun _ hi => absurd hi (Nat.not_lt_zero _)⟩
theorem OwnLL.below {w w' : World} {B : Nat} {v : Value} {n : List (List ByteArray)} (h : OwnLL w B v n) (hb : Below w.heap.size w w') : OwnLL w' B v n := by
  obtain ⟨vs, h1, h2, h3⟩ := h
  exact ⟨vs, h1, ownl_below h2 hb, fun i hi => (h3 i hi).below hb⟩
theorem OwnLL.lies {w : World} {B : Nat} {v : Value} {n : List (List ByteArray)} (h : OwnLL w B v n) : ∃ a c, v = .slice a n.length c ∧ n.length ≤ c ∧ RowsAt w a n := by
  obtain ⟨vs, h1, h2, h3⟩ := h
  have hh := h2
  rcases h2.2 with ⟨hv, h0⟩ | ⟨g, cap, cur, hv, _, hg, hcap, _⟩
  · exact ⟨none, 0, by rw [hv, h0], by omega, .inl (List.eq_nil_of_length_eq_zero h0)⟩
  · refine ⟨_, cap, hv, hcap, .inr ⟨g, 0, rfl, (Array.getElem?_eq_some_iff.1 hg).1, fun i hi => ?_⟩⟩
    rw [hv] at hh
    obtain ⟨a', c', e, q3, q⟩ := (h3 i hi).lies
    refine ⟨a', c', ?_, q3, q⟩
    rw [Nat.zero_add, World.ownsRow.cellAt hh i (by omega), ← e, List.getD_eq_getElem?_getD, List.getElem?_eq_getElem (by omega)]
    rfl
/-- Rows of different types share no block. -/
theorem rowsl_apart {w : World} {B B' : Nat} {e e' : TypeId} {k k' n n' : Nat} {v v' : Value} {xs xs' : List Value} (h : w.ownsRow B e k v n xs) (h' : w.ownsRow B' e' k' v' n' xs') (hne : e ≠ e') : v.ownBlock = none ∨ v.ownBlock ≠ v'.ownBlock := by
  rcases h.2 with ⟨hv, _⟩ | ⟨g, cap, cur, hv, _, hg, _⟩
  · exact .inl (by rw [hv]; rfl)
  · rcases h'.2 with ⟨hv', _⟩ | ⟨g', cap', cur', hv', _, hg', _⟩
    · exact .inr (by rw [hv, hv']; simp [Value.ownBlock])
    · refine .inr (fun e1 => ?_)
      rw [hv, hv'] at e1
      simp [Value.ownBlock] at e1
      subst e1
      rw [hg] at hg'
      simp at hg'
      exact hne hg'.2
theorem OwnL.kept {w w' : World} {B B' k n : Nat} {v u : Value} {l : List ByteArray} {xs : List Value} (h : OwnL w B u l) (ho : w.ownsRow B' 59 k v n xs) (hg : w.grownBy w' v.ownBlock) : OwnL w' B u l :=
  World.ownsRow.kept h hg (rowsl_apart h ho (by decide))
theorem getDl_lt {α : Type} (l : List α) (x d : α) (i : Nat) (h : i < l.length) : (l ++ [x]).getD i d = l.getD i d := by
  rw [List.getD_eq_getElem?_getD, List.getD_eq_getElem?_getD, List.getElem?_append_left h]
theorem getDl_eq {α : Type} (l : List α) (x d : α) : (l ++ [x]).getD l.length d = x := by
  rw [List.getD_eq_getElem?_getD, List.getElem?_append_right (Nat.le_refl _)]; simp
/-- One row more. -/
theorem OwnLL.snoc {w w' : World} {B : Nat} {v v' u : Value} {n : List (List ByteArray)} {r : List ByteArray} {vs : List Value} (h1 : vs.length = n.length) (h2 : w.ownsRow B 59 1 v n.length vs) (h3 : ∀ i, i < n.length → OwnL w B (vs.getD i (.slice none 0 0)) (n.getD i []))
    (hr : OwnL w B u r) (hg : w.grownBy w' v.ownBlock) (h4 : w'.ownsRow B 59 1 v' (n.length + 1) (vs ++ [u])) : OwnLL w' B v' (n ++ [r]) := by
  refine ⟨vs ++ [u], by simp [h1], by rw [List.length_append]; exact h4, fun i hi => ?_⟩
  by_cases hlt : i < n.length
  · rw [getDl_lt _ _ _ _ (by omega), getDl_lt _ _ _ _ hlt]
    exact (h3 i hlt).kept h2 hg
  · rw [List.length_append, List.length_singleton] at hi
    obtain rfl : i = n.length := by omega
    rw [getDl_eq, ← h1, getDl_eq]
    exact hr.kept h2 hg
/-- A string more in a row. -/
theorem ownl_round {w wr w2 : World} {B : Nat} {v v' : Value} {D : List ByteArray} {y : ByteArray} {X : Obj} (hown : OwnL wr B v D) (hb : Below B w wr) (hB : B ≤ w.heap.size)
    (hown2 : w2.ownsRow B 9 1 v' (D.length + 1) (D.map Value.string ++ [.string y])) (hgr2 : (wr.alloc X).grownBy w2 v.ownBlock) : OwnL w2 B v' (D ++ [y]) ∧ Below B w w2 := by
  refine ⟨?_, ?_⟩
  · unfold OwnL
    rw [List.length_append, List.map_append]; exact hown2
  · exact (Below.alloc hb (Nat.le_trans hB hb.size) X).grown hgr2 (by simp; have := hb.size; omega) (fun k e => (World.ownsRow.lt hown k e).1)
theorem ones_l (d : ByteArray) : ∀ u ∈ [Value.string d], u.oneCell' = true := by
  intro u hu
  rw [List.mem_singleton.1 hu]
  rfl
theorem news_l (W : World) (u : Value) (E : TypeId) : ∀ j x, [u][j]? = some x → (W.alloc (.cells #[u] E)).cell? ((⟨W.heap.size, 0, none⟩ : Addr).add j) = some x := news_row W #[u] E
end Go.Proofs.YtphgpakfdhdklaaDoor
namespace Go.Proofs.YtphgpakfdhdklaaDoor
open Go.RowKit

set_option maxRecDepth 100000 in
set_option maxHeartbeats 2000000 in
theorem rpub_ok (id seed : ByteArray) (leaf : Nat) (h0 : chkQ id seed (leaf : Int) = 0) (w : World) :
    Calls Tryd.prog 42 #[.string id, .string seed, .int .i64 (leaf : Int)] w fun e w' => e = .returned (someV (pubS id seed leaf)) ∧ Below w.heap.size w w' := by
  obtain ⟨hi, hs, n, hn, hlt⟩ := chkQ_zero h0
  have hl : leaf < 256 := by omega
  clear hn hlt n
  have HI := Lib.hid hi
  have HS := Lib.hid hs
  have HL := Lib.hid hl
  have HCK : Hid (∀ W : World, Calls Tryd.prog 51 #[.string id, .string seed, .int .i64 (leaf : Int)] W fun e w' => e = .returned (.int .i64 0) ∧ Below W.heap.size W w') := Lib.hid fun W => by
    have := rchkq_any id seed (leaf : Int) W
    rw [h0] at this
    exact this
  clear hi hs hl h0
  go_enter Tryd.func42, Tryd.ntmps42
  go_wp2_with (first | (go_at_call 51; (with_reducible refine (HCK.out _).mono ?_); rintro e w1 ⟨rfl, hb1⟩; have HB1 := Lib.hid hb1; clear hb1))
  go_loopw [9, 10] (fun t i wr => ∃ k : Nat, k ≤ 35 ∧ i = .int .i64 (k : Int) ∧ t = .string (rowB (fun c => valS id seed leaf c 15) k) ∧ Below w.heap.size w wr) (fun _ i _ => 35 - (intOf i).toNat)
  case atStart => exact ⟨0, by decide, rfl, rfl, HB1.out⟩
  case round =>
    obtain ⟨k, hk, rfl, rfl, hb⟩ := hrel
    have HB := Lib.hid hb
    clear hb
    have hsz : (rowB (fun c => valS id seed leaf c 15) k).size = k * 16 := rowB_size (fun _ => valS_size _ _ _ _ _) k
    by_cases hlt : k < 35
    · have hd : decide ((k : Int) < 35) = true := by simp; omega
      have HR : Hid (rowB (fun c => valS id seed leaf c 15) (k + 1) = rowB (fun c => valS id seed leaf c 15) k ++ valS id seed leaf k 15) := Lib.hid rfl
      obtain ⟨u, hu⟩ : ∃ u, u = valS id seed leaf k 15 := ⟨_, rfl⟩
      have husz : u.size = 16 := by rw [hu]; exact valS_size _ _ _ _ _
      obtain ⟨r, hr⟩ : ∃ r, r = rowB (fun c => valS id seed leaf c 15) k := ⟨_, rfl⟩
      rw [← hu, ← hr] at HR
      rw [← hr] at hsz ⊢
      obtain ⟨sv, hsv⟩ : ∃ sv, sv = secS seed leaf k := ⟨_, rfl⟩
      have HSC : Hid (∀ W : World, Calls Tryd.prog 54 #[.string seed, .int .i64 (leaf : Int), .int .i64 (k : Int)] W fun e w' => e = .returned (.string sv) ∧ Below W.heap.size W w') := Lib.hid fun W => by
        rw [hsv]
        exact rsec_any seed leaf k (by rw [HS.out]; omega) (by have := HL.out; omega) (by omega) W
      have HWK : Hid (∀ W : World, Calls Tryd.prog 53 #[.string id, .int .i64 (leaf : Int), .int .i64 (k : Int), .int .i64 0, .int .i64 15, .string sv] W fun e w' => e = .returned (.string u) ∧ Below W.heap.size W w') := Lib.hid fun W => by
        rw [hu, hsv]
        exact rwalk_any id (secS seed leaf k) leaf k 0 15 (by rw [HI.out]; omega) (by rw [secS_size]; omega) (by have := HL.out; omega) (by omega) (by omega) (by omega) W
      clear hu hr hsv
      have hsum : ((r.size : Nat) : Int) + ((u.size : Nat) : Int) ≤ 9223372036854775807 := by rw [hsz, husz]; omega
      go_wp2_with (first | (go_at_call 54; (with_reducible refine (HSC.out _).mono ?_); rintro e w2 ⟨rfl, hb2⟩; have HB2 := Lib.hid (HB.out.next hb2); clear hb2) | (go_at_call 53; (with_reducible refine (HWK.out _).mono ?_); rintro e w3 ⟨rfl, hb3⟩; have HB3 := Lib.hid (HB2.out.next hb3); clear hb3))
      go_roundw
      case rel => exact ⟨k + 1, by omega, by go_num, by rw [HR.out], HB3.out⟩
      case measure => simp [intOf]; omega
    · have hk35 : k = 35 := by omega
      subst hk35
      have hd : decide ((35 : Int) < 35) = false := by decide
      obtain ⟨r, hr⟩ : ∃ r, r = rowB (fun c => valS id seed leaf c 15) 35 := ⟨_, rfl⟩
      have HP : Hid (keySq id leaf r = pubS id seed leaf) := Lib.hid (by rw [hr]; rfl)
      rw [← hr] at hsz ⊢
      have HSZ := Lib.hid hsz
      clear hr hsz
      have HKY : ∀ (V : Value) (W : World), Reads_z W V [⟨#[76]⟩, id, strOf (b4 leaf), r] → Calls Tryd.prog 36 #[V] W fun e w' => e = .returned (.string (keySq id leaf r)) ∧ Below W.heap.size W w' := fun V W h => by
        rw [← keyS_eq]
        exact refshort_any V _ W h (show (4 : Nat) < 4611686018427387904 by decide) (key_room (by rw [HI.out]; omega) (by rw [HSZ.out]; omega) leaf)
      have HKY := Lib.hid HKY
      go_wp2_with (first | (go_at_call 32; (with_reducible refine (rb4_any leaf (by have := HL.out; omega) _).mono ?_); rintro e w4 ⟨rfl, hb4⟩; have HB4 := Lib.hid (HB.out.next hb4); clear hb4) | (go_at_call 36; refine (HKY.out _ _ (reads_row _ [⟨#[76]⟩, id, strOf (b4 leaf), r] 9)).mono ?_; rintro e w5 ⟨rfl, hb5⟩; have HB5 := Lib.hid ((HB4.out.alloc HB4.out.size _).next hb5); clear hb5))
      go_ret2
      rw [← HP.out]
      exact ⟨rfl, HB5.out⟩
set_option maxRecDepth 100000 in
set_option maxHeartbeats 1000000 in
theorem rpub_bad (id seed : ByteArray) (leaf : Int) (n : Nat) (hn : chkQ id seed leaf = n) (h0 : n ≠ 0) (w : World) :
    Calls Tryd.prog 42 #[.string id, .string seed, .int .i64 leaf] w fun e w' => e = .returned (noneV n) ∧ Below w.heap.size w w' := by
  have HCK : Hid (∀ W : World, Calls Tryd.prog 51 #[.string id, .string seed, .int .i64 leaf] W fun e w' => e = .returned (.int .i64 (n : Int)) ∧ Below W.heap.size W w') := Lib.hid fun W => by
    have := rchkq_any id seed leaf W
    rw [hn] at this
    exact this
  have d1 : ((n : Int) == 0) = false := by simp; omega
  clear hn
  go_enter Tryd.func42, Tryd.ntmps42
  go_wp2_with (first | (go_at_call 51; (with_reducible refine (HCK.out _).mono ?_); rintro e w1 ⟨rfl, hb1⟩; have HB1 := Lib.hid hb1; clear hb1))
  go_ret2
  exact ⟨rfl, HB1.out⟩
theorem rpub_any (id seed : ByteArray) (leaf : Int) (w : World) :
    Calls Tryd.prog 42 #[.string id, .string seed, .int .i64 leaf] w fun e w' => e = .returned (pubV id seed leaf) ∧ Below w.heap.size w w' := by
  unfold pubV
  by_cases h : chkQ id seed leaf = 0
  · rw [if_pos h]
    obtain ⟨_, _, n, rfl, _⟩ := chkQ_zero h
    exact rpub_ok id seed n h w
  · rw [if_neg h]
    exact rpub_bad id seed leaf _ rfl h w
end Go.Proofs.YtphgpakfdhdklaaDoor
