import PyProof.Rows.All
import Wide.All
import OpenK.AllK
import Wide.FinOn
import HandS.ForMost
import HandS.Rev
import KE.KDictList
import HandS.Style
import HandS.More
import HandS.IsInst
import HandS.StrMore
import HandS.Wide
import HandS.Codes
import HandS.Walk
import HandS.NoneIn
import HandS.WordsExc
import PyProof.AutoSeq1
import HandS.TupAny
import HandS.Conv
import HandS.SetFor
import HandS.ListEq
import HandS.ForExc
import HandS.ExcIs
import HandS.ExcOwn
import HandS.TupLe
import HandS.Deep
import HandS.Strs
import HandS.WordsDict
import KE.GoesMore
import KE.GoesEnum
import KE.SortData
import HandS.RevRange
import HandS.DictComp
import HandS.Text
import HandS.Zip
import HandS.CallLocal
import KE.KDictPairs
import HandS.Replace
import HandS.TryOnly
import HandS.Call
import PyProof.TupleKey
import PyProof.Rows.TupTab
import HandS.DictTup
import KE.KDictDisplayH
import PyProof.DictTruth
import HandS.TupMul
import HandS.Iter
import KE.KDictWalk
import PyProof.DictFindH
import HandS.Flow
import HandS.Nested
import HandS.ExcInit
import KE.KExcSuper
import HandS.ExcField
import HandS.ExcValue
import HandS.TupSets
import PySem.Challenge.RW_takeleave_k56_too_many_maps
set_option Elab.async false
set_option linter.all false
set_option maxRecDepth 100000
set_option maxHeartbeats 4000000
namespace Cm
open PySem PySem.Spec PyProof.Rows L2 RT
end Cm
namespace Cm
open PySem PySem.W L2 SX
theorem same_new {H : Hp} {p : Addr} (h : H p = none) (o : HO) : Same H (upd H p o) := fun b u q => by rw [upd_ne (ne_of_none q h)]; exact q
theorem cut_map {α : Type} (f : α → V) (xs : List α) (lo hi : Option Int) : ∃ ys : List α, cutV (xs.map f) lo hi = ys.map f ∧ ys.length ≤ xs.length := by
  unfold cutV
  refine ⟨(xs.drop (HT.sIx (xs.map f).length 0 lo)).take (HT.sIx (xs.map f).length (xs.map f).length hi - HT.sIx (xs.map f).length 0 lo), ?_, ?_⟩
  · rw [List.map_take, List.map_drop]
  · rw [List.length_take, List.length_drop]; omega
theorem dp_ints {K : PySem.W.Frag} {H : Hp} : ∀ ns : List Int, DpAll K H (ns.map V.int) (ns.map PyData.int)
  | [] => .nil
  | n :: r => .cons (.int n) (dp_ints r)
theorem kn {H : Hp} {a t : Addr} {o o' : HO} (h : H a = some o) (n : H t = none) : upd H t o' a = some o := by rw [upd_ne (ne_of_none h n)]; exact h
/-- all but what stands at the places L is kept -/
def Kp (L : List Addr) (H H' : Hp) : Prop := ∀ b o, b ∉ L → H b = some o → H' b = some o
theorem Kp.refl (L : List Addr) (H : Hp) : Kp L H H := fun _ _ _ h => h
theorem Kp.trans {L : List Addr} {H H1 H2 : Hp} (a : Kp L H H1) (b : Kp L H1 H2) : Kp L H H2 := fun c o n h => b c o n (a c o n h)
theorem Kp.of {L : List Addr} {H H' : Hp} (s : Same H H') : Kp L H H' := fun b o _ h => s b o h
theorem Kp.new {L : List Addr} {p : Addr} {H H' : Hp} {o : HO} (a : Kp L H H') (h : H' p = none) : Kp L H (upd H' p o) := a.trans (.of (same_new h o))
theorem Kp.own {L : List Addr} {d : Addr} {H H' : Hp} {o : HO} (a : Kp L H H') (m : d ∈ L) : Kp L H (upd H' d o) := fun b u n h => by rw [upd_ne (show b ≠ d from fun z => n (by rw [z]; exact m))]; exact a b u n h
theorem Kp.mono {L M : List Addr} {H H' : Hp} (a : Kp L H H') (h : ∀ b ∈ L, b ∈ M) : Kp M H H' := fun b o n e => a b o (fun z => n (h b z)) e
theorem Kp.free {L : List Addr} {p : Addr} {H H' : Hp} (k : Kp L H H') (n : H' p = none) (m : p ∉ L) : H p = none := by
  cases e : H p with
  | none => rfl
  | some o => rw [k p o m e] at n; cases n
theorem Kp.put {L : List Addr} {p : Addr} {H H' : Hp} {o : HO} (k : Kp L H H') (n : H p = none) : Kp L H (upd H' p o) := fun b u m e => by rw [upd_ne (ne_of_none e n)]; exact k b u m e
theorem Kp.same {L : List Addr} {H0 H H' : Hp} (a : Kp L H H') (s : Same H0 H) (h : ∀ b ∈ L, H0 b = none) : Same H0 H' := fun b o e => a b o (fun z => by rw [h b z] at e; cases e) (s b o e)
/-- the letters a to h -/
def abc8 : List Nat := [97, 98, 99, 100, 101, 102, 103, 104]
def nn : List V := [V.str "number", V.str "number"]
end Cm
namespace Cm
open PySem PySem.W L2 SX
/-- a text, or something else that the law hands in -/
def Vl (H : Hp) (v : V) : Option (List Nat) → Prop
  | some x => v = .str (S x) ∧ x.length ≤ 1000
  | none => (v = .non ∨ (∃ b, v = .bl b) ∨ (∃ i, v = .int i) ∨ (∃ a xs, v = .ref a ∧ H a = some (.lst xs)) ∨ (∃ a kvs, v = .ref a ∧ H a = some (.dK kvs))) ∨ (∃ a xs, v = .ref a ∧ H a = some (.tup xs) ∧ (xs = [] ∨ ∃ z, xs = [.str z]))
theorem Vl.same {H H' : Hp} {v : V} {o : Option (List Nat)} (h : Vl H v o) (s : Same H H') : Vl H' v o := by
  cases o with
  | some x => exact h
  | none =>
    rcases h with (h | h | h | ⟨a, xs, e, h⟩ | ⟨a, xs, e, h⟩) | ⟨a, xs, e, h, g⟩
    · exact .inl (.inl h)
    · exact .inl (.inr (.inl h))
    · exact .inl (.inr (.inr (.inl h)))
    · exact .inl (.inr (.inr (.inr (.inl ⟨a, xs, e, s _ _ h⟩))))
    · exact .inl (.inr (.inr (.inr (.inr ⟨a, xs, e, s _ _ h⟩))))
    · exact .inr ⟨a, xs, e, s _ _ h, g⟩
end Cm
namespace Cm
open PySem PySem.W L2 SX
/-- a text of at most n signs that a text may have -/
structure Tx (z : Str) (n : Nat) : Prop where
  len : z.length ≤ n
  ch : ∀ c ∈ z.cps.toList, c < 1114112
theorem Tx.mono {a : Str} {m n : Nat} (h : Tx a m) (l : m ≤ n) : Tx a n := ⟨Nat.le_trans h.len l, h.ch⟩
theorem Tx.cut {z : Str} {n : Nat} (h : Tx z n) (lo hi : Option Int) : Tx (cutS z lo hi) n := by
  refine ⟨Nat.le_trans (cutS_length z lo hi) h.len, fun c hc => h.ch c ?_⟩
  have e : c ∈ (z.cps.toList.drop (HT.sIx z.length 0 lo)).take (HT.sIx z.length z.length hi - HT.sIx z.length 0 lo) := hc
  exact List.mem_of_mem_drop (List.mem_of_mem_take e)
theorem Tx.at_ {z : Str} {n : Nat} (h : Tx z n) {i : Int} {c : Nat} (e : atI z.cps.toList i = some c) : Tx ⟨#[c]⟩ 1 := by
  refine ⟨Nat.le_refl 1, fun d hd => ?_⟩
  have hd' : d ∈ [c] := hd
  rw [List.mem_singleton.mp hd']
  refine h.ch c ?_
  unfold atI at e
  cases q : ixN z.cps.toList.length i with
  | none => rw [q] at e; cases e
  | some j => rw [q] at e; exact List.mem_of_getElem? e
theorem Tx.sz {z : Str} {n : Nat} (h : Tx z n) (l : n ≤ 1000 := by decide) : z.length ≤ sizeLine := Nat.le_of_lt (small1000 (Nat.le_trans h.len l))
end Cm
namespace Cm
open PySem PySem.Spec PyProof.Rows L2
end Cm
namespace Cm
open PySem PySem.W L2 SX
/-! ### data of tuples, texts and numbers as it lies in the heap -/
mutual
inductive Tr (K : Frag) (H : Hp) : V → PyData → Prop
  | int (i : Int) : Tr K H (.int i) (.int i)
  | str (x : Str) : Tr K H (.str x) (.str x)
  | tup {a : Addr} {xs : List V} {ds : List PyData} : SqT K H a xs → TrAll K H xs ds → Tr K H (.ref a) (.tuple ds)
inductive TrAll (K : Frag) (H : Hp) : List V → List PyData → Prop
  | nil : TrAll K H [] []
  | cons {v : V} {vs : List V} {d : PyData} {ds : List PyData} : Tr K H v d → TrAll K H vs ds → TrAll K H (v :: vs) (d :: ds)
end
/-- tuples are kept -/
def TKs (K : Frag) (H H' : Hp) : Prop := ∀ a xs, SqT K H a xs → SqT K H' a xs
theorem TKs.refl {K : Frag} (H : Hp) : TKs K H H := fun _ _ h => h
theorem TKs.trans {K : Frag} {H H1 H2 : Hp} (a : TKs K H H1) (b : TKs K H1 H2) : TKs K H H2 := fun c x h => b c x (a c x h)
theorem TKs.of {K : Frag} {H H' : Hp} (s : Same H H') : TKs K H H' := fun a xs h => by
  rcases h with (h | ⟨o, h⟩) | h
  · exact .inl (.inl (s _ _ h))
  · exact .inl (.inr ⟨o, s _ _ h⟩)
  · exact .inr h
theorem TKs.kp {K : Frag} {L : List Addr} {H H' : Hp} (k : Kp L H H') (hl : ∀ b ∈ L, ∃ xs, H b = some (.lst xs)) : TKs K H H' := fun a xs h => by
  have nm : ∀ o, H a = some o → (∀ ys, o ≠ .lst ys) → a ∉ L := fun o e n z => by
    obtain ⟨ys, ey⟩ := hl a z
    rw [ey] at e
    exact n ys (Option.some.inj e).symm
  rcases h with (h | ⟨o, h⟩) | h
  · exact .inl (.inl (k _ _ (nm _ h (fun _ z => by cases z)) h))
  · exact .inl (.inr ⟨o, k _ _ (nm _ h (fun _ z => by cases z)) h⟩)
  · exact .inr h
theorem TKs.lst {K : Frag} {H : Hp} {d : Addr} {xs ys : List V} (h : H d = some (.lst xs)) : TKs K H (upd H d (.lst ys)) :=
  TKs.kp (L := [d]) (fun b o m e => by rw [upd_ne (fun z => m (List.mem_singleton.mpr z))]; exact e) (fun b hb => by rw [List.mem_singleton.mp hb]; exact ⟨xs, h⟩)
mutual
theorem Tr.mono {K : Frag} {H H' : Hp} (k : TKs K H H') : ∀ {v : V} {d : PyData}, Tr K H v d → Tr K H' v d
  | _, _, .int i => .int i
  | _, _, .str x => .str x
  | _, _, .tup h t => .tup (k _ _ h) (TrAll.mono k t)
theorem TrAll.mono {K : Frag} {H H' : Hp} (k : TKs K H H') : ∀ {v : List V} {d : List PyData}, TrAll K H v d → TrAll K H' v d
  | _, _, .nil => .nil
  | _, _, .cons h t => .cons (Tr.mono k h) (TrAll.mono k t)
end
mutual
theorem Tr.dp {K : Frag} {H : Hp} : ∀ {v : V} {d : PyData}, Tr K H v d → Dp K H v d
  | _, _, .int i => .int i
  | _, _, .str x => .str x
  | _, _, .tup h t => .tup h (TrAll.dp t)
theorem TrAll.dp {K : Frag} {H : Hp} : ∀ {v : List V} {d : List PyData}, TrAll K H v d → DpAll K H v d
  | _, _, .nil => .nil
  | _, _, .cons h t => .cons (Tr.dp h) (TrAll.dp t)
end
theorem TrAll.len {K : Frag} {H : Hp} : ∀ {v : List V} {d : List PyData}, TrAll K H v d → v.length = d.length
  | _, _, .nil => rfl
  | _, _, .cons _ t => congrArg (· + 1) (TrAll.len t)
theorem TrAll.append {K : Frag} {H : Hp} : ∀ {v v' : List V} {d d' : List PyData}, TrAll K H v d → TrAll K H v' d' → TrAll K H (v ++ v') (d ++ d')
  | _, _, _, _, .nil, h => h
  | _, _, _, _, .cons h t, h' => .cons h (TrAll.append t h')
theorem TrAll.get {K : Frag} {H : Hp} : ∀ {v : List V} {d : List PyData} {i : Nat} {x : V}, TrAll K H v d → v[i]? = some x → ∃ y, d[i]? = some y ∧ Tr K H x y
  | _, _, i, x, .nil, h => by simp at h
  | _, _, 0, x, .cons h t, e => ⟨_, rfl, by cases e; exact h⟩
  | _, _, i + 1, x, .cons h t, e => by
    rw [List.getElem?_cons_succ] at e ⊢
    exact TrAll.get t e
theorem TrAll.snoc {K : Frag} {H : Hp} {v : List V} {d : List PyData} {x : V} (h : TrAll K H (v ++ [x]) d) : ∃ d' y, d = d' ++ [y] ∧ TrAll K H v d' ∧ Tr K H x y := by
  induction v generalizing d with
  | nil =>
    cases h with
    | cons a b => cases b; exact ⟨[], _, rfl, .nil, a⟩
  | cons u r ih =>
    cases h with
    | cons a b =>
      obtain ⟨d', y, rfl, h1, h2⟩ := ih b
      exact ⟨_ :: d', y, rfl, .cons a h1, h2⟩
/-! ### things, rows, stacks: depth, words in all, size -/
mutual
inductive Thg : Nat → Nat → Nat → PyData → Prop
  | num {k : Nat} (n : Int) (h0 : 0 ≤ n) (h1 : n < 10 ^ 12) : Thg k 0 1 (.tuple [.str "number", .int n])
  | row {k k' w m : Nat} {ws : List PyData} : Rw k w m ws → k < k' → Thg k' w (m + 1) (.tuple [.str "row", .tuple ws])
  | lst {k k' w m : Nat} {ts : List PyData} : Stk k w m ts → k < k' → Thg k' w (m + 1) (.tuple [.str "list", .tuple ts])
inductive Rw : Nat → Nat → Nat → List PyData → Prop
  | nil {k : Nat} : Rw k 0 0 []
  | txt {k w m : Nat} {z : Str} {ws : List PyData} : Tx z 100 → Rw k w m ws → Rw k (w + 1) (m + 1) (.str z :: ws)
  | push {k w m w' m' : Nat} {t : PyData} {ws : List PyData} : Thg k w m t → Rw k w' m' ws → Rw k (w + w' + 1) (m + m' + 1) (.tuple [.str "push", t] :: ws)
inductive Stk : Nat → Nat → Nat → List PyData → Prop
  | nil {k : Nat} : Stk k 0 0 []
  | cons {k w m w' m' : Nat} {t : PyData} {ts : List PyData} : Thg k w m t → Stk k w' m' ts → Stk k (w + w') (m + m') (t :: ts)
end
theorem Thg.up {k k' w m : Nat} {t : PyData} (h : Thg k w m t) (l : k ≤ k') : Thg k' w m t := by
  cases h with
  | num n h0 h1 => exact .num n h0 h1
  | row h q => exact .row h (Nat.lt_of_lt_of_le q l)
  | lst h q => exact .lst h (Nat.lt_of_lt_of_le q l)
theorem Rw.up {k k' : Nat} (l : k ≤ k') : ∀ {ws : List PyData} {w m : Nat}, Rw k w m ws → Rw k' w m ws
  | _, _, _, .nil => .nil
  | _, _, _, .txt h t => .txt h (Rw.up l t)
  | _, _, _, .push h t => .push (h.up l) (Rw.up l t)
theorem Stk.up {k k' : Nat} (l : k ≤ k') : ∀ {ws : List PyData} {w m : Nat}, Stk k w m ws → Stk k' w m ws
  | _, _, _, .nil => .nil
  | _, _, _, .cons h t => .cons (h.up l) (Stk.up l t)
theorem Rw.append {k : Nat} : ∀ {a b : List PyData} {w m w' m' : Nat}, Rw k w m a → Rw k w' m' b → Rw k (w + w') (m + m') (a ++ b)
  | _, _, _, _, _, _, .nil, h => by rw [Nat.zero_add, Nat.zero_add]; exact h
  | _, _, _, _, w', m', .txt (w := w) (m := m) h t, h' => by
    have := Rw.txt h (Rw.append t h')
    rw [show w + 1 + w' = w + w' + 1 by omega, show m + 1 + m' = m + m' + 1 by omega]
    exact this
  | _, _, _, _, w', m', .push (w := w) (m := m) (w' := x) (m' := y) h t, h' => by
    have := Rw.push h (Rw.append t h')
    rw [show w + x + 1 + w' = w + (x + w') + 1 by omega, show m + y + 1 + m' = m + (y + m') + 1 by omega]
    exact this
theorem Stk.append {k : Nat} : ∀ {a b : List PyData} {w m w' m' : Nat}, Stk k w m a → Stk k w' m' b → Stk k (w + w') (m + m') (a ++ b)
  | _, _, _, _, _, _, .nil, h => by rw [Nat.zero_add, Nat.zero_add]; exact h
  | _, _, _, _, _, _, .cons h t, h' => by
    rw [Nat.add_assoc, Nat.add_assoc]; exact .cons h (Stk.append t h')
theorem Stk.snoc {k : Nat} : ∀ {a : List PyData} {t : PyData} {w m : Nat}, Stk k w m (a ++ [t]) → ∃ w1 m1 w2 m2, Stk k w1 m1 a ∧ Thg k w2 m2 t ∧ w = w1 + w2 ∧ m = m1 + m2
  | [], t, w, m, h => by
    have h' : Stk k w m [t] := h
    cases h' with
    | cons a b => cases b; exact ⟨0, 0, _, _, .nil, a, by omega, by omega⟩
  | x :: r, t, w, m, h => by
    have h' : Stk k w m (x :: (r ++ [t])) := h
    cases h' with
    | cons a q =>
      obtain ⟨w1, m1, w2, m2, a', b, rfl, rfl⟩ := Stk.snoc q
      exact ⟨_, _, w2, m2, .cons a a', b, by omega, by omega⟩
theorem Thg.pos {k w m : Nat} {t : PyData} (h : Thg k w m t) : 1 ≤ m := by
  cases h <;> omega
theorem Stk.len {k : Nat} : ∀ {a : List PyData} {w m : Nat}, Stk k w m a → a.length ≤ m
  | _, _, _, .nil => Nat.le_refl 0
  | _, _, _, .cons h t => by
    have h1 := Stk.len t
    have h2 := h.pos
    rw [List.length_cons]; omega
theorem Rw.len {k : Nat} : ∀ {a : List PyData} {w m : Nat}, Rw k w m a → a.length ≤ m
  | _, _, _, .nil => Nat.le_refl 0
  | _, _, _, .txt h t => by have := Rw.len t; rw [List.length_cons]; omega
  | _, _, _, .push h t => by have := Rw.len t; rw [List.length_cons]; omega
theorem Rw.at_ {k : Nat} : ∀ {ws : List PyData} {w m i : Nat} {d : PyData}, Rw k w m ws → ws[i]? = some d → (∃ z, d = .str z) ∨ (∃ t, d = .tuple [.str "push", t])
  | _, _, _, i, d, .nil, h => by simp at h
  | _, _, _, 0, d, .txt (z := z) h t, e => .inl ⟨z, by cases e; rfl⟩
  | _, _, _, 0, d, .push (t := t) h _, e => .inr ⟨t, by cases e; rfl⟩
  | _, _, _, i + 1, d, .txt h t, e => Rw.at_ t e
  | _, _, _, i + 1, d, .push h t, e => Rw.at_ t e
theorem mid {n : Nat} (h : n ≤ 1000000) : n ≤ sizeLine := Nat.le_trans h (by decide)
theorem midlt {n : Nat} (h : n < 1000000) : n < sizeLine := Nat.lt_of_lt_of_le h (by decide)
theorem tyTup {K : Frag} {H : Hp} {a : Addr} {xs : List V} (h : SqT K H a xs) : TyX K H (.ref a) (.type "tuple") := by
  rcases h with (h | ⟨o, h⟩) | ⟨o, _, _, e, c, _⟩
  · exact .base (.tup h)
  · exact .fTuple h
  · exact .kTuple e c
mutual
theorem Thg.lay : ∀ {k w m : Nat} {t : PyData}, Thg k w m t → PyData.canLay0 t = true ∧ PyData.depth t ≤ 3 * k + 1
  | k, _, _, _, .num n h0 h1 => ⟨by show (PyData.canLay0 (.str "number") && (true && true)) = true; decide +kernel, Nat.le_add_left 1 _⟩
  | k', _, _, _, .row (k := k) (ws := ws) h l => by
    obtain ⟨a, b⟩ := Rw.lay h
    refine ⟨?_, ?_⟩
    · show (PyData.canLay0 (.str "row") && (PyData.canLayAll0 ws && true)) = true
      rw [a]; decide +kernel
    · show max 0 (max (PyData.depthAll ws + 1) 0) + 1 ≤ _
      omega
  | k', _, _, _, .lst (k := k) (ts := ts) h l => by
    obtain ⟨a, b⟩ := Stk.lay h
    refine ⟨?_, ?_⟩
    · show (PyData.canLay0 (.str "list") && (PyData.canLayAll0 ts && true)) = true
      rw [a]; decide +kernel
    · show max 0 (max (PyData.depthAll ts + 1) 0) + 1 ≤ _
      omega
theorem Rw.lay : ∀ {k w m : Nat} {ws : List PyData}, Rw k w m ws → PyData.canLayAll0 ws = true ∧ PyData.depthAll ws ≤ 3 * k + 2
  | k, _, _, _, .nil => ⟨rfl, Nat.zero_le _⟩
  | k, _, _, _, .txt (z := z) (ws := ws) h t => by
    obtain ⟨a, b⟩ := Rw.lay t
    refine ⟨?_, ?_⟩
    · show (z.cps.all (· < 0x110000) && PyData.canLayAll0 ws) = true
      rw [a, Bool.and_true, ← Array.all_toList, List.all_eq_true]
      intro c hc
      exact decide_eq_true (h.ch c hc)
    · show max 0 (PyData.depthAll ws) ≤ _
      omega
  | k, _, _, _, .push (t := t) (ws := ws) h r => by
    obtain ⟨a, b⟩ := Rw.lay r
    obtain ⟨a', b'⟩ := Thg.lay h
    refine ⟨?_, ?_⟩
    · show ((PyData.canLay0 (.str "push") && (PyData.canLay0 t && true)) && PyData.canLayAll0 ws) = true
      rw [a, a']; decide +kernel
    · show max (max 0 (max (PyData.depth t) 0) + 1) (PyData.depthAll ws) ≤ _
      omega
theorem Stk.lay : ∀ {k w m : Nat} {ts : List PyData}, Stk k w m ts → PyData.canLayAll0 ts = true ∧ PyData.depthAll ts ≤ 3 * k + 1
  | k, _, _, _, .nil => ⟨rfl, Nat.zero_le _⟩
  | k, _, _, _, .cons (t := t) (ts := ts) h r => by
    obtain ⟨a, b⟩ := Stk.lay r
    obtain ⟨a', b'⟩ := Thg.lay h
    refine ⟨?_, ?_⟩
    · show (PyData.canLay0 t && PyData.canLayAll0 ts) = true
      rw [a, a']; rfl
    · show max (PyData.depth t) (PyData.depthAll ts) ≤ _
      omega
end
theorem Stk.shaped {k w m : Nat} {ts : List PyData} (h : Stk k w m ts) (l : k ≤ 20) : SeqAt.shaped (.list ts) = true := by
  obtain ⟨a, b⟩ := h.lay
  show (PyData.canLayAll0 ts && decide (PyData.depthAll ts + 1 ≤ 64)) = true
  rw [a, Bool.true_and]; exact decide_eq_true (by omega)
end Cm
namespace Cm
open PySem PySem.W L2 SX
theorem Tr.tupD {K : Frag} {H : Hp} {v : V} {ds : List PyData} (h : Tr K H v (.tuple ds)) : ∃ a xs, v = .ref a ∧ SqT K H a xs ∧ TrAll K H xs ds := by
  cases h with
  | tup h t => exact ⟨_, _, rfl, h, t⟩
end Cm
namespace Cm
open PySem PySem.W L2 SX
/-! ### maps: what stays lowest -/
/-- the thing c stays where it is and stands nowhere behind -/
def Stays (ps : List Int) (c : Nat) : Prop := ps[c]? = some (c : Int) ∧ (c : Int) ∉ ps.drop (c + 1)
/-- as many as c may be cut -/
def IsCut (ps : List Int) (c : Nat) : Prop := (∀ j, j < c → Stays ps j) ∧ ¬ Stays ps c
def cutM (c : Nat) (ps : List Int) : List Int := (ps.drop c).map fun p => p - (c : Int)
theorem IsCut.uniq {ps : List Int} {c d : Nat} (a : IsCut ps c) (b : IsCut ps d) : c = d := by
  rcases Nat.lt_trichotomy c d with h | h | h
  · exact absurd (b.1 c h) a.2
  · exact h
  · exact absurd (a.1 d h) b.2
theorem Stays.lt {ps : List Int} {c : Nat} (h : Stays ps c) : c < ps.length := by
  have := h.1
  exact (List.getElem?_eq_some_iff.mp this).1
theorem count_stays {ps : List Int} {c : Nat} (h : ∀ j, j < c → Stays ps j) (hc : ps[c]? = some (c : Int)) : ps.count (c : Int) = 1 ↔ (c : Int) ∉ ps.drop (c + 1) := by
  have e : ps = ps.take c ++ ((c : Int) :: ps.drop (c + 1)) := by
    obtain ⟨h1, h2⟩ := List.getElem?_eq_some_iff.mp hc
    rw [← h2, List.getElem_cons_drop, List.take_append_drop]
  have e0 : (ps.take c).count (c : Int) = 0 := by
    rw [List.count_eq_zero]
    intro z
    obtain ⟨i, hi⟩ := List.mem_iff_getElem?.mp z
    rw [List.getElem?_take] at hi
    by_cases hl : i < c
    · rw [if_pos hl, (h i hl).1] at hi
      have := Option.some.inj hi
      omega
    · rw [if_neg hl] at hi; cases hi
  have : ps.count (c : Int) = (ps.drop (c + 1)).count (c : Int) + 1 := by
    conv => lhs; rw [e]
    rw [List.count_append, e0, List.count_cons_self]; omega
  rw [this]
  constructor
  · intro q
    exact List.count_eq_zero.mp (by omega)
  · intro q
    rw [List.count_eq_zero.mpr q]
theorem in_ints (c : Int) : ∀ ns : List Int, inV (.int c) (ns.map V.int) = decide (c ∈ ns)
  | [] => rfl
  | n :: r => by
    have ih : ((r.map V.int).any fun y => eqV y (.int c)) = decide (c ∈ r) := in_ints c r
    show ((n == c) || (r.map V.int).any fun y => eqV y (.int c)) = _
    rw [ih]
    by_cases h : n = c
    · subst h
      rw [beq_self_eq_true, Bool.true_or, decide_eq_true (List.mem_cons_self ..)]
    · rw [show (n == c) = false from beq_eq_false_iff_ne.mpr h, Bool.false_or]
      congr 1
      refine propext ⟨fun m => List.mem_cons_of_mem _ m, fun m => ?_⟩
      rcases List.mem_cons.mp m with z | z
      · exact absurd z.symm h
      · exact z
theorem flat_ints : ∀ ns : List Int, (ns.map V.int).all flatV = true
  | [] => rfl
  | n :: r => by
    show (true && (r.map V.int).all flatV) = true
    rw [flat_ints r]; rfl
/-- a map as data: a number and a tuple of numbers -/
def mapD (n : Int) (ps : List Int) : PyData := .tuple [.int n, .tuple (ps.map PyData.int)]
/-- a map stands at p -/
def MapAt (K : Frag) (H : Hp) (p : Addr) (n : Int) (ps : List Int) : Prop := ∃ t, SqT K H p [.int n, .ref t] ∧ SqT K H t (ps.map V.int)
/-! ### rules -/
theorem Same.seqT {K : PySem.W.Frag} {H H' : Hp} {a : Addr} {xs : List V} (e : Same H H') (h : SqT K H a xs) : SqT K H' a xs := by
  rcases h with (h | ⟨o, h⟩) | h
  · exact .inl (.inl (e _ _ h))
  · exact .inl (.inr ⟨o, e _ _ h⟩)
  · exact .inr h
theorem MapAt.same {K : Frag} {H H' : Hp} {p : Addr} {n : Int} {ps : List Int} (h : MapAt K H p n ps) (s : Same H H') : MapAt K H' p n ps := by
  obtain ⟨t, h1, h2⟩ := h
  exact ⟨t, Same.seqT s h1, Same.seqT s h2⟩
theorem MapAt.dp {K : Frag} {H : Hp} {p : Addr} {n : Int} {ps : List Int} (h : MapAt K H p n ps) : Dp K H (.ref p) (mapD n ps) := by
  obtain ⟨t, h1, h2⟩ := h
  exact .tup h1 (.cons (.int _) (.cons (.tup h2 (dp_ints ps)) .nil))
section
variable {X : Cx}
def rCntT (K : PySem.W.Frag) : V → List V → Hp → VK → Prop := fun x xs H Q => ∃ (p : Addr) (ns : List Int) (k : Int), x = .ref p ∧ xs = [.int k] ∧ SqT K H p (ns.map V.int) ∧ Q (.int (ns.count k : Nat)) H
theorem mt_tcount : MtR X "tuple.count" (rCntT X.K) := by
  intro pins s σ H x xs v us Q I rx rxs h
  obtain ⟨p, ns, k, rfl, rfl, hs, q⟩ := h
  cases rx
  obtain ⟨u, rfl, ru⟩ := rxs.one
  obtain ⟨t, rfl⟩ := ru
  obtain ⟨its, rv, ⟨⟨cls, dd, data, sl⟩, ho, hc, n, hd⟩, hlen⟩ := I.tuple hs
  simp only at hc hd
  subst hc hd
  have hi := ints_of_vals rv
  refine call_meets PySem.F.slot_tuple_count ⟨_, ho, rfl⟩ PySem.F.entry_tuple_count (PySem.F.args_tuple_count_2 _ _)
    (SeqAt.tuple_countAt p its.toArray n dd sl (.int k t) (eqk k)) ⟨ho, fun y hy => (eqk_gives hi y (by simpa using hy)).at _ _, ?_⟩
  have ec : its.toArray.toList.countP (eqk k) = ns.count k := eqk_count hi
  refine ⟨.int (ns.count k : Nat), H, I.tok _, ⟨s.toks, ?_⟩, q⟩
  show Value.int ((its.toArray.toList.countP (eqk k) : Nat) : Int) s.toks = Value.int ((ns.count k : Nat) : Int) s.toks
  rw [ec]
end
/-! ### a tuple's method: the tuple is kept as the object that was made, which has no dict -/
/-- a tuple of xs stands at p, as an object without a dict -/
def TupO (H : Hp) (p : Addr) (xs : List V) : Prop := ∃ o : Obj, o.dict = none ∧ H p = some (.frz o (.tup xs))
theorem TupO.same {H H' : Hp} {p : Addr} {xs : List V} (h : TupO H p xs) (s : Same H H') : TupO H' p xs := by
  obtain ⟨o, d, h⟩ := h
  exact ⟨o, d, s _ _ h⟩
theorem TupO.kp {H H' : Hp} {d p : Addr} {xs ys : List V} (h : TupO H p xs) (hd : H d = some (.lst ys)) (s : Kp [d] H H') : TupO H' p xs := by
  obtain ⟨o, e, h⟩ := h
  exact ⟨o, e, s p _ (fun z => by rw [List.mem_singleton.mp z, hd] at h; cases h) h⟩
section
open PySem.Spec PyProof.Rows
variable {X : Cx}
theorem call_tuple_ofD : CallR X (.type "tuple") (fun xs H Q => ∃ p ys, xs = [.ref p] ∧ SqL X.K H p ys ∧ ∀ (l : Addr) (o : Obj), H l = none → o.dict = none → Q (.ref l) (upd H l (.frz o (.tup ys)))) := by
  intro pins s σ H xs us Q I r h
  obtain ⟨p, ys, rfl, hq, q⟩ := h
  obtain ⟨u, rfl, rx⟩ := r.one
  cases rx
  obtain ⟨its, r', pl, hz⟩ := I.list hq
  have hlen := r'.length
  refine call_tuple_list pl.isList (fun h' kp => ?_) (by simp only [List.size_toArray] <;> omega)
  have I1 : Inv X pins σ H { s with heap := h' } := I.kept (t' := s.toks) kp
  have I2 : Inv X pins σ (upd H h'.objs.size (.frz { cls := .type "tuple", data := .seq its.toArray } (.tup ys))) { s with heap := h'.push { cls := .type "tuple", data := .seq its.toArray } } :=
    I1.laid (t' := s.toks) (fun b o e => Heap.get?_push_of_some _ e) (Nat.le_refl _) (show ObjOk X.prog X.w _ _ _ (.frz { cls := .type "tuple", data := .seq its.toArray } (.tup ys)) from ⟨Heap.get?_push_size _ rfl, hz, its, r', IsTup.new _ _⟩)
  exact ⟨.ref h'.objs.size, _, I2, rfl, q _ _ (I1.hok.fresh (Nat.le_refl _)) rfl⟩
def tBMT (r : V → List V → Hp → VK → Prop) (to : TE) (t : TA) : TE := fun σ H Q => to σ H fun x H1 => (∃ p ys, x = .ref p ∧ TupO H1 p ys) ∧ t σ H1 fun xs H2 => r x xs H2 Q
variable {o e : Expr} {es : List Expr} {to : TE} {t : TA} {name : Str} {apos cpos : Pos} {id : String} {r : V → List V → Hp → VK → Prop}
theorem pe_bmT (slot : Slot "tuple" name id) (hty : typeOf (.builtin id) = pure (.type "method_descriptor")) (hm : MtR X id r) (ho : PE X o to) (ha : PA X (e :: es) t)
    (hbase : attributeBase o name X.env (eval o X.env) = eval o X.env := by rfl)
    (hfew : ((backTo cpos (starEach (e :: es) X.env)).all (fun x => !x.1) && (backToKw cpos (keywordEach [] X.env)).all (fun x => x.1.isSome)
      && decide ((e :: es).length + ([] : List Keyword).length + (if ([] : List Keyword).isEmpty then 0 else 1) < 30)) = true := by rfl)
    (hline : (apos.endLine == cpos.line) = true := by rfl) (hs : starEach (e :: es) X.env = (false, eval e X.env) :: starEach es X.env := by rfl) (hplain : (backTo cpos (starEach es X.env)).any (·.1) = false := by rfl) :
    PE X (.Call (.Attribute o name apos) (e :: es) [] cpos) (tBMT r to t) := by
  refine ⟨fun pins s σ H Q I h => ?_⟩
  refine wpAny_Call_method_late hbase hfew hline rfl (thn (ho.run pins s σ H _ I h) fun v s1 ⟨x, H1, I1, r1, ty, q1⟩ => ?_)
  obtain ⟨p, ys, ex, ob, hd, hp⟩ := ty
  subst ex
  obtain rfl : v = Value.ref p := r1
  obtain ⟨hg, ho2⟩ := I1.hok p _ hp
  obtain ⟨_, its, rv, ob', hg', hc, _⟩ := ho2
  have e1 : ob = ob' := Option.some.inj (hg.symm.trans hg')
  subst e1
  refine ⟨"tuple", id, PySem.F.plainAttrs_tuple, slot, hty, ⟨ob, hg, hc⟩, fun a e => ?_, ?_⟩
  · cases e
    exact ⟨ob, hg, hd⟩
  have hA := ha.run cpos pins s1 σ H1 _ I1 q1
  rw [hs] at hA ⊢
  refine Calls.callWith_builtin (by show (false || (backTo cpos (starEach es X.env)).any (·.1)) = false; rw [hplain] <;> rfl) (Calls.evalArgs_plain ?_)
  exact thn hA fun us s2 ⟨vs, H2, I2, r2, q2⟩ => hm pins s2 σ H2 (.ref p) vs (.ref p) us Q I2 rfl r2 q2
end
end Cm
/-! xs == [] of any list, and t[::-1] of a tuple -/
namespace PySem.SeqAt
open AutoSeq1 (wpAny_loadPart')
open MeetsSeq MeetsSeq2 MeetsSeq3 SeqRoads2
section
variable {prog : Program} {w : World}
theorem cm_list_neIn (l b : Addr) (items items2 : Array Value) (n n2 : Nat) (dd dd2 : Option Addr) (sl sl2 : Array (Option Value)) (hsz : items.size ≠ items2.size) :
    MeetsIn prog w (Builtin.«list.__eq__» ⟨[.ref l, .ref b], []⟩)
      (fun A R s => s.heap.get? l = some { cls := .type "list", dict := dd, data := .seq items n, slots := sl } ∧ s.heap.get? b = some { cls := .type "list", dict := dd2, data := .seq items2 n2, slots := sl2 } ∧
        R (.ok (.ret (.bool false))) s) := by
  intro A R s h
  obtain ⟨hp, g, d, tk, os⟩ := s; obtain ⟨hl, hb, h⟩ := h
  have f3 := AutoSeq1.sub_list_list
  have hne : (items.size != items2.size) = true := by simp [hsz]
  wp_walk using wpAny_loadPart' hl, wpAny_loadPart' hb
  exact h
theorem cm_rcP_ne {A : Around} {s : Shared} {l b : Addr} {items items2 : Array Value} (hl : s.heap.IsList l items) (hb : s.heap.IsList b items2) (hsz : items.size ≠ items2.size) (hu : A.units < cLine)
    (E Q : Value → Shared → Prop) (h : Q (.bool false) s) : wpAny (model prog w) A (richCompare .Eq (.ref l) (.ref b)) Q E s := by
  obtain ⟨⟨cls, dd, data, sl⟩, ho, hc, n, hd⟩ := id hl
  obtain ⟨⟨cls2, dd2, data2, sl2⟩, ho2, hc2, n2, hd2⟩ := id hb
  simp only at hc hd hc2 hd2
  subst hc hd hc2 hd2
  have ta : s.TypeIs (.ref l) "list" := ⟨_, ho, rfl⟩
  have tb : s.TypeIs (.ref b) "list" := ⟨_, ho2, rfl⟩
  exact wpAny_richCompare_same_room (op := .Eq) ta tb F.slot_list_eq (call_meetsIn F.slot_list_eq ta F.entry_list_eq (F.args_list_eq_2 _ _) (cm_list_neIn l b items items2 n n2 dd dd2 sl sl2 hsz)
    ⟨ho, ho2, show Value.bool false ≠ Value.notImplemented ∧ Q (.bool false) s from ⟨(fun x => nomatch x), h⟩⟩) hu
end
end PySem.SeqAt
namespace Cm
open PySem PySem.Spec PyProof.Rows PySem.W L2 SX
section
variable {X : Cx}
/-- xs == [] -/
def rEqNil (K : Frag) : R2 := fun x y H Q => ∃ a b xs, x = .ref a ∧ y = .ref b ∧ SqL K H a xs ∧ SqL K H b [] ∧ Q (.bl xs.isEmpty) H
theorem op_eqNil (hu : X.A.units + 64 < cLine) : OpR X (compareOp .Eq) (rEqNil X.K) := by
  intro pins s σ H x y v u Q I rx ry h
  obtain ⟨a, b, xs, rfl, rfl, ha, hb, q⟩ := h
  cases rx
  cases ry
  obtain ⟨us, r1, p1, _⟩ := I.list ha
  obtain ⟨ws, r2, p2, _⟩ := I.list hb
  cases r2
  cases r1 with
  | nil =>
    refine SeqAt.rcP_lists (e := fun _ => true) p1.isList p2.isList rfl (by omega) (fun j h1 h2 => ?_) _ _ ⟨.bl true, H, I, rfl, q⟩
    exact absurd h1 (Nat.not_lt_zero j)
  | cons h t =>
    refine SeqAt.cm_rcP_ne p1.isList p2.isList (by simp) (by omega) _ _ ⟨.bl false, H, I, rfl, q⟩
end
end Cm
namespace Cm
open PySem PySem.Spec PyProof.Rows PySem.W L2 SX
end Cm
namespace Cm
open PySem PySem.Spec PyProof.Rows PySem.W L2 SX
section
variable {X : Cx}
/-- t == () -/
def rEqNilT (K : Frag) : R2 := fun x y H Q => ∃ a b xs, x = .ref a ∧ y = .ref b ∧ SqT K H a xs ∧ SqT K H b [] ∧ Q (.bl xs.isEmpty) H
theorem op_eqNilT (hu : X.A.units + 64 < cLine) : OpR X (compareOp .Eq) (rEqNilT X.K) := by
  intro pins s σ H x y v u Q I rx ry h
  obtain ⟨a, b, xs, rfl, rfl, ha, hb, q⟩ := h
  cases rx
  cases ry
  obtain ⟨us, r1, p1, _⟩ := I.tuple ha
  obtain ⟨ws, r2, p2, _⟩ := I.tuple hb
  cases r2
  have e : xs.isEmpty = ((List.range (min us.toArray.size (#[] : Array Value).size)).all (fun _ => true) && us.toArray.size == (#[] : Array Value).size) := by
    cases r1 with
    | nil => rfl
    | cons h t => rw [List.size_toArray]; rfl
  rw [e] at q
  obtain ⟨⟨cls, dd, data, sl⟩, ho, hc, n, hd⟩ := id p1
  obtain ⟨⟨cls2, dd2, data2, sl2⟩, ho2, hc2, n2, hd2⟩ := id p2
  simp only at hc hd hc2 hd2
  subst hc hd hc2 hd2
  refine richCompare_meets_room (op := .Eq) ⟨_, ho, rfl⟩ ⟨_, ho2, rfl⟩ F.slot_tuple_eq F.entry_tuple_eq (F.args_tuple_eq_2 _ _) (SeqAt.tuple_eqAt a b us.toArray #[] n n2 dd dd2 sl sl2 (fun _ => true)) ?_ (by omega)
  exact ⟨ho, ho2, (fun j h1 h2 => absurd h2 (Nat.not_lt_zero j)), (fun z => nomatch z), ⟨.bl _, H, I, rfl, q⟩⟩
end
end Cm
namespace Cm
open PySem PySem.W L2 SX
/-! ### isinstance of a caught error, its class and dict told by the reading -/
/-- isinstance(e, (c1, ..)) -/
def rIsEt (K : PySem.W.Frag) (D a : Addr) (cls : Value) (d : Option Addr) : List V → Hp → VK → Prop := fun xs H Q => cls = .ref D ∧ d = none ∧
  ∃ (tp : Addr) (cs : List V) (us : List Value) (b : Bool), xs = [.ref a, .ref tp] ∧ H tp = some (.tup cs) ∧ Paired ClsV cs us ∧ PySem.W.kitAny K (.ref D) us = some b ∧ Q (.bl b) H
section
open PySem.Spec PyProof.Rows
variable {X : Cx} {a D : Addr} {oe : Obj} {cls : Value} {d : Option Addr} {pn : List (Addr × Obj)}
theorem call_isEt (C : ExcC X.K D) (hz : Zc cls d oe) (hf : ∃ vs, oe.data = .fields vs) : CallR (X.suite a ((a, oe) :: pn)) (.builtin "isinstance") (rIsEt X.K D a cls d) := by
  intro pins s σ H xs us Q I r h
  obtain ⟨rfl, rfl, tp, cs, ws, b, rfl, hT, k, e, q⟩ := h
  obtain ⟨u1, u2, rfl, r1, r2⟩ := r.two
  cases r1
  cases (show u2 = Value.ref tp from r2)
  obtain ⟨hget, _⟩ := I.pin (a, oe) (List.mem_append.mpr (.inl List.mem_cons_self))
  obtain ⟨vs, hv⟩ := hf
  have J : PySem.W.InstAt s.heap a oe D none := by
    obtain ⟨oc, od, oda, osl⟩ := oe
    obtain ⟨h1, h2⟩ := hz
    dsimp only at h1 h2 hv
    subst h1 h2 hv
    exact ⟨hget, rfl, rfl, trivial⟩
  obtain ⟨_, its, rv, o, h1, h2, n, h3⟩ := (show ObjOk X.prog X.w H s.heap tp (.tup cs) from I.hok tp _ hT)
  have e3 := ClsV.all k rv
  subst e3
  obtain ⟨oc, od, dt, sl⟩ := o
  simp only at h2 h3
  subst h2 h3
  exact PySem.W.kia_tup (PySem.W.handS_kitx_exc C.hg C.hk C.hs C.hd C.ha C.hn C.ht C.hm) I.kIn J h1 e (fun z => nomatch z) fun tk => ⟨.bl b, H, I.kept (t' := tk) fun _ _ z => z, rfl, q⟩
end
end Cm
/-! an error that is caught and held beyond its suite: behind the suite its place is told by what its object is -/
namespace Cm
open PySem PySem.W L2 SX
/-- an error of the class cls, with the dict d, stands at a -/
def ExcAt (a : Addr) (cls : Value) (d : Option Addr) : Heap → Prop := fun h => ∃ oe vs, h.get? a = some oe ∧ Zc cls d oe ∧ oe.data = .fields vs
def eOb (a : Addr) (cls : Value) (d : Option Addr) : HO := .ext (ExcAt a cls d)
theorem eOb_ok {P : Program} {w : World} {H : Hp} {h : Heap} {a : Addr} {cls : Value} {d : Option Addr} {oe : Obj} {vs : Array Value} (e : h.get? a = some oe) (z : Zc cls d oe) (f : oe.data = .fields vs) : ObjOk P w H h a (eOb a cls d) :=
  ⟨⟨oe, vs, e, z, f⟩, ⟨oe, e⟩, fun h1 h2 ⟨o1, v1, e1, z1, f1⟩ k => ⟨o1, v1, k _ e1, z1, f1⟩⟩
section
open PySem.Spec PyProof.Rows
variable {X : Cx} {pins : List (Addr × Obj)} {σ : L2.St} {H : Hp} {s : Shared}
/-- what was not told is told from now on -/
theorem track {a : Addr} {o : HO} (I : Inv X pins σ H s) (na : H a = none) (h0 : ∀ u, X.s_0.heap.get? a = some u → a ∈ X.ex) (nL : a ≠ X.env.locals) (nC : ∀ x c, X.env.cells.lookup x = some c → c ≠ a) (np : ∀ p ∈ X.pn ++ pins, p.1 ≠ a)
    (new : ObjOk X.prog X.w (upd H a o) s.heap a o) : Inv X pins σ (upd H a o) s where
  ok := I.ok
  os := I.os
  bare := I.bare
  base :=
    { keep := I.base.keep
      slot := I.base.slot
      free := fun b u e n hx => by
        by_cases hb : b = a
        · subst hb; exact absurd (h0 u e) hx
        · rw [upd_ne hb]; exact I.base.free b u e n hx
      there := I.base.there
      tups := fun b xs q => by rw [upd_ne (ne_of_none (I.base.tups b xs q) na)]; exact I.base.tups b xs q
      frzs := fun b u x q => by rw [upd_ne (ne_of_none (I.base.frzs b u x q) na)]; exact I.base.frzs b u x q
      tbls := fun b ps q => by
        obtain ⟨more, hm⟩ := I.base.tbls b ps q
        exact ⟨more, by rw [upd_ne (ne_of_none hm na)]; exact hm⟩ }
  loc := I.loc
  cell := I.cell
  free := by rw [upd_ne nL.symm]; exact I.free
  freeC := fun x c e => by rw [upd_ne (nC x c e)]; exact I.freeC x c e
  pin := fun p hp => by
    obtain ⟨h1, h2, h3⟩ := I.pin p hp
    exact ⟨h1, by rw [upd_ne (np p hp)]; exact h2, h3⟩
  hok := fun b u e => by
    by_cases hb : b = a
    · subst hb; rw [upd_same] at e; cases e; exact new
    · rw [upd_ne hb] at e
      exact (I.hok b u e).stay (fun _ _ _ q => q) (fun c q => by rw [upd_ne (ne_of_none q na)]; exact q) fun c xs q => by rw [upd_ne (ne_of_none q na)]; exact q
  len := I.len
/-- what the clause wishes of an error of the body: as in wAs, and behind the suite the error stays told -/
def wHold (K : PySem.W.Frag) (c : Value) (i : Nat) (ts : Addr → Value → Option Addr → TS) (Wout : WX) (D : Ends) : WX := fun cls d σ H =>
  ∃ b, PySem.W.exmOne K cls c = some b ∧ (b = true → ∀ a, H a = none → ts a cls d { nx := fun σ' H' => H' a = none → D.nx (σ'.set i none) (upd H' a (eOb a cls d)), rt := D.rt, bk := fun σ' H' => D.bk (σ'.set i none) H', ct := fun σ' H' => D.ct (σ'.set i none) H' } (σ.set i (some (.ref a))) H) ∧ (b = false → Wout cls d σ H)
variable {x n : Str} {c : Value} {i : Nat} {body suite : List Stmt} {b₀ : Stmt} {np pos pos' : Pos} {tb : WX → TS} {ts : Addr → Value → Option Addr → TS} {Wout : WX}
theorem ps_try_hold (hs : X.stack = X.env :: X.outer) (hf : X.env.frame = some X.env.locals) (hN : X.N.Nodup) (hi : X.N[i]? = some n) (hln : X.env.kindOf n = some .local) (hc : Names X x c) (tk : Takes X Wout)
    (hb : ∀ (W : WX) (pn : List (Addr × Obj)) (xe : Value → Shared → Prop), Takes (X.tr pn xe) W → PassesOwn (model X.prog X.w) X.A X.env xe → PSs (X.tr pn xe) body (tb W)) (hsu : ∀ (a : Addr) (oe : Obj) (cls : Value) (d : Option Addr) (pn : List (Addr × Obj)), Zc cls d oe → (∃ vs, oe.data = .fields vs) → PSs (X.suite a ((a, oe) :: pn)) (b₀ :: suite) (ts a cls d)) :
    PS X (.Try body [.ExceptHandler (some (.Name x np)) (some n) (b₀ :: suite) pos'] [] [] pos) (fun D σ H => tb (wHold X.K c i ts Wout D) D σ H) := by
  refine ⟨fun pins s σ H D I h => ?_⟩
  have ok := I.ok
  have frm : X.A.frames = some (X.env :: X.outer) := by rw [ok.frames, hs]
  refine wpAny_Try_except (wpAny_mono ((hb (wHold X.K c i ts Wout D) (X.pn ++ pins) (fun e s₁ => wpAny (model X.prog X.w) X.A (noteFrame e X.env) (fun _ s₂ => wpAny (model X.prog X.w) X.A (setFlight e none) (fun _ s₃ => wpAny (model X.prog X.w) X.A (handleBy e X.env [.ExceptHandler (some (.Name x np)) (some n) (b₀ :: suite) pos']) (SP X pins D) X.xe s₃) X.xe s₂) X.xe s₁) (fun u s' xx => ?_) PassesOwn.looking).run [] s σ H D (I.toTry _) h) (fun f s1 hsp => ?_) (fun e s1 he => he))
  · obtain ⟨a, B, sI, pins', σ', H', cls, d, rfl, JT, nb, up, sky, na, os, ag, b, hb1, hyes, hno⟩ := xx
    have J : Inv X pins σ' H' sI := JT.ofTry ok
    have sk : Sky B (X.env :: X.outer) a (Zc cls d) X.env.locals s'.heap := by rw [← hs]; exact sky
    show wpAny (model X.prog X.w) X.A (noteFrame (.ref a) X.env) _ _ _
    refine Sky.land Zc.steady frm hf sk fun h3 fl3 up3 => ?_
    have J3 : Inv X pins σ' H' { s' with heap := h3 } := J.landed nb fl3.1 (up.trans up3) os ag
    obtain ⟨oe3, vs3, he3, hz3, hd3⟩ := fl3.there
    have nfr : a ∉ frs (X.env :: X.outer) := fun hm => by
      obtain ⟨_, o', e', hnf⟩ := fl3.2.2.1.mem hm
      rw [he3] at e'; cases e'; exact hnf _ hd3
    have nL : a ≠ X.env.locals := fun z => nfr (List.mem_filterMap.mpr ⟨X.env, List.mem_cons_self, by rw [hf, z]⟩)
    have nF : a ∉ X.fs := fun hm => by
      obtain ⟨e, he, q⟩ := List.mem_filterMap.mp hm; exact nfr (List.mem_filterMap.mpr ⟨e, List.mem_cons_of_mem _ he, q⟩)
    have nI : ∀ u, sI.heap.get? a = some u → False := fun u e => by
      have q := nb a u e (by rw [hs]; exact nfr)
      rw [fl3.2.1] at q; cases q
    have h0 : ∀ u, X.s_0.heap.get? a = some u → a ∈ X.ex := fun u e => Classical.byContradiction fun hx => by
      obtain ⟨o', e'⟩ := J.base.there a u e hx; exact nI _ e'
    have nC : ∀ x c, X.env.cells.lookup x = some c → c ≠ a := fun x c e z => by
      obtain ⟨v, o, e', _⟩ := J.cell x c e; rw [z] at e'; exact nI _ e'
    have nP : ∀ p ∈ X.pn ++ pins, p.1 ≠ a := fun p hp z => by
      have e' := (J.pin p hp).1; rw [z] at e'; exact nI _ e'
    have S3 := J3.suite he3 hd3 na nL nF
    refine wpAny_handleBy_cons (codeAny_handlers_test ?_) (by intro q; cases q)
    have LT : PySem.W.Looks (model X.prog X.w) h3 (typeOf (.ref a)) cls := fun A Q E s k q => wpAny_typeOf_ref (k _ _ he3) (by rw [hz3.1]; exact q)
    have LM := PySem.W.exm_one (M := model X.prog X.w) (J3.kIn) LT hb1
    have test : ∀ {Q : Value → Shared → Prop} {E : Value → Shared → Prop}, Q c { s' with heap := h3 } → wpAny (model X.prog X.w) (X.A.mark (some (.ref a))) (eval (.Name x np) X.env) Q E { s' with heap := h3 } := fun {Q E} q => by
      obtain ⟨hg, hdbg, hm | ⟨hm, hv, hnn⟩⟩ := hc
      · exact ld_glob (X := X.suite a ((a, oe3) :: (X.pn ++ pins))) S3 hg hm q hdbg
      · exact ld_blt (X := X.suite a ((a, oe3) :: (X.pn ++ pins))) S3 hg hm hv q hnn hdbg
    refine test (LM.here ?_)
    cases b with
    | true =>
      refine codeAny_handlers_suite_as (HandSPX.lands_againZ fl3 fun h4 fl4 up4 => ?_)
      have J4 : Inv X pins σ' H' { s' with heap := h4 } := J.landed nb fl4.1 ((up.trans up3).trans up4) os ag
      obtain ⟨oe4, vs4, he4, hz4, hd4⟩ := fl4.there
      refine store_ok (X := X.suite a ((a, oe4) :: (X.pn ++ pins))) (v := .ref a) (J4.suite he4 hd4 na nL nF) hN hi (.inl hln) rfl (fun s5 S5 => ?_) (.inr hln)
      refine wpAny_mono ((hsu a oe4 cls d (X.pn ++ pins) hz4 ⟨_, hd4⟩).run [] s5 _ H' _ S5 (hyes rfl a na)) (fun f s6 hsp => ?_) (fun _ _ z => False.elim z)
      have tell : ∀ {σ6 : L2.St} {H6 : Hp}, Inv (X.suite a ((a, oe4) :: (X.pn ++ pins))) [] σ6 H6 s6 → H6 a = none ∧ Inv X pins σ6 (upd H6 a (eOb a cls d)) s6 := fun {σ6 H6} S6 => by
        obtain ⟨g6, n6, _⟩ := S6.pin (a, oe4) (List.mem_append_left _ List.mem_cons_self)
        exact ⟨n6, track (S6.unsuite ok) n6 h0 nL nC nP (eOb_ok g6 hz4 hd4)⟩
      cases f with
      | next =>
        obtain ⟨σ6, H6, S6, q6⟩ := hsp
        obtain ⟨n6, T6⟩ := tell S6
        exact gone_ok T6 hN hi hln fun s7 J7 => ⟨_, _, J7, q6 n6⟩
      | brk => obtain ⟨σ6, H6, S6, q6⟩ := hsp; exact gone_ok (S6.unsuite ok) hN hi hln fun s7 J7 => ⟨_, _, J7, q6⟩
      | cont => obtain ⟨σ6, H6, S6, q6⟩ := hsp; exact gone_ok (S6.unsuite ok) hN hi hln fun s7 J7 => ⟨_, _, J7, q6⟩
      | ret u => obtain ⟨v6, σ6, H6, S6, r6, q6⟩ := hsp; exact gone_ok (S6.unsuite ok) hN hi hln fun s7 J7 => ⟨_, _, _, J7, r6, q6⟩
    | false =>
      show wpAny _ X.A (handleBy (.ref a) X.env []) _ _ _
      refine wpAny_handleBy_nil ?_
      obtain ⟨_, _, _, oe, vs, T, oT, ts', he, hz, hd, h1, hr⟩ := id fl3
      unfold PySem.passOn
      refine wpAny_bind (wpAny_field he hd h1 ?_); rw [if_neg (show ¬ ((Value.ref T == Value.none) = true) from by simp)]
      have fin : wpAny (model X.prog X.w) X.A (setFlight (.ref a) X.env.frame) (fun _ s4 => wpAny (model X.prog X.w) X.A (throw (.ref a) : Sem Flow) (SP X pins D) X.xe s4) X.xe { s' with heap := h3 } := by
        rw [hf]; exact HandSPX.setFlight_upZ fl3 fun h4 hh4 up4 => wpAny_throw (tk _ _ ⟨a, B, sI, pins, σ', H', cls, d, rfl, J, nb, (up.trans up3).trans up4, .inr (.inr (by rw [hs]; exact hh4)), na, os, ag, hno rfl⟩)
      first | exact wpAny_bind (wpAny_pure (wpAny_bind fin)) | exact wpAny_bind fin
  · cases f with
    | next => obtain ⟨σ', H', J', q⟩ := hsp; exact wpAny_execs_nil ⟨σ', H', J'.ofTry ok, q⟩
    | brk => obtain ⟨σ', H', J', q⟩ := hsp; exact ⟨σ', H', J'.ofTry ok, q⟩
    | cont => obtain ⟨σ', H', J', q⟩ := hsp; exact ⟨σ', H', J'.ofTry ok, q⟩
    | ret u => obtain ⟨v, σ', H', J', r, q⟩ := hsp; exact ⟨v, σ', H', J'.ofTry ok, r, q⟩
/-! ### isinstance of an error that is held -/
end
end Cm
/-! The layer of data: tuples are values, what can change stands in a store of its own. -/
namespace DD
open PySem PySem.W L2 SX Cm
inductive DV where
  | non | bl (b : Bool) | int (i : Int) | str (z : Str) | ty (n : String) | tup (xs : List DV) | ref (a : Addr)
noncomputable instance : DecidableEq DV := fun a b => Classical.propDecidable (a = b)
mutual
inductive RV (K : Frag) (H : Hp) : V → DV → Prop
  | non : RV K H .non .non
  | bl (b : Bool) : RV K H (.bl b) (.bl b)
  | int (i : Int) : RV K H (.int i) (.int i)
  | str (z : Str) : RV K H (.str z) (.str z)
  | ty (n : String) : RV K H (.ty n) (.ty n)
  | ref (a : Addr) : RV K H (.ref a) (.ref a)
  | tup {a : Addr} {xs : List V} {ds : List DV} : SqT K H a xs → RVs K H xs ds → RV K H (.ref a) (.tup ds)
inductive RVs (K : Frag) (H : Hp) : List V → List DV → Prop
  | nil : RVs K H [] []
  | cons {v : V} {vs : List V} {d : DV} {ds : List DV} : RV K H v d → RVs K H vs ds → RVs K H (v :: vs) (d :: ds)
end
mutual
theorem RV.mono {K : Frag} {H H' : Hp} (k : TKs K H H') : ∀ {v : V} {d : DV}, RV K H v d → RV K H' v d
  | _, _, .non => .non
  | _, _, .bl b => .bl b
  | _, _, .int i => .int i
  | _, _, .str z => .str z
  | _, _, .ty n => .ty n
  | _, _, .ref a => .ref a
  | _, _, .tup h t => .tup (k _ _ h) (RVs.mono k t)
theorem RVs.mono {K : Frag} {H H' : Hp} (k : TKs K H H') : ∀ {v : List V} {d : List DV}, RVs K H v d → RVs K H' v d
  | _, _, .nil => .nil
  | _, _, .cons h t => .cons (RV.mono k h) (RVs.mono k t)
end
section
variable {K : Frag} {H H' : Hp}
theorem RVs.len : ∀ {v : List V} {d : List DV}, RVs K H v d → v.length = d.length
  | _, _, .nil => rfl
  | _, _, .cons _ t => congrArg (· + 1) (RVs.len t)
theorem RVs.append : ∀ {v v' : List V} {d d' : List DV}, RVs K H v d → RVs K H v' d' → RVs K H (v ++ v') (d ++ d')
  | _, _, _, _, .nil, h => h
  | _, _, _, _, .cons h t, h' => .cons h (RVs.append t h')
theorem RVs.get : ∀ {v : List V} {d : List DV} {i : Nat} {y : DV}, RVs K H v d → d[i]? = some y → ∃ x, v[i]? = some x ∧ RV K H x y
  | _, _, _, _, .nil, e => by simp at e
  | _, _, 0, _, .cons h t, e => by cases e; exact ⟨_, rfl, h⟩
  | _, _, i + 1, _, .cons h t, e => RVs.get (i := i) t (by simpa using e)
theorem RVs.getV : ∀ {v : List V} {d : List DV} {i : Nat} {x : V}, RVs K H v d → v[i]? = some x → ∃ y, d[i]? = some y ∧ RV K H x y
  | _, _, _, _, .nil, e => by simp at e
  | _, _, 0, _, .cons h t, e => by cases e; exact ⟨_, rfl, h⟩
  | _, _, i + 1, _, .cons h t, e => RVs.getV (i := i) t (by simpa using e)
theorem RVs.drop : ∀ (n : Nat) {v : List V} {d : List DV}, RVs K H v d → RVs K H (v.drop n) (d.drop n)
  | 0, _, _, h => h
  | _ + 1, _, _, .nil => .nil
  | n + 1, _, _, .cons _ t => RVs.drop n t
theorem RVs.take : ∀ (n : Nat) {v : List V} {d : List DV}, RVs K H v d → RVs K H (v.take n) (d.take n)
  | 0, _, _, _ => .nil
  | _ + 1, _, _, .nil => .nil
  | n + 1, _, _, .cons h t => .cons h (RVs.take n t)
theorem RVs.reverse : ∀ {v : List V} {d : List DV}, RVs K H v d → RVs K H v.reverse d.reverse
  | _, _, .nil => .nil
  | _, _, .cons h t => by rw [List.reverse_cons, List.reverse_cons]; exact (RVs.reverse t).append (.cons h .nil)
theorem RVs.set {x : V} {y : DV} (r : RV K H x y) : ∀ {v : List V} {d : List DV} (i : Nat), RVs K H v d → RVs K H (v.set i x) (d.set i y)
  | _, _, _, .nil => .nil
  | _, _, 0, .cons _ t => .cons r t
  | _, _, i + 1, .cons h t => .cons h (RVs.set r i t)
theorem RVs.dropLast : ∀ {v : List V} {d : List DV}, RVs K H v d → RVs K H v.dropLast d.dropLast
  | _, _, .nil => .nil
  | _, _, .cons h .nil => .nil
  | _, _, .cons h (.cons h' t) => .cons h (RVs.dropLast (.cons h' t))
theorem RVs.isEmpty {v : List V} {d : List DV} (h : RVs K H v d) : v.isEmpty = d.isEmpty := by cases h <;> rfl
theorem RVs.ints : ∀ (ns : List Int), RVs K H (ns.map V.int) (ns.map DV.int)
  | [] => .nil
  | n :: r => .cons (.int n) (RVs.ints r)
theorem RVs.strs' : ∀ (ns : List Str), RVs K H (ns.map V.str) (ns.map DV.str)
  | [] => .nil
  | n :: r => .cons (.str n) (RVs.strs' r)
theorem RV.tupD {v : V} {ds : List DV} (h : RV K H v (.tup ds)) : ∃ a xs, v = .ref a ∧ SqT K H a xs ∧ RVs K H xs ds := by
  cases h with
  | tup a b => exact ⟨_, _, rfl, a, b⟩
end
/-! ### the store -/
inductive DO where
  | lst (xs : List DV)
  /-- a list that is only read -/
  | ro (xs : List DV)
  | dct (kvs : List (Key × DV))
  /-- a list of one number, whatever it is -/
  | cnt
  /-- a tuple kept as the object that was made -/
  | ptp (ds : List DV)
  /-- an instance of the class at C, its attributes -/
  | obj (C : Addr) (fs : List (Str × DV))
  /-- a caught error of this class -/
  | err (cls : Value)
  /-- what is true of the objects at L, the first of which it is -/
  | abs (L : List Addr) (φ : Hp → Prop)
  /-- whatever is told of the object at its place, that more tuples do not change -/
  | gen (p : Frag → Hp → Addr → Prop)
abbrev DG := Addr → Option DO
def dupd (G : DG) (a : Addr) (o : DO) : DG := fun b => if b = a then some o else G b
theorem dupd_same {G : DG} {a : Addr} {o : DO} : dupd G a o a = some o := if_pos rfl
theorem dupd_ne {G : DG} {a b : Addr} {o : DO} (h : b ≠ a) : dupd G a o b = G b := if_neg h
theorem dupd_dupd {G : DG} {a : Addr} {o o' : DO} : dupd (dupd G a o) a o' = dupd G a o' := by
  funext b; unfold dupd; split <;> rfl
inductive KRV (K : Frag) (H : Hp) : List (Key × V) → List (Key × DV) → Prop
  | nil : KRV K H [] []
  | cons {k : Key} {v : V} {d : DV} {vs : List (Key × V)} {ds : List (Key × DV)} : RV K H v d → KRV K H vs ds → KRV K H ((k, v) :: vs) ((k, d) :: ds)
theorem KRV.mono {K : Frag} {H H' : Hp} (k : TKs K H H') {vs : List (Key × V)} {ds : List (Key × DV)} (h : KRV K H vs ds) : KRV K H' vs ds := by
  induction h with
  | nil => exact .nil
  | cons h _ ih => exact .cons (h.mono k) ih
inductive FRV (K : Frag) (H : Hp) : List (Str × V) → List (Str × DV) → Prop
  | nil : FRV K H [] []
  | cons {k : Str} {v : V} {d : DV} {vs : List (Str × V)} {ds : List (Str × DV)} : RV K H v d → FRV K H vs ds → FRV K H ((k, v) :: vs) ((k, d) :: ds)
theorem FRV.mono {K : Frag} {H H' : Hp} (k : TKs K H H') {vs : List (Str × V)} {ds : List (Str × DV)} (h : FRV K H vs ds) : FRV K H' vs ds := by
  induction h with
  | nil => exact .nil
  | cons h _ ih => exact .cons (h.mono k) ih
def OR (K : Frag) (H : Hp) (O : Addr → Option Addr) (a : Addr) : DO → Prop
  | .lst ds => ∃ xs, H a = some (.lst xs) ∧ RVs K H xs ds
  | .ro ds => ∃ xs, Rd H a (.lst xs) ∧ RVs K H xs ds
  | .dct kvs => ∃ ks, H a = some (.dK ks) ∧ KRV K H ks kvs
  | .cnt => ∃ n : Int, H a = some (.lst [.int n])
  | .ptp ds => ∃ o xs, o.dict = Option.none ∧ H a = some (.frz o (.tup xs)) ∧ RVs K H xs ds
  | .obj C fs => ∃ dx vs, H a = some (.ins C dx vs) ∧ FRV K H vs fs
  | .err cls => H a = some (eOb a cls Option.none)
  | .abs L φ => a ∈ L ∧ (∃ xs, H a = some (.lst xs)) ∧ φ H ∧ (∀ H1 H2, (∀ b ∈ L, H1 b = H2 b) → φ H1 → φ H2) ∧ ∀ b ∈ L, b ≠ a → O b = some a
  | .gen p => (∃ u, H a = some u) ∧ p K H a ∧ ∀ H1 H2, TKs K H1 H2 → H2 a = H1 a → p K H1 a → p K H2 a
/-- the store stands in the heap; O: who owns what does not stand in the store -/
structure WdO (K : Frag) (H : Hp) (O : Addr → Option Addr) (G : DG) : Prop where
  own : ∀ b a, O b = some a → G b = none ∧ ∃ xs, H b = some (.lst xs)
  ob : ∀ a o, G a = some o → OR K H O a o
def Wd (K : Frag) (H : Hp) (G : DG) : Prop := ∃ O, WdO K H O G
section
variable {K : Frag} {H H' : Hp} {G G' : DG} {O : Addr → Option Addr} {a p : Addr} {o : DO}
theorem OR.some (h : OR K H O a o) : ∃ u, H a = some u := by
  cases o with
  | lst ds => obtain ⟨xs, e, _⟩ := h; exact ⟨_, e⟩
  | ro ds =>
    obtain ⟨xs, e | ⟨o, e⟩, _⟩ := h
    · exact ⟨_, e⟩
    · exact ⟨_, e⟩
  | dct kvs => obtain ⟨xs, e, _⟩ := h; exact ⟨_, e⟩
  | cnt => obtain ⟨xs, e⟩ := h; exact ⟨_, e⟩
  | ptp ds => obtain ⟨_, _, _, e, _⟩ := h; exact ⟨_, e⟩
  | obj C fs => obtain ⟨_, _, e, _⟩ := h; exact ⟨_, e⟩
  | err cls => exact ⟨_, h⟩
  | abs L φ => obtain ⟨xs, e⟩ := h.2.1; exact ⟨_, e⟩
  | gen p => exact h.1
theorem WdO.free (w : WdO K H O G) (n : H p = none) : G p = none ∧ O p = none := by
  refine ⟨?_, ?_⟩
  · cases e : G p with
    | none => rfl
    | some o => obtain ⟨u, h⟩ := (w.ob p o e).some; rw [n] at h; cases h
  · cases e : O p with
    | none => rfl
    | some o => obtain ⟨_, xs, h⟩ := w.own p o e; rw [n] at h; cases h
theorem Wd.free (w : Wd K H G) (n : H p = none) : G p = none := by
  obtain ⟨O, w⟩ := w
  exact (w.free n).1
/-- what stays of an object where its addresses stay -/
theorem OR.keep (w : WdO K H O G) (t : TKs K H H') (e : G a = Option.some o) (h : ∀ b, (b = a ∨ O b = Option.some a) → H' b = H b) : OR K H' O a o := by
  have x := w.ob a o e
  have ha : H' a = H a := h a (.inl rfl)
  cases o with
  | lst ds => obtain ⟨xs, e, r⟩ := x; exact ⟨xs, by rw [ha]; exact e, r.mono t⟩
  | ro ds =>
    obtain ⟨xs, e | ⟨o, e⟩, r⟩ := x
    · exact ⟨xs, .inl (by rw [ha]; exact e), r.mono t⟩
    · exact ⟨xs, .inr ⟨o, by rw [ha]; exact e⟩, r.mono t⟩
  | dct kvs => obtain ⟨ks, e, r⟩ := x; exact ⟨ks, by rw [ha]; exact e, r.mono t⟩
  | cnt => obtain ⟨n, e⟩ := x; exact ⟨n, by rw [ha]; exact e⟩
  | ptp ds => obtain ⟨u, xs, d, e, r⟩ := x; exact ⟨u, xs, d, by rw [ha]; exact e, r.mono t⟩
  | obj C fs => obtain ⟨dx, vs, e, r⟩ := x; exact ⟨dx, vs, by rw [ha]; exact e, r.mono t⟩
  | err cls => show H' a = _; rw [ha]; exact x
  | abs L φ =>
    obtain ⟨m, ⟨u, hu⟩, hφ, loc, ow⟩ := x
    refine ⟨m, ⟨u, by rw [ha]; exact hu⟩, loc H H' (fun b hb => ?_) hφ, loc, ow⟩
    by_cases hba : b = a
    · rw [hba]; exact ha.symm
    · exact (h b (.inr (ow b hb hba))).symm
  | gen p =>
    obtain ⟨⟨u, hu⟩, hp, k⟩ := x
    exact ⟨⟨u, by rw [ha]; exact hu⟩, k H H' t ha hp, k⟩
theorem Wd.same (w : Wd K H G) (s : Same H H') : Wd K H' G := by
  obtain ⟨O, w⟩ := w
  refine ⟨O, ⟨fun b a e => ?_, fun a o e => OR.keep w (TKs.of s) e fun b hb => ?_⟩⟩
  · obtain ⟨h1, xs, h2⟩ := w.own b a e
    exact ⟨h1, xs, s _ _ h2⟩
  · obtain ⟨u, hu⟩ : ∃ u, H b = Option.some u := by
      rcases hb with rfl | hb
      · exact (w.ob _ o e).some
      · obtain ⟨_, xs, h⟩ := w.own b a hb; exact ⟨_, h⟩
    rw [hu, s _ _ hu]
/-- less is known -/
def Sub (G G' : DG) : Prop := ∀ a o, G a = Option.some o → G' a = Option.some o
theorem Sub.refl (G : DG) : Sub G G := fun _ _ h => h
theorem Sub.trans {A B C : DG} (h : Sub A B) (g : Sub B C) : Sub A C := fun a o e => g a o (h a o e)
theorem Sub.new (h : Sub G G') (n : G p = none) : Sub G (dupd G' p o) := fun a u e => by
  rw [dupd_ne (fun z => by rw [z, n] at e; cases e)]; exact h a u e
theorem Sub.set (h : Sub G G') : Sub (dupd G p o) (dupd G' p o) := fun a u e => by
  by_cases z : a = p
  · subst z; rw [dupd_same] at e ⊢; exact e
  · rw [dupd_ne z] at e ⊢; exact h a u e
theorem Wd.sub (w : Wd K H G') (s : Sub G G') : Wd K H G := by
  obtain ⟨O, w⟩ := w
  refine ⟨O, ⟨fun b a e => ⟨?_, (w.own b a e).2⟩, fun a o e => w.ob a o (s a o e)⟩⟩
  cases h : G b with
  | none => rfl
  | some u => have := s b u h; rw [(w.own b a e).1] at this; cases this
/-- the store's object at p is changed, in the heap too -/
theorem Wd.put {o' : DO} {u' : HO} (w : Wd K H G) (hp : ∃ o, G p = Option.some o ∧ ∀ L φ, o ≠ .abs L φ) (t : TKs K H (upd H p u')) (h' : ∀ O, OR K (upd H p u') O p o') : Wd K (upd H p u') (dupd G p o') := by
  obtain ⟨O, w⟩ := w
  obtain ⟨o, ep, na⟩ := hp
  have op : O p = none := by
    cases e : O p with
    | none => rfl
    | some c => have := (w.own p c e).1; rw [ep] at this; cases this
  refine ⟨O, ⟨fun b a e => ?_, fun a o1 e => ?_⟩⟩
  · obtain ⟨h1, xs, h2⟩ := w.own b a e
    have bp : b ≠ p := fun z => by rw [z, op] at e; cases e
    exact ⟨by rw [dupd_ne bp]; exact h1, xs, by rw [upd_ne bp]; exact h2⟩
  · by_cases hap : a = p
    · subst hap
      rw [dupd_same] at e
      cases e
      exact h' O
    · rw [dupd_ne hap] at e
      exact OR.keep w t e fun b hb => upd_ne (fun z => by
        rcases hb with hb | hb
        · exact hap (hb.symm.trans z)
        · rw [z, op] at hb; cases hb)
/-- a new object -/
theorem Wd.new {u : HO} (w : Wd K H G) (n : H p = none) (h : ∀ O, OR K (upd H p u) O p o) : Wd K (upd H p u) (dupd G p o) := by
  have w' := w.same (same_new n u)
  obtain ⟨O, w⟩ := w
  have fr := w.free n
  refine ⟨O, ⟨fun b a e => ?_, fun a o1 e => ?_⟩⟩
  · obtain ⟨h1, xs, h2⟩ := w.own b a e
    have bp : b ≠ p := fun z => by rw [z, fr.2] at e; cases e
    exact ⟨by rw [dupd_ne bp]; exact h1, xs, by rw [upd_ne bp]; exact h2⟩
  · by_cases hap : a = p
    · subst hap
      rw [dupd_same] at e
      cases e
      exact h O
    · rw [dupd_ne hap] at e
      exact OR.keep w (TKs.of (same_new n u)) e fun b hb => upd_ne (fun z => by
        rcases hb with hb | hb
        · exact hap (hb.symm.trans z)
        · rw [z, fr.2] at hb; cases hb)
end
end DD
namespace DD
open PySem PySem.W L2 SX Cm
abbrev DSt := List (Option DV)
abbrev DK := DV → DG → Prop
abbrev TD := DSt → DG → DK → Prop
abbrev TDT := DSt → DG → (Bool → DG → Prop) → Prop
abbrev TDA := DSt → DG → (List DV → DG → Prop) → Prop
structure DEnds where
  nx : DSt → DG → Prop
  rt : DK
  bk : DSt → DG → Prop := fun _ _ => False
  ct : DSt → DG → Prop := fun _ _ => False
abbrev TDS := DEnds → DSt → DG → Prop
/-! ### slots -/
inductive Sl (K : Frag) (H : Hp) : St → DSt → Prop
  | nil : Sl K H [] []
  | non {σ : St} {δ : DSt} : Sl K H σ δ → Sl K H (none :: σ) (none :: δ)
  | cons {v : V} {d : DV} {σ : St} {δ : DSt} : RV K H v d → Sl K H σ δ → Sl K H (some v :: σ) (some d :: δ)
section
variable {K : Frag} {H H' : Hp}
theorem Sl.mono (k : TKs K H H') {σ : St} {δ : DSt} (h : Sl K H σ δ) : Sl K H' σ δ := by
  induction h with
  | nil => exact .nil
  | non _ ih => exact .non ih
  | cons r _ ih => exact .cons (r.mono k) ih
theorem Sl.get : ∀ {σ : St} {δ : DSt} {i : Nat} {d : DV}, Sl K H σ δ → δ[i]? = some (some d) → ∃ v, σ[i]? = some (some v) ∧ RV K H v d
  | _, _, _, _, .nil, e => by simp at e
  | _, _, 0, _, .non _, e => by simp at e
  | _, _, 0, _, .cons r _, e => by simp at e; subst e; exact ⟨_, rfl, r⟩
  | _, _, i + 1, _, .non t, e => Sl.get (i := i) t (by simpa using e)
  | _, _, i + 1, _, .cons _ t, e => Sl.get (i := i) t (by simpa using e)
theorem Sl.set {v : V} {d : DV} (r : RV K H v d) : ∀ {σ : St} {δ : DSt} (i : Nat), Sl K H σ δ → Sl K H (σ.set i (some v)) (δ.set i (some d))
  | _, _, _, .nil => .nil
  | _, _, 0, .non t => .cons r t
  | _, _, 0, .cons _ t => .cons r t
  | _, _, i + 1, .non t => .non (Sl.set r i t)
  | _, _, i + 1, .cons h t => .cons h (Sl.set r i t)
theorem Sl.unset : ∀ {σ : St} {δ : DSt} (i : Nat), Sl K H σ δ → Sl K H (σ.set i none) (δ.set i none)
  | _, _, _, .nil => .nil
  | _, _, 0, .non t => .non t
  | _, _, 0, .cons _ t => .non t
  | _, _, i + 1, .non t => .non (Sl.unset i t)
  | _, _, i + 1, .cons h t => .cons h (Sl.unset i t)
theorem RVs.atI {v : List V} {d : List DV} {i : Int} {y : DV} (h : RVs K H v d) (e : L2.atI d i = some y) : ∃ x, L2.atI v i = some x ∧ RV K H x y := by
  unfold L2.atI at *
  rw [h.len]
  cases hj : ixN d.length i with
  | none => rw [hj] at e; cases e
  | some j =>
    rw [hj] at e
    obtain ⟨x, h1, h2⟩ := h.get e
    exact ⟨x, h1, h2⟩
/-- a slice -/
def cutD {α : Type} (xs : List α) (lo hi : Option Int) : List α := (xs.drop (HT.sIx xs.length 0 lo)).take (HT.sIx xs.length xs.length hi - HT.sIx xs.length 0 lo)
theorem RVs.cut {v : List V} {d : List DV} (h : RVs K H v d) (lo hi : Option Int) : RVs K H (cutV v lo hi) (cutD d lo hi) := by
  unfold cutV cutD
  rw [h.len]
  exact (h.drop _).take _
theorem cutD_all {α : Type} {xs : List α} {lo hi : Option Int} (h : HT.sIx xs.length 0 lo = 0 ∧ HT.sIx xs.length xs.length hi = xs.length) : cutD xs lo hi = xs := by
  unfold cutD
  rw [h.1, h.2, List.drop_zero, Nat.sub_zero, List.take_length]
end
/-! ### what a reading of data says of the heap -/
def Fin (K : Frag) (H : Hp) (R : DK) (Q : VK) : Prop := ∀ d G v H', R d G → TKs K H H' → Wd K H' G → RV K H' v d → Q v H'
def up (K : Frag) (t : TD) : TE := fun σ H Q => ∃ δ G R, Sl K H σ δ ∧ Wd K H G ∧ t δ G R ∧ Fin K H R Q
def upT (K : Frag) (t : TDT) : TT := fun σ H Q => ∃ δ G R, Sl K H σ δ ∧ Wd K H G ∧ t δ G R ∧ ∀ b G' H', R b G' → TKs K H H' → Wd K H' G' → Q b H'
def upA (K : Frag) (t : TDA) : TA := fun σ H Q => ∃ δ G R, Sl K H σ δ ∧ Wd K H G ∧ t δ G R ∧ ∀ ds G' vs H', R ds G' → TKs K H H' → Wd K H' G' → RVs K H' vs ds → Q vs H'
/-- the ends of data and the ends of the heap -/
structure Links (K : Frag) (H : Hp) (D' : DEnds) (D : Ends) : Prop where
  nx : ∀ σ δ G H', D'.nx δ G → TKs K H H' → Wd K H' G → Sl K H' σ δ → D.nx σ H'
  rt : ∀ d G v H', D'.rt d G → TKs K H H' → Wd K H' G → RV K H' v d → D.rt v H'
  bk : ∀ σ δ G H', D'.bk δ G → TKs K H H' → Wd K H' G → Sl K H' σ δ → D.bk σ H'
  ct : ∀ σ δ G H', D'.ct δ G → TKs K H H' → Wd K H' G → Sl K H' σ δ → D.ct σ H'
def upS (K : Frag) (t : TDS) : TS := fun D σ H => ∃ D' δ G, Sl K H σ δ ∧ Wd K H G ∧ Links K H D' D ∧ t D' δ G
section
variable {K : Frag} {H H1 : Hp}
theorem Fin.step {R : DK} {Q : VK} (f : Fin K H R Q) (t : TKs K H H1) : Fin K H1 R Q := fun d G v H' r t' w rv => f d G v H' r (t.trans t') w rv
theorem Links.step {D' : DEnds} {D : Ends} (l : Links K H D' D) (t : TKs K H H1) : Links K H1 D' D :=
  ⟨fun σ δ G H' r t' => l.nx σ δ G H' r (t.trans t'), fun d G v H' r t' => l.rt d G v H' r (t.trans t'), fun σ δ G H' r t' => l.bk σ δ G H' r (t.trans t'), fun σ δ G H' r t' => l.ct σ δ G H' r (t.trans t')⟩
end
section
variable {X : Cx}
theorem PE_mono {e : Expr} {t t' : TE} (h : PE X e t) (i : ∀ σ H Q, t' σ H Q → t σ H Q) : PE X e t' := ⟨fun pins s σ H Q I q => h.run pins s σ H Q I (i σ H Q q)⟩
theorem PT_mono {e : Expr} {t t' : TT} (h : PT X e t) (i : ∀ σ H Q, t' σ H Q → t σ H Q) : PT X e t' := ⟨fun pins s σ H Q I q => h.run pins s σ H Q I (i σ H Q q)⟩
theorem PW_mono {e : Expr} {t t' : TT} (h : PW X e t) (i : ∀ σ H Q, t' σ H Q → t σ H Q) : PW X e t' := ⟨fun wh pins s σ H Q I q => h.run wh pins s σ H Q I (i σ H Q q)⟩
theorem PA_mono {e : List Expr} {t t' : TA} (h : PA X e t) (i : ∀ σ H Q, t' σ H Q → t σ H Q) : PA X e t' := ⟨fun pos pins s σ H Q I q => h.run pos pins s σ H Q I (i σ H Q q)⟩
theorem PS_mono {e : Stmt} {t t' : TS} (h : PS X e t) (i : ∀ D σ H, t' D σ H → t D σ H) : PS X e t' := ⟨fun pins s σ H D I q => h.run pins s σ H D I (i D σ H q)⟩
theorem PSs_mono {e : List Stmt} {t t' : TS} (h : PSs X e t) (i : ∀ D σ H, t' D σ H → t D σ H) : PSs X e t' := ⟨fun pins s σ H D I q => h.run pins s σ H D I (i D σ H q)⟩
abbrev DE (X : Cx) (e : Expr) (t : TD) : Prop := PE X e (up X.K t)
abbrev DT (X : Cx) (e : Expr) (t : TDT) : Prop := PT X e (upT X.K t)
abbrev DW (X : Cx) (e : Expr) (t : TDT) : Prop := PW X e (upT X.K t)
abbrev DA (X : Cx) (e : List Expr) (t : TDA) : Prop := PA X e (upA X.K t)
abbrev DS (X : Cx) (e : Stmt) (t : TDS) : Prop := PS X e (upS X.K t)
abbrev DSs (X : Cx) (e : List Stmt) (t : TDS) : Prop := PSs X e (upS X.K t)
/-! ### names, constants -/
def dVar (i : Nat) : TD := fun δ G Q => ∃ d, δ[i]? = some (some d) ∧ Q d G
def dC (d : DV) : TD := fun _ G Q => Q d G
theorem de_var {i : Nat} {x : Str} {pos : Pos} (hN : X.N[i]? = some x) (hv : Vis X.env.scope x) (hd : (x == ("__debug__" : Str)) = false := by decide) (hcd : (x == ("__classdict__" : Str)) = false := by decide) : DE X (.Name x pos) (dVar i) :=
  PE_mono (pe_var hN hv hd hcd) fun σ H Q ⟨δ, G, R, sl, w, ⟨d, e, r⟩, f⟩ => by
    obtain ⟨v, e', rv⟩ := sl.get e
    exact ⟨v, e', f d G v H r (TKs.refl H) w rv⟩
theorem de_c {e : Expr} {v : V} {d : DV} (h : PE X e (tC v)) (r : ∀ H, RV X.K H v d) : DE X e (dC d) :=
  PE_mono h fun σ H Q ⟨δ, G, R, sl, w, q, f⟩ => f d G v H q (TKs.refl H) w (r H)
theorem de_int {i : Int} {j pos} : DE X (.Constant (.int i) j pos) (dC (.int i)) := de_c pe_int fun _ => .int i
theorem de_bl {b : Bool} {j pos} : DE X (.Constant (.bool b) j pos) (dC (.bl b)) := de_c pe_bl fun _ => .bl b
theorem de_non {j pos} : DE X (.Constant .none j pos) (dC .non) := de_c pe_non fun _ => .non
theorem de_str {x : Str} {j pos} : DE X (.Constant (.str x) j pos) (dC (.str x)) := de_c pe_str fun _ => .str x
theorem de_gstr {x : Str} {z : Str} {pos : Pos} (hm : ∃ t, X.mg x = some (.str z t)) (hg : Gl X x) (hd : (x == ("__debug__" : Str)) = false := by decide) : DE X (.Name x pos) (dC (.str z)) := by
  obtain ⟨t, hm⟩ := hm
  exact de_c (pe_glob (v := .str z) hg hm ⟨t, rfl⟩ hd) fun _ => .str z
theorem de_gint {x : Str} {z : Int} {pos : Pos} (hm : ∃ t, X.mg x = some (.int z t)) (hg : Gl X x) (hd : (x == ("__debug__" : Str)) = false := by decide) : DE X (.Name x pos) (dC (.int z)) := by
  obtain ⟨t, hm⟩ := hm
  exact de_c (pe_glob (v := .int z) hg hm ⟨t, rfl⟩ hd) fun _ => .int z
theorem de_gref {x : Str} {a : Addr} {pos : Pos} (hm : X.mg x = some (.ref a)) (hg : Gl X x) (hd : (x == ("__debug__" : Str)) = false := by decide) : DE X (.Name x pos) (dC (.ref a)) := de_c (pe_glob (v := .ref a) hg hm rfl hd) fun _ => .ref a
theorem de_ty {x : Str} {n : String} {pos : Pos} (hm : X.mg x = none) (hg : Gl X x) (hv : bootBuiltins x = some (.type n)) (hn : x ≠ "__name__" := by decide) (hd : (x == ("__debug__" : Str)) = false := by decide) : DE X (.Name x pos) (dC (.ty n)) := de_c (pe_bltn (v := .ty n) hg hm hv rfl hn hd) fun _ => .ty n
/-! ### operators -/
abbrev D2 := DV → DV → DG → DK → Prop
def dOp (b : D2) (ta tb : TD) : TD := fun δ G Q => ta δ G fun x G1 => tb δ G1 fun y G2 => b x y G2 Q
def Ok2 (K : Frag) (r : R2) (b : D2) : Prop := ∀ x y vx vy H G R Q, RV K H vx x → RV K H vy y → Wd K H G → b x y G R → Fin K H R Q → r vx vy H Q
def OpD (X : Cx) (f : Value → Value → Sem Value) (b : D2) : Prop := ∃ r, OpR X f r ∧ Ok2 X.K r b
theorem bin_up {r : R2} {b : D2} {K : Frag} (ok : Ok2 K r b) {ta tb : TD} {σ : St} {H : Hp} {Q : VK} (h : up K (dOp b ta tb) σ H Q) : tOp r (up K ta) (up K tb) σ H Q := by
  obtain ⟨δ, G, R, sl, w, q, f⟩ := h
  exact ⟨δ, G, _, sl, w, q, fun x G1 vx H1 q1 t1 w1 r1 => ⟨δ, G1, _, sl.mono t1, w1, q1, fun y G2 vy H2 q2 t2 w2 r2 => ok x y vx vy H2 G2 R Q (r1.mono t2) r2 w2 q2 (f.step (t1.trans t2))⟩⟩
theorem de_op {op : Operator} {b : D2} {e1 e2 : Expr} {ta tb : TD} {pos : Pos} (ho : OpD X (binaryOp op) b) (ha : DE X e1 ta) (hb : DE X e2 tb) : DE X (.BinOp e1 op e2 pos) (dOp b ta tb) := by
  obtain ⟨r, hr, ok⟩ := ho
  exact PE_mono (pe_op hr ha hb) fun σ H Q h => bin_up ok h
theorem de_cmp {op : CmpOp} {b : D2} {e1 e2 : Expr} {ta tb : TD} {pos : Pos} (ho : OpD X (compareOp op) b) (ha : DE X e1 ta) (hb : DE X e2 tb) (hm : behindInMarks op e2 = false) : DE X (.Compare e1 [op] [e2] pos) (dOp b ta tb) := by
  obtain ⟨r, hr, ok⟩ := ho
  exact PE_mono (pe_cmpR hr ha hb hm) fun σ H Q h => bin_up ok h
def dTest (t : TD) : TDT := fun δ G Q => t δ G fun d G' => ∃ k, d = .bl k ∧ Q k G'
theorem test_up {K : Frag} {t : TD} {σ : St} {H : Hp} {Q : Bool → Hp → Prop} (h : upT K (dTest t) σ H Q) : up K t σ H fun x H' => ∃ k, x = .bl k ∧ Q k H' := by
  obtain ⟨δ, G, R, sl, w, q, f⟩ := h
  refine ⟨δ, G, _, sl, w, q, fun d G' v H' ⟨k, e, r⟩ t' w' rv => ?_⟩
  subst e
  cases rv
  exact ⟨k, rfl, f k G' H' r t' w'⟩
theorem dt_cmp {op : CmpOp} {b : D2} {e1 e2 : Expr} {ta tb : TD} {pos : Pos} (ho : OpD X (compareOp op) b) (ha : DE X e1 ta) (hb : DE X e2 tb) (hm : behindInMarks op e2 = false) : DT X (.Compare e1 [op] [e2] pos) (dTest (dOp b ta tb)) := by
  obtain ⟨r, hr, ok⟩ := ho
  refine PT_mono (pt_cmpR hr ha hb hm) fun σ H Q h => ?_
  have := test_up h
  exact bin_up ok this
theorem Ok2.or {K : Frag} {r r' : R2} {b : D2} (h : ∀ x y vx vy H G R Q, RV K H vx x → RV K H vy y → Wd K H G → b x y G R → Fin K H R Q → r vx vy H Q ∨ r' vx vy H Q) : Ok2 K (fun x y H Q => r x y H Q ∨ r' x y H Q) b := h
/-- sums: numbers, texts, tuples, lists -/
def bAdd : D2
  | .int i, .int j, G, Q => Q (.int (i + j)) G
  | .str a, .str b, G, Q => a.length + b.length ≤ sizeLine ∧ Q (.str (a ++ b)) G
  | .tup a, .tup b, G, Q => a.length + b.length ≤ sizeLine ∧ Q (.tup (a ++ b)) G
  | .ref p, .ref q, G, Q => ∃ xs ys, G p = some (.lst xs) ∧ G q = some (.lst ys) ∧ xs.length + ys.length ≤ sizeLine ∧ ∀ r, G r = none → Q (.ref r) (dupd G r (.lst (xs ++ ys)))
  | _, _, _, _ => False
theorem od_add : OpD X (binaryOp .Add) bAdd := by
  refine ⟨_, op_add.or (op_add_str.or (op_catA.or op_cat)), fun x y vx vy H G R Q rx ry w h f => ?_⟩
  cases rx with
  | int i =>
    cases ry with
    | int j => exact .inl ⟨i, j, rfl, rfl, f _ G _ H h (TKs.refl H) w (.int _)⟩
    | _ => exact h.elim
  | str a =>
    cases ry with
    | str b => exact .inr (.inl ⟨a, b, rfl, rfl, h.1, f _ G _ H h.2 (TKs.refl H) w (.str _)⟩)
    | _ => exact h.elim
  | tup sa ra =>
    rename_i p xs ds
    cases ry with
    | tup sb rb =>
      rename_i q ys es
      obtain ⟨hl, hq⟩ := h
      refine .inr (.inr (.inl ⟨p, q, xs, ys, rfl, rfl, sa, sb, by rw [ra.len, rb.len]; exact hl, fun e => ?_, fun _ e => ?_, fun _ _ r nr => ?_⟩))
      · subst e
        cases ra
        exact f _ G _ H hq (TKs.refl H) w (.tup sb rb)
      · subst e
        cases rb
        rw [List.append_nil] at hq
        exact f _ G _ H hq (TKs.refl H) w (.tup sa ra)
      · have s := same_new nr (.tup (xs ++ ys))
        exact f _ G _ _ hq (TKs.of s) (w.same s) (.tup (SqT.of upd_same) ((ra.append rb).mono (.of s)))
    | _ => exact h.elim
  | ref p =>
    cases ry with
    | ref q =>
      obtain ⟨xs, ys, e1, e2, hl, hq⟩ := h
      obtain ⟨O, w'⟩ := id w
      obtain ⟨us, h1, r1⟩ := w'.ob p _ e1
      obtain ⟨vs, h2, r2⟩ := w'.ob q _ e2
      refine .inr (.inr (.inr ⟨p, q, us, vs, rfl, rfl, h1, h2, by rw [r1.len, r2.len]; exact hl, fun r nr => ?_⟩))
      have s := same_new nr (.lst (us ++ vs))
      exact f _ _ _ _ (hq r (w.free nr)) (TKs.of s) (w.new nr fun O => ⟨_, upd_same, (r1.append r2).mono (.of s)⟩) (.ref r)
    | _ => exact h.elim
  | _ => exact h.elim
/-- two numbers -/
def bInt (C : Int → Int → Prop) (g : Int → Int → DV) : D2
  | .int i, .int j, G, Q => C i j ∧ Q (g i j) G
  | _, _, _, _ => False
theorem od_int {op : Operator} {C : Int → Int → Prop} {g : Int → Int → Int} (h : OpR X (binaryOp op) (rI C fun i j => .int (g i j))) : OpD X (binaryOp op) (bInt C fun i j => .int (g i j)) := by
  refine ⟨_, h, fun x y vx vy H G R Q rx ry w h f => ?_⟩
  cases rx with
  | int i =>
    cases ry with
    | int j => exact ⟨i, j, rfl, rfl, h.1, f _ G _ H h.2 (TKs.refl H) w (.int _)⟩
    | _ => exact h.elim
  | _ => exact h.elim
def bSub : D2
  | .int i, .int j, G, Q => Q (.int (i - j)) G
  | _, _, _, _ => False
theorem od_sub : OpD X (binaryOp .Sub) bSub := by
  refine ⟨_, op_sub, fun x y vx vy H G R Q rx ry w h f => ?_⟩
  cases rx with
  | int i =>
    cases ry with
    | int j => exact ⟨i, j, rfl, rfl, f _ G _ H h (TKs.refl H) w (.int _)⟩
    | _ => exact h.elim
  | _ => exact h.elim
theorem od_mod : OpD X (binaryOp .Mod) (bInt (fun _ j => 0 < j) fun i j => .int (i % j)) := od_int op_mod
/-- comparisons of numbers and texts -/
def bCmp (g : Int → Int → Bool) (s : List Nat → List Nat → Bool) : D2
  | .int i, .int j, G, Q => Q (.bl (g i j)) G
  | .str a, .str b, G, Q => Q (.bl (s a.cps.toList b.cps.toList)) G
  | _, _, _, _ => False
theorem od_cmp {op : CmpOp} {g : Int → Int → Bool} {s : List Nat → List Nat → Bool} (h : OpR X (compareOp op) (rI0 fun i j => .bl (g i j))) (h' : OpR X (compareOp op) (fun x y H Q => ∃ i j, x = .str i ∧ y = .str j ∧ Q (.bl (s i.cps.toList j.cps.toList)) H)) : OpD X (compareOp op) (bCmp g s) := by
  refine ⟨_, h.or h', fun x y vx vy H G R Q rx ry w h f => ?_⟩
  cases rx with
  | int i =>
    cases ry with
    | int j => exact .inl ⟨i, j, rfl, rfl, f _ G _ H h (TKs.refl H) w (.bl _)⟩
    | _ => exact h.elim
  | str i =>
    cases ry with
    | str j => exact .inr ⟨i, j, rfl, rfl, f _ G _ H h (TKs.refl H) w (.bl _)⟩
    | _ => exact h.elim
  | _ => exact h.elim
theorem od_lt : OpD X (compareOp .Lt) (bCmp (fun i j => decide (i < j)) fun a b => decide (a < b)) := od_cmp op_lt op_lt_str
theorem od_le : OpD X (compareOp .LtE) (bCmp (fun i j => decide (i ≤ j)) fun a b => !decide (b < a)) := od_cmp op_le op_le_str
theorem od_gt : OpD X (compareOp .Gt) (bCmp (fun i j => decide (j < i)) fun a b => decide (b < a)) := od_cmp op_gt op_gt_str
/-- is None, is True .. -/
def bIs (neg : Bool) : D2
  | x, .non, G, Q => Q (.bl (if neg then !decide (x = .non) else decide (x = .non))) G
  | .bl a, .bl b, G, Q => Q (.bl (if neg then !decide (a = b) else decide (a = b))) G
  | _, _, _, _ => False
theorem non_iff {K : Frag} {H : Hp} {v : V} {d : DV} (r : RV K H v d) : decide (v = .non) = decide (d = .non) := by
  cases r with
  | non => rw [decide_eq_true rfl, decide_eq_true rfl]
  | _ => rw [decide_eq_false (by intro z; cases z), decide_eq_false (by intro z; cases z)]
theorem od_is : OpD X (compareOp .Is) (bIs false) := by
  refine ⟨_, op_isN.or op_is_bl, fun x y vx vy H G R Q rx ry w h f => ?_⟩
  cases ry with
  | non =>
    refine .inl ⟨rfl, ?_⟩
    rw [non_iff rx]
    cases rx <;> exact f _ G _ H h (TKs.refl H) w (.bl _)
  | bl b =>
    cases rx with
    | bl a => exact .inr ⟨a, b, rfl, rfl, f _ G _ H h (TKs.refl H) w (.bl _)⟩
    | _ => exact h.elim
  | _ => cases rx <;> exact h.elim
theorem od_isnot : OpD X (compareOp .IsNot) (bIs true) := by
  refine ⟨_, op_notN.or op_isnot_bl, fun x y vx vy H G R Q rx ry w h f => ?_⟩
  cases ry with
  | non =>
    refine .inl ⟨rfl, ?_⟩
    rw [non_iff rx]
    cases rx <;> exact f _ G _ H h (TKs.refl H) w (.bl _)
  | bl b =>
    cases rx with
    | bl a => exact .inr ⟨a, b, rfl, rfl, f _ G _ H h (TKs.refl H) w (.bl _)⟩
    | _ => exact h.elim
  | _ => cases rx <;> exact h.elim
end
end DD
namespace Cm
open PySem PySem.W L2 SX PySem.Spec PyProof.Rows
end Cm
namespace DD
open PySem PySem.W L2 SX Cm
/-! ### data as the comparisons see it -/
mutual
def dat : DV → PyData
  | .non => .none
  | .bl b => .bool b
  | .int i => .int i
  | .str z => .str z
  | .tup ds => .tuple (dats ds)
  | .ref _ => .none
  | .ty _ => .none
def dats : List DV → List PyData
  | [] => []
  | d :: r => dat d :: dats r
end
mutual
/-- no reference and no type within -/
def pure_ : DV → Bool
  | .ref _ => false
  | .ty _ => false
  | .tup ds => pures ds
  | _ => true
def pures : List DV → Bool
  | [] => true
  | d :: r => pure_ d && pures r
end
mutual
/-- nor a truth -/
def plain : DV → Bool
  | .ref _ => false
  | .ty _ => false
  | .bl _ => false
  | .tup ds => plains ds
  | _ => true
def plains : List DV → Bool
  | [] => true
  | d :: r => plain d && plains r
end
mutual
theorem plain_pure : ∀ d : DV, plain d = true → pure_ d = true
  | .non, _ => rfl
  | .int _, _ => rfl
  | .str _, _ => rfl
  | .tup ds, h => plains_pure ds h
  | .bl _, h => rfl
  | .ref _, h => h
  | .ty _, h => h
theorem plains_pure : ∀ ds : List DV, plains ds = true → pures ds = true
  | [], _ => rfl
  | d :: r, h => by
    have h' : (plain d && plains r) = true := h
    rw [Bool.and_eq_true] at h'
    show (pure_ d && pures r) = true
    rw [plain_pure d h'.1, plains_pure r h'.2]; rfl
end
mutual
theorem eqv_plain : ∀ x y : DV, plain x = true → plain y = true → PyData.eqv (dat x) (dat y) = decide (x = y)
  | .non, .non, _, _ => (decide_eq_true rfl).symm
  | .int i, .int j, _, _ => by
    show (i == j) = _
    by_cases h : i = j
    · rw [h, decide_eq_true rfl, beq_self_eq_true]
    · rw [decide_eq_false (fun z => h (DV.int.inj z)), beq_eq_false_iff_ne.mpr h]
  | .str i, .str j, _, _ => by
    show (i == j) = _
    by_cases h : i = j
    · rw [h, decide_eq_true rfl, beq_self_eq_true]
    · rw [decide_eq_false (fun z => h (DV.str.inj z)), beq_eq_false_iff_ne.mpr h]
  | .tup a, .tup b, h, g => by
    show PyData.eqvAll (dats a) (dats b) = _
    rw [eqvs_plain a b h g]
    by_cases e : a = b
    · rw [e, decide_eq_true rfl, decide_eq_true rfl]
    · rw [decide_eq_false e, decide_eq_false (fun z => e (DV.tup.inj z))]
  | .non, .int _, _, _ => (decide_eq_false (by intro z; cases z)).symm
  | .non, .str _, _, _ => (decide_eq_false (by intro z; cases z)).symm
  | .non, .tup _, _, _ => (decide_eq_false (by intro z; cases z)).symm
  | .int _, .non, _, _ => (decide_eq_false (by intro z; cases z)).symm
  | .int _, .str _, _, _ => (decide_eq_false (by intro z; cases z)).symm
  | .int _, .tup _, _, _ => (decide_eq_false (by intro z; cases z)).symm
  | .str _, .non, _, _ => (decide_eq_false (by intro z; cases z)).symm
  | .str _, .int _, _, _ => (decide_eq_false (by intro z; cases z)).symm
  | .str _, .tup _, _, _ => (decide_eq_false (by intro z; cases z)).symm
  | .tup _, .non, _, _ => (decide_eq_false (by intro z; cases z)).symm
  | .tup _, .int _, _, _ => (decide_eq_false (by intro z; cases z)).symm
  | .tup _, .str _, _, _ => (decide_eq_false (by intro z; cases z)).symm
theorem eqvs_plain : ∀ x y : List DV, plains x = true → plains y = true → PyData.eqvAll (dats x) (dats y) = decide (x = y)
  | [], [], _, _ => (decide_eq_true rfl).symm
  | [], _ :: _, _, _ => (decide_eq_false (by intro z; cases z)).symm
  | _ :: _, [], _, _ => (decide_eq_false (by intro z; cases z)).symm
  | a :: r, b :: s, h, g => by
    have h' : (plain a && plains r) = true := h
    have g' : (plain b && plains s) = true := g
    rw [Bool.and_eq_true] at h' g'
    show (PyData.eqv (dat a) (dat b) && PyData.eqvAll (dats r) (dats s)) = _
    rw [eqv_plain a b h'.1 g'.1, eqvs_plain r s h'.2 g'.2]
    by_cases e : a = b
    · by_cases e' : r = s
      · rw [decide_eq_true e, decide_eq_true e', decide_eq_true (by rw [e, e'])]; rfl
      · rw [decide_eq_false e', Bool.and_false, decide_eq_false (fun z => e' (List.cons.inj z).2)]
    · rw [decide_eq_false e, Bool.false_and, decide_eq_false (fun z => e (List.cons.inj z).1)]
end
mutual
theorem RV.dp {K : Frag} {H : Hp} : ∀ {v : V} {d : DV}, RV K H v d → pure_ d = true → Dp K H v (dat d)
  | _, _, .non, _ => .non
  | _, _, .bl b, _ => .bl b
  | _, _, .int i, _ => .int i
  | _, _, .str z, _ => .str z
  | _, _, .ty n, h => by cases h
  | _, _, .ref a, h => by cases h
  | _, _, .tup s t, h => .tup s (RVs.dp t h)
theorem RVs.dp {K : Frag} {H : Hp} : ∀ {v : List V} {d : List DV}, RVs K H v d → pures d = true → DpAll K H v (dats d)
  | _, _, .nil, _ => .nil
  | _, _, .cons (d := d) (ds := ds) h t, g => by
    have g' : (pure_ d && pures ds) = true := g
    rw [Bool.and_eq_true] at g'
    exact .cons (RV.dp h g'.1) (RVs.dp t g'.2)
end
mutual
/-- how deep -/
def dpt : DV → Nat
  | .tup ds => 1 + dpts ds
  | _ => 0
def dpts : List DV → Nat
  | [] => 0
  | d :: r => max (dpt d) (dpts r)
end
mutual
/-- its texts are texts -/
def txB : DV → Bool
  | .str z => PyData.strOk z
  | .tup ds => txBs ds
  | _ => true
def txBs : List DV → Bool
  | [] => true
  | d :: r => txB d && txBs r
end
mutual
theorem lay_dat : ∀ d : DV, txB d = true → PyData.canLay0 (dat d) = true ∧ PyData.depth (dat d) ≤ dpt d
  | .non, _ => ⟨by simp only [dat, PyData.canLay0], by simp only [dat, PyData.depth]; exact Nat.zero_le _⟩
  | .bl _, _ => ⟨by simp only [dat, PyData.canLay0], by simp only [dat, PyData.depth]; exact Nat.zero_le _⟩
  | .int _, _ => ⟨by simp only [dat, PyData.canLay0], by simp only [dat, PyData.depth]; exact Nat.zero_le _⟩
  | .ref _, _ => ⟨by simp only [dat, PyData.canLay0], by simp only [dat, PyData.depth]; exact Nat.zero_le _⟩
  | .ty _, _ => ⟨by simp only [dat, PyData.canLay0], by simp only [dat, PyData.depth]; exact Nat.zero_le _⟩
  | .str z, h => ⟨by simp only [dat, PyData.canLay0]; exact h, by simp only [dat, PyData.depth]; exact Nat.zero_le _⟩
  | .tup ds, h => by
    obtain ⟨a, b⟩ := lays_dat ds h
    refine ⟨by simp only [dat, PyData.canLay0]; exact a, ?_⟩
    simp only [dat, PyData.depth, dpt]
    omega
theorem lays_dat : ∀ ds : List DV, txBs ds = true → PyData.canLayAll0 (dats ds) = true ∧ PyData.depthAll (dats ds) ≤ dpts ds
  | [], _ => ⟨by simp only [dats, PyData.canLayAll0], by simp only [dats, PyData.depthAll]; exact Nat.zero_le _⟩
  | d :: r, h => by
    have h' : (txB d && txBs r) = true := h
    rw [Bool.and_eq_true] at h'
    obtain ⟨a, b⟩ := lay_dat d h'.1
    obtain ⟨a', b'⟩ := lays_dat r h'.2
    refine ⟨by simp only [dats, PyData.canLayAll0, a, a']; rfl, ?_⟩
    simp only [dats, PyData.depthAll, dpts]
    omega
end
theorem shp {d : DV} (h : txB d = true) (l : dpt d ≤ 60) : SeqAt.shaped (dat d) = true := by
  obtain ⟨a, b⟩ := lay_dat d h
  unfold SeqAt.shaped
  rw [a, decide_eq_true (show (dat d).depth ≤ 64 by omega)]; rfl
theorem shpL {ds : List DV} (h : txBs ds = true) (l : dpts ds ≤ 60) : SeqAt.shaped (.list (dats ds)) = true := by
  obtain ⟨a, b⟩ := lays_dat ds h
  have e : (PyData.list (dats ds)).depth ≤ 64 := by simp only [PyData.depth]; omega
  unfold SeqAt.shaped
  rw [decide_eq_true e, Bool.and_true]
  simp only [PyData.canLay0]; exact a
/-- what can be compared -/
structure Cmp (d : DV) : Prop where
  pu : pure_ d = true
  tx : txB d = true
  dp : dpt d ≤ 60
structure Cmps (ds : List DV) : Prop where
  pu : pures ds = true
  tx : txBs ds = true
  dp : dpts ds ≤ 60
theorem shpT {ds : List DV} (c : Cmps ds) : SeqAt.shaped (.tuple (dats ds)) = true := by
  obtain ⟨a, b⟩ := lays_dat ds c.tx
  have l := c.dp
  have e : (PyData.tuple (dats ds)).depth ≤ 64 := by simp only [PyData.depth]; omega
  unfold SeqAt.shaped
  rw [decide_eq_true e, Bool.and_true]
  simp only [PyData.canLay0]; exact a
section
variable {X : Cx}
theorem wd_list {K : Frag} {H : Hp} {G : DG} {p : Addr} {ds : List DV} (w : Wd K H G) (e : G p = some (.lst ds)) : ∃ xs, H p = some (.lst xs) ∧ RVs K H xs ds := by
  obtain ⟨O, w⟩ := w
  exact w.ob p _ e
/-- a list that can be read -/
def Ls (G : DG) (p : Addr) (ds : List DV) : Prop := G p = some (.lst ds) ∨ G p = some (.ro ds)
theorem wd_seq {K : Frag} {H : Hp} {G : DG} {p : Addr} {ds : List DV} (w : Wd K H G) (e : Ls G p ds) : ∃ xs, SqL K H p xs ∧ RVs K H xs ds := by
  obtain ⟨O, w⟩ := w
  rcases e with e | e
  · obtain ⟨xs, h, r⟩ := w.ob p _ e
    exact ⟨xs, SqL.of h, r⟩
  · obtain ⟨xs, h, r⟩ := w.ob p _ e
    exact ⟨xs, .inl h, r⟩
/-- not, where n -/
def ng : Bool → Bool → Bool
  | true, b => !b
  | false, b => b
/-- == and != (n: !=) -/
def bEq (n : Bool) : D2
  | .str a, .str b, G, Q => Q (.bl (ng n (decide (a = b)))) G
  | .int a, .int b, G, Q => Q (.bl (ng n (decide (a = b)))) G
  | .bl a, .bl b, G, Q => Q (.bl (ng n (decide (a = b)))) G
  | .str a, .non, G, Q => Q (.bl n) G
  | .int a, .non, G, Q => Q (.bl n) G
  | .str a, .int b, G, Q => Q (.bl n) G
  | .int a, .str b, G, Q => Q (.bl n) G
  | .bl a, .str b, G, Q => Q (.bl n) G
  | .non, .str b, G, Q => Q (.bl n) G
  | .ref p, .ref q, G, Q => ∃ xs ys, Ls G p xs ∧ Ls G q ys ∧ ((n = false ∧ ys = [] ∧ Q (.bl xs.isEmpty) G) ∨ (Cmps xs ∧ Cmps ys ∧ Q (.bl (ng n (PyData.eqvAll (dats xs) (dats ys)))) G))
  | .tup a, .tup b, G, Q => (n = false ∧ b = [] ∧ Q (.bl a.isEmpty) G) ∨ (Cmps a ∧ Cmps b ∧ Q (.bl (ng n (PyData.eqvAll (dats a) (dats b)))) G)
  | x, y, G, Q => Cmp x ∧ Cmp y ∧ Q (.bl (ng n (PyData.eqv (dat x) (dat y)))) G
theorem dV_str (a b : Str) : decide (V.str a = V.str b) = decide (a = b) := by
  by_cases e : a = b
  · rw [decide_eq_true e, decide_eq_true (by rw [e])]
  · rw [decide_eq_false e, decide_eq_false (fun z => e (V.str.inj z))]
theorem dV_int (a b : Int) : decide (V.int a = V.int b) = decide (a = b) := by
  by_cases e : a = b
  · rw [decide_eq_true e, decide_eq_true (by rw [e])]
  · rw [decide_eq_false e, decide_eq_false (fun z => e (V.int.inj z))]
theorem dV_bl (a b : Bool) : decide (V.bl a = V.bl b) = decide (a = b) := by
  by_cases e : a = b
  · rw [decide_eq_true e, decide_eq_true (by rw [e])]
  · rw [decide_eq_false e, decide_eq_false (fun z => e (V.bl.inj z))]
theorem flat_up {K : Frag} {H : Hp} {G : DG} {R : DK} {Q : VK} {b : Bool} (w : Wd K H G) (f : Fin K H R Q) (h : R (.bl b) G) : Q (.bl b) H := f _ G _ H h (TKs.refl H) w (.bl b)
theorem od_eq (hu : X.A.units + 64 < cLine) : OpD X (compareOp .Eq) (bEq false) := by
  refine ⟨_, op_eq.or ((op_eqNil hu).or ((op_eqNilT hu).or (op_eqD hu))), fun x y vx vy H G R Q rx ry w h f => ?_⟩
  have gen : (Cmp x ∧ Cmp y ∧ R (.bl (ng false (PyData.eqv (dat x) (dat y)))) G) → (rEq vx vy H Q ∨ rEqNil X.K vx vy H Q ∨ rEqNilT X.K vx vy H Q ∨ rEqD X.K vx vy H Q) := fun ⟨c1, c2, q⟩ =>
    .inr (.inr (.inr ⟨_, _, rx.dp c1.pu, ry.dp c2.pu, shp c1.tx c1.dp, shp c2.tx c2.dp, flat_up w f q⟩))
  have no : decide (vx = vy) = false → scal vx vy = true → R (.bl false) G → (rEq vx vy H Q ∨ rEqNil X.K vx vy H Q ∨ rEqNilT X.K vx vy H Q ∨ rEqD X.K vx vy H Q) := fun e s q => .inl ⟨s, by rw [e]; exact flat_up w f q⟩
  cases rx with
  | str a =>
    cases ry with
    | str b => exact .inl ⟨rfl, by rw [dV_str]; exact flat_up w f h⟩
    | non => exact no (decide_eq_false (by intro z; cases z)) rfl h
    | int b => exact no (decide_eq_false (by intro z; cases z)) rfl h
    | _ => exact gen h
  | int a =>
    cases ry with
    | int b => exact .inl ⟨rfl, by rw [dV_int]; exact flat_up w f h⟩
    | non => exact no (decide_eq_false (by intro z; cases z)) rfl h
    | str b => exact no (decide_eq_false (by intro z; cases z)) rfl h
    | _ => exact gen h
  | bl a =>
    cases ry with
    | bl b => exact .inl ⟨rfl, by rw [dV_bl]; exact flat_up w f h⟩
    | str b => exact no (decide_eq_false (by intro z; cases z)) rfl h
    | _ => exact gen h
  | non =>
    cases ry with
    | str b => exact no (decide_eq_false (by intro z; cases z)) rfl h
    | _ => exact gen h
  | ty n => cases ry <;> exact gen h
  | tup s r =>
    cases ry with
    | tup s' r' =>
      rcases h with ⟨_, e, q⟩ | ⟨c1, c2, q⟩
      · subst e
        cases r'
        exact .inr (.inr (.inl ⟨_, _, _, rfl, rfl, s, s', by rw [r.isEmpty]; exact flat_up w f q⟩))
      · exact .inr (.inr (.inr ⟨_, _, .tup s (r.dp c1.pu), .tup s' (r'.dp c2.pu), shpT c1, shpT c2, flat_up w f q⟩))
    | _ => exact gen h
  | ref p =>
    cases ry with
    | ref q =>
      obtain ⟨xs, ys, l1, l2, ⟨_, e, q⟩ | ⟨c1, c2, q⟩⟩ := h
      · obtain ⟨us, h1, r1⟩ := wd_seq w l1
        obtain ⟨vs, h2, r2⟩ := wd_seq w l2
        subst e
        cases r2
        exact .inr (.inl ⟨_, _, _, rfl, rfl, h1, h2, by rw [r1.isEmpty]; exact flat_up w f q⟩)
      · obtain ⟨us, h1, r1⟩ := wd_seq w l1
        obtain ⟨vs, h2, r2⟩ := wd_seq w l2
        exact .inr (.inr (.inr ⟨_, _, .lst h1 (r1.dp c1.pu), .lst h2 (r2.dp c2.pu), shpL c1.tx c1.dp, shpL c2.tx c2.dp, flat_up w f q⟩))
    | _ => exact gen h
theorem od_ne (hu : X.A.units + 64 < cLine) : OpD X (compareOp .NotEq) (bEq true) := by
  refine ⟨_, op_ne.or (op_neD hu), fun x y vx vy H G R Q rx ry w h f => ?_⟩
  have gen : (Cmp x ∧ Cmp y ∧ R (.bl (ng true (PyData.eqv (dat x) (dat y)))) G) → (rNe vx vy H Q ∨ rNeD X.K vx vy H Q) := fun ⟨c1, c2, q⟩ =>
    .inr ⟨_, _, rx.dp c1.pu, ry.dp c2.pu, shp c1.tx c1.dp, shp c2.tx c2.dp, flat_up w f q⟩
  have no : decide (vx = vy) = false → scal vx vy = true → R (.bl true) G → (rNe vx vy H Q ∨ rNeD X.K vx vy H Q) := fun e s q => .inl ⟨s, by rw [e]; exact flat_up w f q⟩
  cases rx with
  | str a =>
    cases ry with
    | str b => exact .inl ⟨rfl, by rw [dV_str]; exact flat_up w f h⟩
    | non => exact no (decide_eq_false (by intro z; cases z)) rfl h
    | int b => exact no (decide_eq_false (by intro z; cases z)) rfl h
    | _ => exact gen h
  | int a =>
    cases ry with
    | int b => exact .inl ⟨rfl, by rw [dV_int]; exact flat_up w f h⟩
    | non => exact no (decide_eq_false (by intro z; cases z)) rfl h
    | str b => exact no (decide_eq_false (by intro z; cases z)) rfl h
    | _ => exact gen h
  | bl a =>
    cases ry with
    | bl b => exact .inl ⟨rfl, by rw [dV_bl]; exact flat_up w f h⟩
    | str b => exact no (decide_eq_false (by intro z; cases z)) rfl h
    | _ => exact gen h
  | non =>
    cases ry with
    | str b => exact no (decide_eq_false (by intro z; cases z)) rfl h
    | _ => exact gen h
  | ty n => cases ry <;> exact gen h
  | tup s r =>
    cases ry with
    | tup s' r' =>
      rcases h with ⟨e, _⟩ | ⟨c1, c2, q⟩
      · cases e
      · exact .inr ⟨_, _, .tup s (r.dp c1.pu), .tup s' (r'.dp c2.pu), shpT c1, shpT c2, flat_up w f q⟩
    | _ => exact gen h
  | ref p =>
    cases ry with
    | ref q =>
      obtain ⟨xs, ys, l1, l2, ⟨e, _⟩ | ⟨c1, c2, q⟩⟩ := h
      · cases e
      · obtain ⟨us, h1, r1⟩ := wd_seq w l1
        obtain ⟨vs, h2, r2⟩ := wd_seq w l2
        exact .inr ⟨_, _, .lst h1 (r1.dp c1.pu), .lst h2 (r2.dp c2.pu), shpL c1.tx c1.dp, shpL c2.tx c2.dp, flat_up w f q⟩
    | _ => exact gen h
/-! ### in -/
def toV : DV → V
  | .non => .non
  | .bl b => .bl b
  | .int i => .int i
  | .str z => .str z
  | _ => .ref 0
def flatD : DV → Bool
  | .non => true
  | .bl _ => true
  | .int _ => true
  | .str _ => true
  | _ => false
def inD (x : DV) (ds : List DV) : Bool := inV (toV x) (ds.map toV)
theorem toV_eq {K : Frag} {H : Hp} {v : V} {d : DV} (r : RV K H v d) (h : flatD d = true) : v = toV d ∧ flatV v = true := by
  cases r <;> first | exact ⟨rfl, rfl⟩ | cases h
theorem toVs_eq {K : Frag} {H : Hp} : ∀ {v : List V} {d : List DV}, RVs K H v d → d.all flatD = true → v = d.map toV ∧ v.all flatV = true
  | _, _, .nil, _ => ⟨rfl, rfl⟩
  | _, _, .cons r t, h => by
    rw [List.all_cons, Bool.and_eq_true] at h
    obtain ⟨a, b⟩ := toV_eq r h.1
    obtain ⟨c, e⟩ := toVs_eq t h.2
    refine ⟨by rw [a, c]; rfl, by rw [List.all_cons, b, e]; rfl⟩
def bIn (n : Bool) : D2
  | .str a, .str b, G, Q => ∃ c, a = ⟨#[c]⟩ ∧ Q (.bl (ng n (decide (c ∈ b.cps.toList)))) G
  | x, .tup ds, G, Q => flatD x = true ∧ ds.all flatD = true ∧ Q (.bl (ng n (inD x ds))) G
  | x, .ref p, G, Q => ∃ ds, Ls G p ds ∧ flatD x = true ∧ ds.all flatD = true ∧ Q (.bl (ng n (inD x ds))) G
  | _, _, _, _ => False
theorem od_in : OpD X (compareOp .In) (bIn false) := by
  refine ⟨_, op_in_sign.or op_in_seq, fun x y vx vy H G R Q rx ry w h f => ?_⟩
  cases ry with
  | str b =>
    cases rx with
    | str a => obtain ⟨c, rfl, q⟩ := h; exact .inl ⟨c, b, rfl, rfl, flat_up w f q⟩
    | _ => exact h.elim
  | tup s r =>
    rename_i qa qx qd
    have h' : flatD x = true ∧ qd.all flatD = true ∧ R (.bl (ng false (inD x qd))) G := by cases rx <;> exact h
    obtain ⟨h1, h2, q⟩ := h'
    obtain ⟨e1, e2⟩ := toV_eq rx h1
    obtain ⟨e3, e4⟩ := toVs_eq r h2
    exact .inr ⟨_, _, rfl, .inr s, e2, e4, by show Q (.bl (inV vx _)) H; rw [e1, e3]; exact flat_up w f q⟩
  | ref p =>
    have h' : ∃ ds, Ls G p ds ∧ flatD x = true ∧ ds.all flatD = true ∧ R (.bl (ng false (inD x ds))) G := by cases rx <;> exact h
    obtain ⟨ds, l, h1, h2, q⟩ := h'
    obtain ⟨us, hs, r⟩ := wd_seq w l
    obtain ⟨e1, e2⟩ := toV_eq rx h1
    obtain ⟨e3, e4⟩ := toVs_eq r h2
    exact .inr ⟨_, _, rfl, .inl hs, e2, e4, by show Q (.bl (inV vx _)) H; rw [e1, e3]; exact flat_up w f q⟩
  | _ => cases rx <;> exact h.elim
theorem od_notin : OpD X (compareOp .NotIn) (bIn true) := by
  refine ⟨_, op_notIn_sign.or op_notIn_seq, fun x y vx vy H G R Q rx ry w h f => ?_⟩
  cases ry with
  | str b =>
    cases rx with
    | str a => obtain ⟨c, rfl, q⟩ := h; exact .inl ⟨c, b, rfl, rfl, flat_up w f q⟩
    | _ => exact h.elim
  | tup s r =>
    rename_i qa qx qd
    have h' : flatD x = true ∧ qd.all flatD = true ∧ R (.bl (ng true (inD x qd))) G := by cases rx <;> exact h
    obtain ⟨h1, h2, q⟩ := h'
    obtain ⟨e1, e2⟩ := toV_eq rx h1
    obtain ⟨e3, e4⟩ := toVs_eq r h2
    exact .inr ⟨_, _, rfl, .inr s, e2, e4, by show Q (.bl (!inV vx _)) H; rw [e1, e3]; exact flat_up w f q⟩
  | ref p =>
    have h' : ∃ ds, Ls G p ds ∧ flatD x = true ∧ ds.all flatD = true ∧ R (.bl (ng true (inD x ds))) G := by cases rx <;> exact h
    obtain ⟨ds, l, h1, h2, q⟩ := h'
    obtain ⟨us, hs, r⟩ := wd_seq w l
    obtain ⟨e1, e2⟩ := toV_eq rx h1
    obtain ⟨e3, e4⟩ := toVs_eq r h2
    exact .inr ⟨_, _, rfl, .inl hs, e2, e4, by show Q (.bl (!inV vx _)) H; rw [e1, e3]; exact flat_up w f q⟩
  | _ => cases rx <;> exact h.elim
end
end DD
namespace DD
open PySem PySem.W L2 SX Cm
section
variable {X : Cx}
/-! ### x[i] -/
def bIx : D2
  | .tup ds, .int i, G, Q => ∃ d, atI ds i = some d ∧ Q d G
  | .str z, .int i, G, Q => z.length ≤ sizeLine ∧ ∃ c, atI z.cps.toList i = some c ∧ Q (.str ⟨#[c]⟩) G
  | .ref p, .int i, G, Q => (∃ ds d, Ls G p ds ∧ atI ds i = some d ∧ Q d G) ∨ (G p = some .cnt ∧ i = 0 ∧ ∀ n, Q (.int n) G)
  | _, _, _, _ => False
theorem de_ix {e1 e2 : Expr} {ta tb : TD} {pos : Pos} (ha : DE X e1 ta) (hb : DE X e2 tb) (hs : PlainIx e2 := by exact fun _ _ => rfl) : DE X (.Subscript e1 e2 pos) (dOp bIx ta tb) := by
  refine PE_mono (pe_ix (ix_seq (X := X)) ha hb hs) fun σ H Q h => bin_up (r := rIx X.K) (fun x y vx vy H G R Q rx ry w h f => ?_) h
  cases ry with
  | int i =>
    cases rx with
    | tup s r =>
      obtain ⟨d, e, q⟩ := h
      obtain ⟨v, e', rv⟩ := r.atI e
      exact .inr (.inl ⟨_, _, i, v, rfl, rfl, s, e', f _ G _ H q (TKs.refl H) w rv⟩)
    | str z =>
      obtain ⟨hl, c, e, q⟩ := h
      exact .inr (.inr ⟨z, i, c, rfl, rfl, hl, e, f _ G _ H q (TKs.refl H) w (.str _)⟩)
    | ref p =>
      rcases h with ⟨ds, d, l, e, q⟩ | ⟨l, rfl, q⟩
      · obtain ⟨us, hs, r⟩ := wd_seq w l
        obtain ⟨v, e', rv⟩ := r.atI e
        exact .inl ⟨p, us, i, v, rfl, rfl, hs, e', f _ G _ H q (TKs.refl H) w rv⟩
      · obtain ⟨O, w'⟩ := id w
        obtain ⟨n, hn⟩ := w'.ob p _ l
        exact .inl ⟨p, _, 0, .int n, rfl, rfl, SqL.of hn, atI_nat (j := 0) rfl, f _ G _ H (q n) (TKs.refl H) w (.int n)⟩
    | _ => exact h.elim
  | _ => cases rx <;> exact h.elim
/-! ### slices -/
abbrev TDO := DSt → DG → (Option Int → DG → Prop) → Prop
def upO (K : Frag) (t : TDO) : TO := fun σ H Q => ∃ δ G R, Sl K H σ δ ∧ Wd K H G ∧ t δ G R ∧ ∀ o G' H', R o G' → TKs K H H' → Wd K H' G' → Q o H'
abbrev DO_ (X : Cx) (e : Option Expr) (t : TDO) : Prop := PO X e (upO X.K t)
theorem PO_mono {e : Option Expr} {t t' : TO} (h : PO X e t) (i : ∀ σ H Q, t' σ H Q → t σ H Q) : PO X e t' := ⟨fun pins s σ H Q I q => h.run pins s σ H Q I (i σ H Q q)⟩
def dNone : TDO := fun _ G Q => Q none G
def dSome (t : TD) : TDO := fun δ G Q => t δ G fun d G' => ∃ i, d = .int i ∧ Q (some i) G'
theorem do_none : DO_ X none dNone := PO_mono po_none fun σ H Q ⟨δ, G, R, sl, w, q, f⟩ => f _ G H q (TKs.refl H) w
theorem do_some {e : Expr} {t : TD} (h : DE X e t) : DO_ X (some e) (dSome t) := PO_mono (po_some h) fun σ H Q ⟨δ, G, R, sl, w, q, f⟩ =>
  ⟨δ, G, _, sl, w, q, fun d G' v H' ⟨i, e, q⟩ t' w' rv => by subst e; cases rv; exact ⟨i, rfl, f _ G' H' q t' w'⟩⟩
def bSl : DV → Option Int → Option Int → DG → DK → Prop
  | .tup ds, lo, hi, G, Q => Q (.tup (cutD ds lo hi)) G
  | .str z, lo, hi, G, Q => z.length ≤ sizeLine ∧ Q (.str (cutS z lo hi)) G
  | .ref p, lo, hi, G, Q => ∃ ds, Ls G p ds ∧ ∀ r, G r = none → Q (.ref r) (dupd G r (.lst (cutD ds lo hi)))
  | _, _, _, _, _ => False
def dSl (te : TD) (tl th : TDO) : TD := fun δ G Q => te δ G fun x G1 => tl δ G1 fun l G2 => th δ G2 fun u G3 => bSl x l u G3 Q
theorem de_slice {e : Expr} {lo hi : Option Expr} {te : TD} {tl th : TDO} {p2 pos : Pos} (he : DE X e te) (hl : DO_ X lo tl) (hu : DO_ X hi th) : DE X (.Subscript e (.Slice lo hi none p2) pos) (dSl te tl th) := by
  refine PE_mono (pe_slice (sl_tupA.or (sl_str.or sl_list)) he hl hu) fun σ H Q ⟨δ, G, R, sl, w, q, f⟩ => ?_
  refine ⟨δ, G, _, sl, w, q, fun x G1 vx H1 q1 t1 w1 r1 => ⟨δ, G1, _, sl.mono t1, w1, q1, fun l G2 H2 q2 t2 w2 => ⟨δ, G2, _, sl.mono (t1.trans t2), w2, q2, fun u G3 H3 h t3 w => ?_⟩⟩⟩
  have f := f.step ((t1.trans t2).trans t3)
  have rx := r1.mono (t2.trans t3)
  cases rx with
  | tup s r =>
    rename_i a xs ds
    refine .inl ⟨_, _, rfl, s, fun e => ?_, fun _ p np => ?_⟩
    · rw [r.len] at e
      have h : R (.tup (cutD ds l u)) G3 := h
      rw [cutD_all e] at h
      exact f _ _ _ _ h (TKs.refl _) w (.tup s r)
    · have s' := same_new np (.tup (cutV xs l u))
      exact f _ _ _ _ h (TKs.of s') (w.same s') (.tup (SqT.of upd_same) ((r.cut l u).mono (.of s')))
  | str z => exact .inr (.inl ⟨z, rfl, h.1, f _ _ _ _ h.2 (TKs.refl _) w (.str _)⟩)
  | ref p =>
    obtain ⟨ds, ls, q⟩ := h
    obtain ⟨us, hs, r⟩ := wd_seq w ls
    refine .inr (.inr ⟨p, us, rfl, hs, fun r' nr => ?_⟩)
    have s' := same_new nr (.lst (cutV us l u))
    exact f _ _ _ _ (q r' (w.free nr)) (TKs.of s') (w.new nr fun O => ⟨_, upd_same, (r.cut l u).mono (.of s')⟩) (.ref r')
  | _ => exact h.elim
/-- t[::-1] -/
def dRev (te : TD) : TD := fun δ G Q => te δ G fun x G1 => ∃ ds, x = .tup ds ∧ Q (.tup ds.reverse) G1
/-! ### tests -/
def bTru : DV → DG → (Bool → DG → Prop) → Prop
  | .non, G, Q => Q false G
  | .bl b, G, Q => Q b G
  | .int i, G, Q => Q (i != 0) G
  | .str z, G, Q => z.length ≤ sizeLine ∧ Q ((z.length : Int) != 0) G
  | .tup ds, G, Q => Q (!ds.isEmpty) G
  | .ref p, G, Q => (∃ ds, Ls G p ds ∧ Q (!ds.isEmpty) G) ∨ (∃ kvs, G p = some (.dct kvs) ∧ Q (!kvs.isEmpty) G)
  | .ty _, _, _ => False
def dTru (t : TD) : TDT := fun δ G Q => t δ G fun d G' => bTru d G' Q
theorem KRV.isEmpty {K : Frag} {H : Hp} {v : List (Key × V)} {d : List (Key × DV)} (h : KRV K H v d) : v.isEmpty = d.isEmpty := by cases h <;> rfl
theorem dt_e {e : Expr} {t : TD} (he : DE X e t) (hp : ∀ whole, isTrue e X.env whole = (do let v ← whole; standAt e.pos; holding [v] (truthy v)) := by intro _; rfl) : DT X e (dTru t) := by
  refine PT_mono (pt_truth he hp) fun σ H Q ⟨δ, G, R, sl, w, q, f⟩ => ⟨δ, G, _, sl, w, q, fun d G' v H' h t' w' rv => ?_⟩
  cases rv with
  | non => exact ⟨_, rfl, f _ _ _ h t' w'⟩
  | bl b => exact ⟨_, rfl, f _ _ _ h t' w'⟩
  | int i => exact ⟨_, rfl, f _ _ _ h t' w'⟩
  | str z => exact ⟨_, ⟨h.1, rfl⟩, f _ _ _ h.2 t' w'⟩
  | ty n => exact h.elim
  | tup s r => exact ⟨_, .inr (.inl ⟨_, s, by rw [r.isEmpty]⟩), f _ _ _ h t' w'⟩
  | ref p =>
    rcases h with ⟨ds, l, q⟩ | ⟨kvs, l, q⟩
    · obtain ⟨us, hs, r⟩ := wd_seq w' l
      exact ⟨_, .inl ⟨_, hs, by rw [r.isEmpty]⟩, f _ _ _ q t' w'⟩
    · obtain ⟨O, wo⟩ := id w'
      obtain ⟨ks, hk, r⟩ := wo.ob p _ l
      exact ⟨_, .inr (.inr ⟨_, hk, by rw [r.isEmpty]⟩), f _ _ _ q t' w'⟩
def dAnd (t u : TDT) : TDT := fun δ G Q => t δ G fun c G1 => if c = true then u δ G1 Q else Q false G1
def dOr (t u : TDT) : TDT := fun δ G Q => t δ G fun c G1 => if c = true then Q true G1 else u δ G1 Q
def dNot (t : TDT) : TDT := fun δ G Q => t δ G fun c G1 => Q (!c) G1
variable {a b c : Expr} {rest : List Expr} {ta tb : TDT} {pos : Pos}
theorem dw_and1 (ha : DT X a ta) : DW X (.BoolOp .And [a] pos) ta := pw_and1 ha
theorem dw_or1 (ha : DT X a ta) : DW X (.BoolOp .Or [a] pos) ta := pw_or1 ha
theorem dw_and (ha : DT X a ta) (hb : DW X (.BoolOp .And (b :: rest) pos) tb) : DW X (.BoolOp .And (a :: b :: rest) pos) (dAnd ta tb) :=
  PW_mono (pw_and ha hb) fun σ H Q ⟨δ, G, R, sl, w, q, f⟩ => ⟨δ, G, _, sl, w, q, fun k G' H' h t' w' => by
    cases k with
    | true => exact iteT ⟨δ, G', R, sl.mono t', w', h, fun k2 G2 H2 q2 t2 w2 => f k2 G2 H2 q2 (t'.trans t2) w2⟩
    | false => exact iteF (f _ _ _ h t' w')⟩
theorem dw_or (ha : DT X a ta) (hb : DW X (.BoolOp .Or (b :: rest) pos) tb) : DW X (.BoolOp .Or (a :: b :: rest) pos) (dOr ta tb) :=
  PW_mono (pw_or ha hb) fun σ H Q ⟨δ, G, R, sl, w, q, f⟩ => ⟨δ, G, _, sl, w, q, fun k G' H' h t' w' => by
    cases k with
    | false => exact iteF ⟨δ, G', R, sl.mono t', w', h, fun k2 G2 H2 q2 t2 w2 => f k2 G2 H2 q2 (t'.trans t2) w2⟩
    | true => exact iteT (f _ _ _ h t' w')⟩
theorem dt_w (h : DW X a ta) : DT X a ta := PW.pt h
theorem dt_not (ha : DT X a ta) : DT X (.UnaryOp .Not a pos) (dNot ta) :=
  PT_mono (pt_not ha) fun σ H Q ⟨δ, G, R, sl, w, q, f⟩ => ⟨δ, G, _, sl, w, q, fun k G' H' h t' w' => f _ _ _ h t' w'⟩
/-! and, or, not as values: truths -/
variable {ua ub : TD}
def dAndV (t u : TD) : TD := fun δ G Q => t δ G fun x G1 => ∃ c, x = .bl c ∧ if c = true then u δ G1 Q else Q (.bl false) G1
def dOrV (t u : TD) : TD := fun δ G Q => t δ G fun x G1 => ∃ c, x = .bl c ∧ if c = true then Q (.bl true) G1 else u δ G1 Q
def dNotV (t : TD) : TD := fun δ G Q => t δ G fun x G1 => ∃ c, x = .bl c ∧ Q (.bl (!c)) G1
theorem de_one {op} (h : DE X a ua) : DE X (.BoolOp op [a] pos) ua := pe_one h
theorem de_and (ha : DE X a ua) (hb : DE X (.BoolOp .And (b :: rest) pos) ub) : DE X (.BoolOp .And (a :: b :: rest) pos) (dAndV ua ub) :=
  PE_mono (pe_and ha hb) fun σ H Q ⟨δ, G, R, sl, w, q, f⟩ => ⟨δ, G, _, sl, w, q, fun d G' v H' ⟨c, e, h⟩ t' w' rv => by
    subst e
    cases rv
    refine ⟨c, rfl, ?_⟩
    cases c with
    | true => exact iteT ⟨δ, G', R, sl.mono t', w', h, f.step t'⟩
    | false => exact iteF (f _ _ _ _ h t' w' (.bl _))⟩
theorem de_not (ha : DE X a ua) : DE X (.UnaryOp .Not a pos) (dNotV ua) :=
  PE_mono (pe_not ha) fun σ H Q ⟨δ, G, R, sl, w, q, f⟩ => ⟨δ, G, _, sl, w, q, fun d G' v H' ⟨c, e, h⟩ t' w' rv => by
    subst e
    cases rv
    exact ⟨c, rfl, f _ _ _ _ h t' w' (.bl _)⟩⟩
def dNeg (t : TD) : TD := fun δ G Q => t δ G fun x G1 => ∃ i, x = .int i ∧ Q (.int (-i)) G1
def dIf (t : TDT) (u v : TD) : TD := fun δ G Q => t δ G fun c G1 => if c = true then u δ G1 Q else v δ G1 Q
/-! ### arguments, displays -/
def dNil : TDA := fun _ G Q => Q [] G
def dCons (t : TD) (u : TDA) : TDA := fun δ G Q => t δ G fun x G1 => u δ G1 fun xs G2 => Q (x :: xs) G2
variable {e : Expr} {es : List Expr} {te : TD} {ts : TDA}
theorem da_nil : DA X [] dNil := PA_mono pa_nil fun σ H Q ⟨δ, G, R, sl, w, q, f⟩ => f _ _ _ _ q (TKs.refl _) w .nil
theorem da_cons (ha : DE X e te) (hr : DA X es ts) (hs : starEach (e :: es) X.env = (false, eval e X.env) :: starEach es X.env := by rfl) : DA X (e :: es) (dCons te ts) :=
  PA_mono (pa_cons ha hr hs) fun σ H Q ⟨δ, G, R, sl, w, q, f⟩ => ⟨δ, G, _, sl, w, q, fun d G1 v H1 h1 t1 w1 r1 => ⟨δ, G1, _, sl.mono t1, w1, h1, fun ds G2 vs H2 h2 t2 w2 r2 => f _ _ _ _ h2 (t1.trans t2) w2 (.cons (r1.mono t2) r2)⟩⟩
def dTup (t : TDA) : TD := fun δ G Q => t δ G fun ds G1 => ds.length ≤ sizeLine ∧ Q (.tup ds) G1
def dLst (t : TDA) : TD := fun δ G Q => t δ G fun ds G1 => ds.length ≤ sizeLine ∧ ∀ p, G1 p = none → Q (.ref p) (dupd G1 p (.lst ds))
theorem de_tup {x1} (h : DA X es ts) : DE X (.Tuple es x1 pos) (dTup ts) :=
  PE_mono (pe_tup h) fun σ H Q ⟨δ, G, R, sl, w, q, f⟩ => ⟨δ, G, _, sl, w, q, fun ds G1 vs H1 h1 t1 w1 r1 => ⟨by rw [r1.len]; exact h1.1, fun p np => by
    have s' := same_new np (.tup vs)
    exact f _ _ _ _ h1.2 (t1.trans (TKs.of s')) (w1.same s') (.tup (SqT.of upd_same) (r1.mono (.of s')))⟩⟩
theorem de_lst (h : DA X es ts) : DE X (.List es pos) (dLst ts) :=
  PE_mono (pe_lst h) fun σ H Q ⟨δ, G, R, sl, w, q, f⟩ => ⟨δ, G, _, sl, w, q, fun ds G1 vs H1 h1 t1 w1 r1 => ⟨by rw [r1.len]; exact h1.1, fun p np => by
    have s' := same_new np (.lst vs)
    exact f _ _ _ _ (h1.2 p (w1.free np)) (t1.trans (TKs.of s')) (w1.new np fun O => ⟨_, upd_same, r1.mono (.of s')⟩) (.ref p)⟩⟩
/-! ### calls of builtins -/
abbrev DC := List DV → DG → DK → Prop
def CallD (X : Cx) (f : Value) (b : DC) : Prop := ∃ r, CallR X f r ∧ ∀ ds vs H G R Q, RVs X.K H vs ds → Wd X.K H G → b ds G R → Fin X.K H R Q → r vs H Q
def dCB (b : DC) (t : TDA) : TD := fun δ G Q => t δ G fun ds G1 => b ds G1 Q
theorem de_callB {x : Str} {id : String} {b : DC} {p pos : Pos} (hc : CallD X (.builtin id) b) (hm : X.mg x = none) (hg : Gl X x) (hv : bootBuiltins x = some (.builtin id)) (ha : DA X (e :: es) ts) (hn : x ≠ "__name__" := by decide) (hdb : (x == ("__debug__" : Str)) = false := by decide)
    (he : starEach (e :: es) X.env = (false, eval e X.env) :: starEach es X.env := by rfl) (hpl : (backTo pos (starEach es X.env)).any (·.1) = false := by rfl) : DE X (.Call (.Name x p) (e :: es) [] pos) (dCB b ts) := by
  obtain ⟨r, hr, ok⟩ := hc
  exact PE_mono (pe_callB hr hg hm hv ha hn hdb he hpl) fun σ H Q ⟨δ, G, R, sl, w, q, f⟩ => ⟨δ, G, _, sl, w, q, fun ds G1 vs H1 h1 t1 w1 r1 => ok ds vs H1 G1 R Q r1 w1 h1 (f.step t1)⟩
theorem de_callTy {x : Str} {T : String} {b : DC} {p pos : Pos} (hc : CallD X (.type T) b) (hm : X.mg x = none) (hg : Gl X x) (hv : bootBuiltins x = some (.type T)) (ha : DA X (e :: es) ts) (hn : x ≠ "__name__" := by decide) (hdb : (x == ("__debug__" : Str)) = false := by decide)
    (he : starEach (e :: es) X.env = (false, eval e X.env) :: starEach es X.env := by rfl) (hpl : (backTo pos (starEach es X.env)).any (·.1) = false := by rfl) : DE X (.Call (.Name x p) (e :: es) [] pos) (dCB b ts) := by
  obtain ⟨r, hr, ok⟩ := hc
  exact PE_mono (pe_callTy hr hg hm hv ha hn hdb he hpl) fun σ H Q ⟨δ, G, R, sl, w, q, f⟩ => ⟨δ, G, _, sl, w, q, fun ds G1 vs H1 h1 t1 w1 r1 => ok ds vs H1 G1 R Q r1 w1 h1 (f.step t1)⟩
end
end DD
namespace DD
open PySem PySem.W L2 SX Cm
section
variable {X : Cx}
/-! ### builtins -/
def bLen : DC
  | [.tup ds], G, Q => Q (.int ds.length) G
  | [.str z], G, Q => z.length ≤ sizeLine ∧ Q (.int z.length) G
  | [.ref p], G, Q => (∃ ds, Ls G p ds ∧ Q (.int ds.length) G) ∨ (∃ kvs, G p = some (.dct kvs) ∧ Q (.int kvs.length) G)
  | _, _, _ => False
theorem KRV.len {K : Frag} {H : Hp} {v : List (Key × V)} {d : List (Key × DV)} (h : KRV K H v d) : v.length = d.length := by
  induction h with
  | nil => rfl
  | cons _ _ ih => exact congrArg (· + 1) ih
theorem cd_len : CallD X (.builtin "len") bLen := by
  refine ⟨_, call_len_seq.or (call_len_str.or call_lenD), fun ds vs H G R Q r w h f => ?_⟩
  cases r with
  | nil => exact h.elim
  | cons rv rt =>
    cases rt with
    | cons _ _ => cases rv <;> exact h.elim
    | nil =>
      cases rv with
      | tup s r => exact .inl ⟨_, _, rfl, .inr s, by rw [r.len]; exact f _ _ _ _ h (TKs.refl H) w (.int _)⟩
      | str z => exact .inr (.inl ⟨z, rfl, h.1, f _ _ _ _ h.2 (TKs.refl H) w (.int _)⟩)
      | ref p =>
        rcases h with ⟨ds, l, q⟩ | ⟨kvs, l, q⟩
        · obtain ⟨us, hs, r⟩ := wd_seq w l
          exact .inl ⟨p, us, rfl, .inl hs, by rw [r.len]; exact f _ _ _ _ q (TKs.refl H) w (.int _)⟩
        · obtain ⟨O, wo⟩ := id w
          obtain ⟨ks, hk, r⟩ := wo.ob p _ l
          exact .inr (.inr ⟨p, ks, rfl, hk, by rw [r.len]; exact f _ _ _ _ q (TKs.refl H) w (.int _)⟩)
      | _ => exact h.elim
/-- the type of a value, where it is known -/
def tyN : DV → String
  | .non => "NoneType"
  | .bl _ => "bool"
  | .int _ => "int"
  | .str _ => "str"
  | .tup _ => "tuple"
  | .ty _ => "type"
  | .ref _ => "object"
/-- isinstance of built-in types -/
def tyB (a t : String) : Bool := a == t || (a == "bool" && t == "int")
def tysK : List String := ["tuple", "str", "int", "bool", "list", "dict"]
theorem kit_tab : ∀ a ∈ ["NoneType", "bool", "int", "str", "tuple", "list", "dict"], ∀ t ∈ tysK, kitB a t = some (tyB a t) := by decide +kernel
def TyAt (G : DG) : DV → String → Prop
  | .ref p, a => (a = "list" ∧ (G p = some .cnt ∨ (∃ ds, Ls G p ds))) ∨ (a = "dict" ∧ ∃ kvs, G p = some (.dct kvs))
  | .ty _, _ => False
  | d, a => a = tyN d
def bIsi : DC
  | [x, .ty t], G, Q => t ∈ tysK ∧ ∃ a b, TyAt G x a ∧ tyB a t = b ∧ Q (.bl b) G
  | _, _, _ => False
theorem ty_of {K : Frag} {H : Hp} {G : DG} {v : V} {d : DV} {a : String} (w : Wd K H G) (r : RV K H v d) (h : TyAt G d a) : TyX K H v (.type a) ∧ a ∈ ["NoneType", "bool", "int", "str", "tuple", "list", "dict"] := by
  cases r with
  | non => cases h; exact ⟨.base .non, by decide⟩
  | bl b => cases h; exact ⟨.base (.bl b), by show "bool" ∈ _; decide⟩
  | int i => cases h; exact ⟨.base (.int i), by show "int" ∈ _; decide⟩
  | str z => cases h; exact ⟨.base (.str z), by show "str" ∈ _; decide⟩
  | tup s r => cases h; exact ⟨tyTup s, by show "tuple" ∈ _; decide⟩
  | ty n => exact h.elim
  | ref p =>
    rcases h with ⟨rfl, h⟩ | ⟨rfl, kvs, h⟩
    · refine ⟨?_, by decide⟩
      obtain ⟨O, w⟩ := w
      rcases h with h | ⟨ds, h | h⟩
      · obtain ⟨n, e⟩ := w.ob p _ h; exact .base (.lst e)
      · obtain ⟨n, e, _⟩ := w.ob p _ h; exact .base (.lst e)
      · obtain ⟨n, e | ⟨o, e⟩, _⟩ := w.ob p _ h
        · exact .base (.lst e)
        · exact .base (.frz e)
    · obtain ⟨O, w⟩ := w
      obtain ⟨n, e, _⟩ := w.ob p _ h
      exact ⟨.base (.dK e), by decide⟩
theorem cd_isi : CallD X (.builtin "isinstance") bIsi := by
  refine ⟨_, call_isi, fun ds vs H G R Q r w h f => ?_⟩
  cases r with
  | nil => exact h.elim
  | cons rv rt =>
    cases rt with
    | nil => exact h.elim
    | cons rv2 rt =>
      cases rt with
      | cons _ _ => cases rv2 <;> exact h.elim
      | nil =>
        cases rv2 with
        | ty t =>
          obtain ⟨ht, a, b, ha, rfl, q⟩ := h
          obtain ⟨h1, h2⟩ := ty_of w rv ha
          exact ⟨_, _, _, _, _, rfl, .ty t, h1, kit_ty (kit_tab a h2 t ht), flat_up w f q⟩
        | _ => exact h.elim
def bInt1 : DC
  | [.int i], G, Q => Q (.int i) G
  | [.bl k], G, Q => Q (.int (if k = true then 1 else 0)) G
  | _, _, _ => False
theorem cd_int : CallD X (.type "int") bInt1 := by
  refine ⟨_, call_int1, fun ds vs H G R Q r w h f => ?_⟩
  cases r with
  | nil => exact h.elim
  | cons rv rt =>
    cases rt with
    | cons _ _ => cases rv <;> exact h.elim
    | nil =>
      cases rv with
      | int i => exact .inl ⟨i, rfl, f _ _ _ _ h (TKs.refl H) w (.int _)⟩
      | bl k => exact .inr ⟨k, rfl, f _ _ _ _ h (TKs.refl H) w (.int _)⟩
      | _ => exact h.elim
def bTuple : DC
  | [.tup ds], G, Q => Q (.tup ds) G
  | [.ref p], G, Q => ∃ ds, Ls G p ds ∧ Q (.tup ds) G
  | _, _, _ => False
theorem cd_tuple : CallD X (.type "tuple") bTuple := by
  refine ⟨_, call_tuple_of, fun ds vs H G R Q r w h f => ?_⟩
  cases r with
  | nil => exact h.elim
  | cons rv rt =>
    cases rt with
    | cons _ _ => cases rv <;> exact h.elim
    | nil =>
      cases rv with
      | tup s r => exact ⟨_, _, rfl, .inr ⟨s, f _ _ _ _ h (TKs.refl H) w (.tup s r)⟩⟩
      | ref p =>
        obtain ⟨ds, l, q⟩ := h
        obtain ⟨us, hs, r⟩ := wd_seq w l
        refine ⟨p, us, rfl, .inl ⟨hs, fun l nl => ?_⟩⟩
        have s' := same_new nl (.tup us)
        exact f _ _ _ _ q (TKs.of s') (w.same s') (.tup (SqT.of upd_same) (r.mono (.of s')))
      | _ => exact h.elim
theorem RVs.bls {K : Frag} {H : Hp} : ∀ {v : List V} {bs : List Bool}, RVs K H v (bs.map DV.bl) → v = bs.map V.bl
  | _, [], .nil => rfl
  | _, b :: r, .cons h t => by cases h; rw [RVs.bls t]; rfl
def bAll : DC
  | [.ref p], G, Q => ∃ bs : List Bool, Ls G p (bs.map DV.bl) ∧ Q (.bl (bs.all id)) G
  | _, _, _ => False
theorem cd_all (hc : X.calm = true) : CallD X (.builtin "all") bAll := by
  refine ⟨_, cr_all hc, fun ds vs H G R Q r w h f => ?_⟩
  cases r with
  | nil => exact h.elim
  | cons rv rt =>
    cases rt with
    | cons _ _ => cases rv <;> exact h.elim
    | nil =>
      cases rv with
      | ref p =>
        obtain ⟨bs, l, q⟩ := h
        obtain ⟨us, hs, r⟩ := wd_seq w l
        rw [r.bls] at hs
        exact ⟨p, bs, rfl, hs, flat_up w f q⟩
      | _ => exact h.elim
/-! ### methods -/
abbrev DM := DV → List DV → DG → DK → Prop
def rcv (T : String) (x : DV) (G : DG) : Prop := match x with
  | .str _ => T = "str"
  | .ref p => (T = "list" ∧ ∃ ds, Ls G p ds) ∨ (T = "dict" ∧ ∃ kvs, G p = some (.dct kvs))
  | _ => False
theorem rcv_ok {K : Frag} {H : Hp} {G : DG} {T : String} {x : DV} {v : V} (w : Wd K H G) (r : RV K H v x) (h : rcv T x G) : tyV K T v H := by
  cases r with
  | str z => exact h
  | ref p =>
    rcases h with ⟨rfl, ds, l⟩ | ⟨rfl, kvs, l⟩
    · obtain ⟨us, hs, _⟩ := wd_seq w l
      exact .inl ⟨rfl, us, hs⟩
    · obtain ⟨O, w⟩ := w
      obtain ⟨ks, e, _⟩ := w.ob p _ l
      exact .inr (.inr (.inl ⟨rfl, .inl ⟨ks, e⟩⟩))
  | _ => exact h.elim
def MtD (X : Cx) (id : String) (b : DM) : Prop := ∃ r, MtR X id r ∧ ∀ x ds vx vs H G R Q, RV X.K H vx x → RVs X.K H vs ds → Wd X.K H G → b x ds G R → Fin X.K H R Q → r vx vs H Q
def dBM (T : String) (b : DM) (to : TD) (t : TDA) : TD := fun δ G Q => to δ G fun x G1 => rcv T x G1 ∧ t δ G1 fun ds G2 => b x ds G2 Q
def dBM0 (T : String) (b : DM) (to : TD) : TD := fun δ G Q => to δ G fun x G1 => rcv T x G1 ∧ b x [] G1 Q
variable {o e : Expr} {es : List Expr} {to : TD} {t : TDA} {name : Str} {apos cpos : Pos} {T id : String} {b : DM}
theorem de_bm (pa : PlainAttrs T) (slot : Slot T name id) (hty : typeOf (.builtin id) = pure (.type "method_descriptor")) (hm : MtD X id b) (ho : DE X o to) (ha : DA X (e :: es) t)
    (hbase : attributeBase o name X.env (eval o X.env) = eval o X.env := by rfl)
    (hfew : ((backTo cpos (starEach (e :: es) X.env)).all (fun x => !x.1) && (backToKw cpos (keywordEach [] X.env)).all (fun x => x.1.isSome)
      && decide ((e :: es).length + ([] : List Keyword).length + (if ([] : List Keyword).isEmpty then 0 else 1) < 30)) = true := by rfl)
    (hline : (apos.endLine == cpos.line) = true := by rfl) (hs : starEach (e :: es) X.env = (false, eval e X.env) :: starEach es X.env := by rfl) (hplain : (backTo cpos (starEach es X.env)).any (·.1) = false := by rfl) :
    DE X (.Call (.Attribute o name apos) (e :: es) [] cpos) (dBM T b to t) := by
  obtain ⟨r, hr, ok⟩ := hm
  refine PE_mono (pe_bm pa slot hty hr ho ha hbase hfew hline hs hplain) fun σ H Q ⟨δ, G, R, sl, w, q, f⟩ => ⟨δ, G, _, sl, w, q, fun x G1 vx H1 h1 t1 w1 r1 => ⟨rcv_ok w1 r1 h1.1, δ, G1, _, sl.mono t1, w1, h1.2, fun ds G2 vs H2 h2 t2 w2 r2 => ?_⟩⟩
  exact ok x ds vx vs H2 G2 R Q (r1.mono t2) r2 w2 h2 (f.step (t1.trans t2))
/-- a change of one of the store's lists -/
theorem put_lst {K : Frag} {H : Hp} {G : DG} {p : Addr} {ds es : List DV} {xs ys : List V} (w : Wd K H G) (e : G p = some (.lst ds)) (h : H p = some (.lst xs)) (r : RVs K H ys es) : TKs K H (upd H p (.lst ys)) ∧ Wd K (upd H p (.lst ys)) (dupd G p (.lst es)) := by
  have t : TKs K H (upd H p (.lst ys)) := TKs.lst h
  exact ⟨t, w.put ⟨_, e, fun L φ z => by cases z⟩ t fun O => ⟨ys, upd_same, r.mono t⟩⟩
def bAppend : DM := fun x ds G Q => ∃ p xs y, x = .ref p ∧ ds = [y] ∧ G p = some (.lst xs) ∧ xs.length < sizeLine ∧ Q .non (dupd G p (.lst (xs ++ [y])))
theorem md_append : MtD X "list.append" bAppend := by
  refine ⟨_, mt_append, fun x ds vx vs H G R Q rx rs w h f => ?_⟩
  obtain ⟨p, xs, y, rfl, rfl, e, hl, q⟩ := h
  cases rx
  cases rs with
  | cons ry rt =>
    cases rt
    obtain ⟨us, hu, r⟩ := wd_list w e
    obtain ⟨t, w'⟩ := put_lst (es := xs ++ [y]) w e hu (r.append (.cons ry .nil))
    exact ⟨p, us, _, rfl, rfl, hu, by rw [r.len]; exact hl, f _ _ _ _ q t w' .non⟩
end
end DD
namespace DD
open PySem PySem.W L2 SX Cm
section
variable {X : Cx}
/-! ### blocks -/
def dNext : TDS := fun D δ G => D.nx δ G
def dSeq (t u : TDS) : TDS := fun D δ G => t { D with nx := u D } δ G
variable {st : Stmt} {rest : List Stmt} {t u : TDS}
theorem dss_nil : DSs X [] dNext := PSs_mono pss_nil fun D σ H ⟨D', δ, G, sl, w, l, h⟩ => l.nx σ δ G H h (TKs.refl H) w sl
theorem seq_up {K : Frag} {D : Ends} {σ : St} {H : Hp} (h : upS K (dSeq t u) D σ H) : tSeq (upS K t) (upS K u) D σ H := by
  obtain ⟨D', δ, G, sl, w, l, h⟩ := h
  exact ⟨{ D' with nx := u D' }, δ, G, sl, w, ⟨fun σ1 δ1 G1 H1 q t1 w1 s1 => ⟨D', δ1, G1, s1, w1, l.step t1, q⟩, l.rt, l.bk, l.ct⟩, h⟩
theorem dss_cons (h1 : DS X st t) (h2 : DSs X rest u) : DSs X (st :: rest) (dSeq t u) := PSs_mono (pss_cons h1 h2) fun D σ H h => seq_up h
theorem dss_one (h1 : DS X st t) : DSs X [st] t := pss_one h1
def dNever : TDS := fun _ _ _ => False
theorem dss_never {sts : List Stmt} : DSs X sts dNever := PSs_mono pss_never fun D σ H ⟨_, _, _, _, _, _, h⟩ => h
def dBreak : TDS := fun D δ G => D.bk δ G
def dCont : TDS := fun D δ G => D.ct δ G
def dDrop (te : TD) : TDS := fun D δ G => te δ G fun _ G1 => D.nx δ G1
theorem ds_expr {e : Expr} {te : TD} {pos : Pos} (he : DE X e te) (hs : swapsWith e none pos.line X.env = pure false := by rfl) : DS X (.Expr e pos) (dDrop te) :=
  PS_mono (ps_expr he hs) fun D σ H ⟨D', δ, G, sl, w, l, h⟩ => ⟨δ, G, _, sl, w, h, fun d G1 v H1 q t1 w1 _ => l.nx σ δ G1 H1 q t1 w1 (sl.mono t1)⟩
def dRet (te : TD) : TDS := fun D δ G => te δ G D.rt
theorem ds_ret {e : Expr} {te : TD} {pos : Pos} (he : DE X e te) : DS X (.Return (some e) pos) (dRet te) :=
  PS_mono (ps_ret he) fun D σ H ⟨D', δ, G, sl, w, l, h⟩ => ⟨δ, G, _, sl, w, h, fun d G1 v H1 q t1 w1 r1 => l.rt d G1 v H1 q t1 w1 r1⟩
def dRetN : TDS := fun D _ G => D.rt .non G
def dIfS (c : TDT) (t u : TDS) : TDS := fun D δ G => c δ G fun b G1 => if b = true then t D δ G1 else u D δ G1
theorem ds_if {c : Expr} {a b : List Stmt} {tc : TDT} {pos : Pos} (hc : DT X c tc) (ha : DSs X a t) (hb : DSs X b u) : DS X (.If c a b pos) (dIfS tc t u) :=
  PS_mono (ps_if hc ha hb) fun D σ H ⟨D', δ, G, sl, w, l, h⟩ => ⟨δ, G, _, sl, w, h, fun k G1 H1 q t1 w1 => by
    cases k with
    | true => exact iteT ⟨D', δ, G1, sl.mono t1, w1, l.step t1, q⟩
    | false => exact iteF ⟨D', δ, G1, sl.mono t1, w1, l.step t1, q⟩⟩
/-! ### targets -/
abbrev TDG := DV → DSt → DG → (DSt → DG → Prop) → Prop
abbrev TDGs := List DV → DSt → DG → (DSt → DG → Prop) → Prop
def FinG (K : Frag) (H : Hp) (R : DSt → DG → Prop) (Q : St → Hp → Prop) : Prop := ∀ δ G σ H', R δ G → TKs K H H' → Wd K H' G → Sl K H' σ δ → Q σ H'
theorem FinG.step {K : Frag} {H H1 : Hp} {R : DSt → DG → Prop} {Q : St → Hp → Prop} (f : FinG K H R Q) (t : TKs K H H1) : FinG K H1 R Q := fun δ G σ H' r t' => f δ G σ H' r (t.trans t')
def upG (K : Frag) (g : TDG) : TG := fun v σ H Q => ∃ d δ G R, RV K H v d ∧ Sl K H σ δ ∧ Wd K H G ∧ g d δ G R ∧ FinG K H R Q
def upGs (K : Frag) (g : TDGs) : TGs := fun vs σ H Q => ∃ ds δ G R, RVs K H vs ds ∧ Sl K H σ δ ∧ Wd K H G ∧ g ds δ G R ∧ FinG K H R Q
abbrev DGt (X : Cx) (e : Expr) (g : TDG) : Prop := PG X e (upG X.K g)
abbrev DGs (X : Cx) (e : List Expr) (g : TDGs) : Prop := PGs X e (upGs X.K g)
theorem PG_mono {e : Expr} {t t' : TG} (h : PG X e t) (i : ∀ v σ H Q, t' v σ H Q → t v σ H Q) : PG X e t' := ⟨fun pins s σ H v u Q I r q => h.run pins s σ H v u Q I r (i v σ H Q q)⟩
theorem PGs_mono {e : List Expr} {t t' : TGs} (h : PGs X e t) (i : ∀ v σ H Q, t' v σ H Q → t v σ H Q) : PGs X e t' := ⟨fun pins s σ H v u Q I r q => h.run pins s σ H v u Q I r (i v σ H Q q)⟩
def gN (i : Nat) : TDG := fun d δ G Q => Q (δ.set i (some d)) G
theorem dg_name {i : Nat} {x : Str} {pos : Pos} (hN : X.N.Nodup) (hi : X.N[i]? = some x) (hx : Loc X.env.scope x) (hf : X.fn x = true ∨ X.env.scope.names.lookup x = some .local := by first | exact .inl rfl | exact .inr rfl | assumption) : DGt X (.Name x pos) (gN i) :=
  PG_mono (pg_name hN hi hx hf) fun v σ H Q ⟨d, δ, G, R, r, sl, w, h, f⟩ => f _ _ _ _ h (TKs.refl H) w (sl.set r i)
def gN0 : TDGs := fun ds δ G Q => ds = [] ∧ Q δ G
def gNC (t : TDG) (u : TDGs) : TDGs := fun ds δ G Q => ∃ d r, ds = d :: r ∧ t d δ G fun δ' G' => u r δ' G' Q
theorem dgs_nil : DGs X [] gN0 := PGs_mono pgs_nil fun vs σ H Q ⟨ds, δ, G, R, r, sl, w, ⟨e, h⟩, f⟩ => by
  subst e
  cases r
  exact ⟨rfl, f _ _ _ _ h (TKs.refl H) w sl⟩
theorem dgs_cons {e : Expr} {es : List Expr} {t : TDG} {u : TDGs} (h1 : DGt X e t) (h2 : DGs X es u)
    (hs : (assignEach (e :: es) X.env).map (·.2) = assign e X.env :: (assignEach es X.env).map (·.2) := by rfl) : DGs X (e :: es) (gNC t u) := PGs_mono (pgs_cons h1 h2 hs) fun vs σ H Q ⟨ds, δ, G, R, r, sl, w, ⟨d, rs, e, h⟩, f⟩ => by
  subst e
  cases r with
  | cons rv rt => exact ⟨_, _, rfl, d, δ, G, _, rv, sl, w, h, fun δ1 G1 σ1 H1 q t1 w1 s1 => ⟨rs, δ1, G1, R, rt.mono t1, s1, w1, q, f.step t1⟩⟩
def gT (n : Nat) (t : TDGs) : TDG := fun d δ G Q => ∃ ds, d = .tup ds ∧ ds.length = n ∧ t ds δ G Q
theorem dg_tup {es : List Expr} {k : Nat} {t : TDGs} {n : Nat} {pos : Pos} (hc : X.calm = true) (h : DGs X es t)
    (hn : (assignEach es X.env).length = n := by rfl) (hst : (assignEach es X.env).findIdx? (·.1) = none := by rfl) : DGt X (.Tuple es k pos) (gT n t) := PG_mono (pg_tup hc h hn hst) fun v σ H Q ⟨d, δ, G, R, r, sl, w, ⟨ds, e, l, h⟩, f⟩ => by
  subst e
  obtain ⟨a, xs, rfl, s, r⟩ := r.tupD
  exact ⟨a, xs, rfl, s, by rw [r.len]; exact l, ds, δ, G, R, r, sl, w, h, f⟩
/-- xs[i] = v -/
def bSet : DV → DV → DV → DG → (DG → Prop) → Prop
  | .ref p, .int i, v, G, Q => (∃ ds j, G p = some (.lst ds) ∧ ixN ds.length i = some j ∧ Q (dupd G p (.lst (ds.set j v)))) ∨ (G p = some .cnt ∧ i = 0 ∧ (∃ n, v = .int n) ∧ Q G)
  | _, _, _, _, _ => False
def gSb (to ti : TD) : TDG := fun v δ G Q => to δ G fun o G1 => ti δ G1 fun i G2 => bSet o i v G2 fun G3 => Q δ G3
def dAsg (te : TD) (g : TDG) : TDS := fun D δ G => te δ G fun d G1 => g d δ G1 D.nx
theorem asg_up {K : Frag} {te : TD} {g : TDG} {D : Ends} {σ : St} {H : Hp} (h : upS K (dAsg te g) D σ H) : tAsg (up K te) (upG K g) D σ H := by
  obtain ⟨D', δ, G, sl, w, l, h⟩ := h
  exact ⟨δ, G, _, sl, w, h, fun d G1 v H1 q t1 w1 r1 => ⟨d, δ, G1, _, r1, sl.mono t1, w1, q, fun δ2 G2 σ2 H2 q2 t2 w2 s2 => l.nx σ2 δ2 G2 H2 q2 (t1.trans t2) w2 s2⟩⟩
theorem ds_asg {tg e : Expr} {te : TD} {g : TDG} {pos : Pos} (he : DE X e te) (hg : DGt X tg g) (hs : swapsWithSole [tg] e pos.line X.env = pure false := by rfl) (hw : swappedStores [tg] e X.env = pure none := by rfl) (h1 : (assignEach [tg] X.env).map (·.2) = [assign tg X.env] := by rfl) : DS X (.Assign [tg] e pos) (dAsg te g) := PS_mono (ps_asg he hg hs hw h1) fun D σ H h => asg_up h
theorem ds_set {i : Nat} {x : Str} {e : Expr} {te : TD} {pos' pos : Pos} (hN : X.N.Nodup) (hi : X.N[i]? = some x) (hx : Loc X.env.scope x) (he : DE X e te) (hs : swapsWith e (some (.Name x pos')) pos.line X.env = pure false := by rfl) (hf : X.fn x = true ∨ X.env.scope.names.lookup x = some .local := by first | exact .inl rfl | exact .inr rfl | assumption) : DS X (.Assign [.Name x pos'] e pos) (dAsg te (gN i)) :=
  PS_mono (ps_set hN hi hx he hs hf) fun D σ H ⟨D', δ, G, sl, w, l, h⟩ => ⟨δ, G, _, sl, w, h, fun d G1 v H1 q t1 w1 r1 => l.nx _ _ G1 H1 q t1 w1 ((sl.mono t1).set r1 i)⟩
def dPar (i j : Nat) (t : TDA) : TDS := fun D δ G => t δ G fun ds G1 => ∃ a b, ds = [a, b] ∧ D.nx ((δ.set i (some a)).set j (some b)) G1
end
end DD
namespace DD
open PySem PySem.W L2 SX Cm
/-! ### what is walked: its items, and what must stay so -/
abbrev TDI := DSt → DG → (List DV → (DG → Prop) → DG → Prop) → Prop
structure JRel (K : Frag) (H0 : Hp) (J : It) (ds : List DV) (st : DG → Prop) : Prop where
  go : ∀ i H G, TKs K H0 H → Wd K H G → st G → i < ds.length → J.go i H
  yld : ∀ i H G x H', TKs K H0 H → Wd K H G → st G → i < ds.length → J.yld i H x H' → Same H H' ∧ ∃ d, ds[i]? = some d ∧ RV K H' x d
  stop : ∀ i H G, TKs K H0 H → Wd K H G → st G → i = ds.length → J.stop i H
def upI (K : Frag) (ti : TDI) : TI := fun σ H R' => ∃ δ G R, Sl K H σ δ ∧ Wd K H G ∧ ti δ G R ∧ ∀ ds st G1 H1 J, R ds st G1 → TKs K H H1 → Wd K H1 G1 → JRel K H1 J ds st → R' J H1
section
variable {X : Cx} {tg : Expr}
abbrev DI (X : Cx) (tg iter : Expr) (ti : TDI) : Prop := PI X tg iter (upI X.K ti)
theorem PI_mono {e : Expr} {t t' : TI} (h : PI X tg e t) (i : ∀ σ H R, t' σ H R → t σ H R) : PI X tg e t' := ⟨fun pins s σ H Q I q => h.run pins s σ H Q I (i σ H Q q)⟩
/-- over a tuple -/
def dITup (t : TD) : TDI := fun δ G R => t δ G fun d G1 => ∃ ds, d = .tup ds ∧ R ds (fun _ => True) G1
theorem di_tup {e : Expr} {t : TD} (h : DE X e t) : DI X tg e (dITup t) := PI_mono (pi_tup h) fun σ H R' ⟨δ, G, R, sl, w, q, f⟩ => ⟨δ, G, _, sl, w, q, fun d G1 v H1 ⟨ds, e, q1⟩ t1 w1 r1 => by
  subst e
  obtain ⟨a, xs, rfl, s, r⟩ := r1.tupD
  refine ⟨a, rfl, ⟨xs, s⟩, f _ _ _ _ _ q1 t1 w1 ⟨fun i H2 G2 t2 w2 _ hi => ?_, fun i H2 G2 x H3 t2 w2 _ _ y => ?_, fun i H2 G2 t2 w2 _ hi => ?_⟩⟩
  · obtain ⟨x, hx, _⟩ := r.get (List.getElem?_eq_getElem hi)
    exact ⟨xs, x, t2 _ _ s, hx⟩
  · obtain ⟨rfl, y⟩ := y
    obtain ⟨d, hd, rd⟩ := (r.mono t2).getV (y xs (t2 _ _ s))
    exact ⟨Same.refl _, d, hd, rd⟩
  · exact ⟨xs, t2 _ _ s, by rw [r.len]; exact Nat.le_of_eq hi.symm⟩⟩
/-- over a list, which stays as it is -/
def dIList (t : TD) : TDI := fun δ G R => t δ G fun d G1 => ∃ p ds, d = .ref p ∧ Ls G1 p ds ∧ R ds (fun G => Ls G p ds) G1
theorem di_list {e : Expr} {t : TD} (h : DE X e t) : DI X tg e (dIList t) := PI_mono (pi_list h) fun σ H R' ⟨δ, G, R, sl, w, q, f⟩ => ⟨δ, G, _, sl, w, q, fun d G1 v H1 ⟨p, ds, e, ls, q1⟩ t1 w1 r1 => by
  subst e
  cases r1
  obtain ⟨xs, s, r⟩ := wd_seq w1 ls
  refine ⟨p, rfl, ⟨xs, s⟩, f _ _ _ _ _ q1 t1 w1 ⟨fun i H2 G2 t2 w2 l2 hi => ?_, fun i H2 G2 x H3 t2 w2 l2 _ y => ?_, fun i H2 G2 t2 w2 l2 hi => ?_⟩⟩
  · obtain ⟨ys, s2, r2⟩ := wd_seq w2 l2
    obtain ⟨x, hx, _⟩ := r2.get (List.getElem?_eq_getElem hi)
    exact ⟨ys, x, s2, hx⟩
  · obtain ⟨rfl, y⟩ := y
    obtain ⟨ys, s2, r2⟩ := wd_seq w2 l2
    obtain ⟨d, hd, rd⟩ := r2.getV (y ys s2)
    exact ⟨Same.refl _, d, hd, rd⟩
  · obtain ⟨ys, s2, r2⟩ := wd_seq w2 l2
    exact ⟨ys, s2, by rw [r2.len]; exact Nat.le_of_eq hi.symm⟩⟩
def signs (z : Str) : List DV := z.cps.toList.map fun c => .str ⟨#[c]⟩
def dIStr (t : TD) : TDI := fun δ G R => t δ G fun d G1 => ∃ z, d = .str z ∧ R (signs z) (fun _ => True) G1
theorem di_str {e : Expr} {t : TD} (h : DE X e t) : DI X tg e (dIStr t) := PI_mono (pi_str h) fun σ H R' ⟨δ, G, R, sl, w, q, f⟩ => ⟨δ, G, _, sl, w, q, fun d G1 v H1 ⟨z, e, q1⟩ t1 w1 r1 => by
  subst e
  cases r1
  have hl : (signs z).length = z.cps.size := by unfold signs; rw [List.length_map, Array.length_toList]
  refine ⟨z, rfl, f _ _ _ _ _ q1 t1 w1 ⟨fun i H2 G2 t2 w2 l2 hi => by rw [hl] at hi; exact hi, fun i H2 G2 x H3 t2 w2 l2 _ y => ?_, fun i H2 G2 t2 w2 l2 hi => by rw [hl] at hi; exact Nat.le_of_eq hi.symm⟩⟩
  obtain ⟨rfl, c, hc, rfl⟩ := y
  refine ⟨Same.refl _, .str ⟨#[c]⟩, ?_, .str _⟩
  unfold signs
  rw [List.getElem?_map, Array.getElem?_toList, hc]; rfl⟩
/-- range(n), range(a, b) -/
def rng (lo : Int) (n : Nat) : List DV := (List.range n).map fun i => .int (lo + (i : Nat))
theorem rng_len (lo : Int) (n : Nat) : (rng lo n).length = n := by unfold rng; rw [List.length_map, List.length_range]
theorem rng_get {lo : Int} {n i : Nat} (h : i < n) : (rng lo n)[i]? = some (.int (lo + (i : Nat))) := by
  unfold rng
  rw [List.getElem?_map, List.getElem?_range h]; rfl
theorem rng_rel {K : Frag} {H : Hp} {lo : Int} {n : Nat} : JRel K H (Itr lo n) (rng lo n) (fun _ => True) :=
  ⟨fun i H2 G2 t2 w2 l2 hi => by rw [rng_len] at hi; exact hi, fun i H2 G2 x H3 t2 w2 l2 hi y => by
    obtain ⟨rfl, rfl⟩ := y
    rw [rng_len] at hi
    exact ⟨Same.refl _, .int (lo + i), rng_get hi, .int _⟩, fun i H2 G2 t2 w2 l2 hi => by rw [rng_len] at hi; exact Nat.le_of_eq hi.symm⟩
def dIRng (t : TDA) : TDI := fun δ G R => t δ G fun ds G1 => ∃ j : Int, ds = [.int j] ∧ -(2 ^ 62) ≤ j ∧ j < 2 ^ 62 ∧ R (rng 0 j.toNat) (fun _ => True) G1
theorem di_range {a : Expr} {t : TDA} {p pos : Pos} (hm : X.mg "range" = none) (hg : Gl X "range") (ha : DA X [a] t) (hs : starEach [a] X.env = [(false, eval a X.env)] := by rfl) : DI X tg (.Call (.Name "range" p) [a] [] pos) (dIRng t) :=
  PI_mono (pi_range1 hg hm ha hs) fun σ H R' ⟨δ, G, R, sl, w, q, f⟩ => ⟨δ, G, _, sl, w, q, fun ds G1 vs H1 ⟨j, e, h1, h2, q1⟩ t1 w1 r1 => by
    subst e
    cases r1 with
    | cons ra rb =>
      cases rb
      cases ra
      exact ⟨j, rfl, h1, h2, f _ _ _ _ _ q1 t1 w1 rng_rel⟩⟩
def dIRng2 (t : TDA) : TDI := fun δ G R => t δ G fun ds G1 => ∃ i j : Int, ds = [.int i, .int j] ∧ (-(2 ^ 62) ≤ i ∧ i < 2 ^ 62 ∧ -(2 ^ 62) ≤ j ∧ j < 2 ^ 62) ∧ R (rng i (j - i).toNat) (fun _ => True) G1
/-- enumerate of a list -/
def nmbd (ds : List DV) : List DV := ds.zipIdx.map fun p => .tup [.int (p.2 : Nat), p.1]
variable {elts : List Expr} {kk : Nat} {tpos : Pos}
def dIEnum (t : TDA) : TDI := fun δ G R => t δ G fun xs G1 => ∃ p ds, xs = [.ref p] ∧ Ls G1 p ds ∧ R (nmbd ds) (fun G => Ls G p ds) G1
/-- reversed of a list -/
def dIRev (t : TDA) : TDI := fun δ G R => t δ G fun xs G1 => ∃ p ds, xs = [.ref p] ∧ Ls G1 p ds ∧ R ds.reverse (fun G => Ls G p ds) G1
/-! ### for -/
def dFor (ti : TDI) (g : TDG) (tb : TDS) : TDS := fun D δ G => ti δ G fun ds st G1 => ∃ Pv : Nat → DSt → DG → Prop, Pv 0 δ G1 ∧ (∀ i δ G, Pv i δ G → st G) ∧
  (∀ i d δ G, ds[i]? = some d → Pv i δ G → g d δ G fun δ2 G2 => tb { D with nx := Pv (i + 1), ct := Pv (i + 1), bk := D.nx } δ2 G2) ∧ (∀ δ G, Pv ds.length δ G → D.nx δ G)
theorem ds_for {iter : Expr} {body : List Stmt} {ti : TDI} {g : TDG} {tb : TDS} {pos : Pos} (hp : PassesOwn (model X.prog X.w) X.A X.env X.xe) (hc : X.calm = true) (hi : DI X tg iter ti) (hg : DGt X tg g) (hb : DSs X body tb)
    (hs : ∀ x, foldedSetIterable iter X.env x = pure x := by intro _; rfl) : DS X (.For tg iter body [] pos) (dFor ti g tb) := by
  refine PS_mono (ps_for hp hc hi hg hb hs) fun D σ H ⟨D', δ, G, sl, w, l, h⟩ => ⟨δ, G, _, sl, w, h, fun ds st G1 H1 J ⟨Pv, p0, pst, ps, pd⟩ t1 w1 j => ?_⟩
  refine ⟨fun i m σ H2 => ∃ δ G, Pv i δ G ∧ TKs X.K H1 H2 ∧ Wd X.K H2 G ∧ Sl X.K H2 σ δ ∧ i ≤ ds.length ∧ m = ds.length - i, ⟨_, δ, G1, p0, TKs.refl _, w1, sl.mono t1, Nat.zero_le _, rfl⟩, ?_⟩
  rintro i m σ2 H2 ⟨δ2, G2, p2, t2, w2, sl2, hi2, rfl⟩
  by_cases hlt : i < ds.length
  · refine .inr ⟨j.go i H2 G2 t2 w2 (pst _ _ _ p2) hlt, fun σ3 H3 => ∃ δ G, Pv (i + 1) δ G ∧ TKs X.K H1 H3 ∧ Wd X.K H3 G ∧ Sl X.K H3 σ3 δ, fun σ3 H3 ⟨δ3, G3, p3, t3, w3, sl3⟩ => ⟨_, by omega, δ3, G3, p3, t3, w3, sl3, hlt, rfl⟩, fun x H3 y => ?_⟩
    obtain ⟨s3, d, hd, rd⟩ := j.yld i H2 G2 x H3 t2 w2 (pst _ _ _ p2) hlt y
    have t3 := TKs.of (K := X.K) s3
    refine ⟨d, δ2, G2, _, rd, sl2.mono t3, w2.same s3, ps i d δ2 G2 hd p2, fun δ4 G4 σ4 H4 q4 t4 w4 sl4 => ⟨{ D' with nx := Pv (i + 1), ct := Pv (i + 1), bk := D'.nx }, δ4, G4, sl4, w4, ?_, q4⟩⟩
    have t14 := t2.trans (t3.trans t4)
    have t04 := t1.trans t14
    exact ⟨fun σ5 δ5 G5 H5 q5 t5 w5 sl5 => ⟨δ5, G5, q5, t14.trans t5, w5, sl5⟩, fun d5 G5 v5 H5 q5 t5 w5 r5 => l.rt _ _ _ _ q5 (t04.trans t5) w5 r5,
      fun σ5 δ5 G5 H5 q5 t5 w5 sl5 => l.nx _ _ _ _ q5 (t04.trans t5) w5 sl5, fun σ5 δ5 G5 H5 q5 t5 w5 sl5 => ⟨δ5, G5, q5, t14.trans t5, w5, sl5⟩⟩
  · have e : i = ds.length := by omega
    subst e
    exact .inl ⟨j.stop _ H2 G2 t2 w2 (pst _ _ _ p2) rfl, l.nx _ _ _ _ (pd _ _ p2) (t1.trans t2) w2 sl2⟩
/-! ### while -/
def dWhile (c : TDT) (tb : TDS) : TDS := fun D δ G => ∃ Pv : Nat → DSt → DG → Prop, (∃ m, Pv m δ G) ∧ ∀ m δ G, Pv m δ G →
  c δ G fun b G1 => if b = true then tb { D with nx := fun δ' G' => ∃ m', m' < m ∧ Pv m' δ' G', ct := fun δ' G' => ∃ m', m' < m ∧ Pv m' δ' G', bk := D.nx } δ G1 else D.nx δ G1
theorem ds_while {c : Expr} {body : List Stmt} {tc : TDT} {tb : TDS} {pos : Pos} (hp : PassesOwn (model X.prog X.w) X.A X.env X.xe) (hc : DT X c tc) (hb : DSs X body tb) : DS X (.While c body [] pos) (dWhile tc tb) := by
  refine PS_mono (ps_while hp hc hb) fun D σ H ⟨D', δ, G, sl, w, l, Pv, ⟨m0, p0⟩, step⟩ => ?_
  refine ⟨fun m σ H2 => ∃ δ G, Pv m δ G ∧ TKs X.K H H2 ∧ Wd X.K H2 G ∧ Sl X.K H2 σ δ, ⟨m0, δ, G, p0, TKs.refl _, w, sl⟩, ?_⟩
  rintro m σ2 H2 ⟨δ2, G2, p2, t2, w2, sl2⟩
  refine ⟨δ2, G2, _, sl2, w2, step m δ2 G2 p2, fun b G3 H3 q t3 w3 => ?_⟩
  have t23 := t2.trans t3
  cases b with
  | false => exact iteF (l.nx _ _ _ _ q t23 w3 (sl2.mono t3))
  | true =>
    refine iteT ⟨fun σ4 H4 => ∃ m', m' < m ∧ ∃ δ G, Pv m' δ G ∧ TKs X.K H H4 ∧ Wd X.K H4 G ∧ Sl X.K H4 σ4 δ, fun σ' H' ⟨m', lt, x⟩ => ⟨m', lt, x⟩, _, δ2, G3, sl2.mono t3, w3, ?_, q⟩
    exact ⟨fun σ5 δ5 G5 H5 ⟨m', lt, q5⟩ t5 w5 sl5 => ⟨m', lt, δ5, G5, q5, t23.trans t5, w5, sl5⟩, fun d5 G5 v5 H5 q5 t5 w5 r5 => l.rt _ _ _ _ q5 (t23.trans t5) w5 r5,
      fun σ5 δ5 G5 H5 q5 t5 w5 sl5 => l.nx _ _ _ _ q5 (t23.trans t5) w5 sl5, fun σ5 δ5 G5 H5 ⟨m', lt, q5⟩ t5 w5 sl5 => ⟨m', lt, δ5, G5, q5, t23.trans t5, w5, sl5⟩⟩
end
end DD
namespace DD
open PySem PySem.W L2 SX Cm
/-! ### comprehensions -/
def wipeD (δ : DSt) : List Nat → DSt
  | [] => δ
  | v :: vs => (wipeD δ vs).set v none
theorem Sl.wipe {K : Frag} {H : Hp} {σ : St} {δ : DSt} (h : Sl K H σ δ) : ∀ vs : List Nat, Sl K H (L2.wipe σ vs) (wipeD δ vs)
  | [] => h
  | v :: vs => (Sl.wipe h vs).unset v
theorem set_comm' {α : Type} : ∀ (σ : List α) (i j : Nat) (x y : α), i ≠ j → (σ.set i x).set j y = (σ.set j y).set i x
  | [], _, _, _, _, _ => rfl
  | a :: r, 0, 0, _, _, h => absurd rfl h
  | a :: r, 0, j + 1, _, _, _ => rfl
  | a :: r, i + 1, 0, _, _, _ => rfl
  | a :: r, i + 1, j + 1, x, y, h => by
    show a :: _ = a :: _
    rw [set_comm' r i j x y (fun z => h (by rw [z]))]
theorem set_set' {α : Type} : ∀ (σ : List α) (i : Nat) (x y : α), (σ.set i x).set i y = σ.set i y
  | [], _, _, _ => rfl
  | a :: r, 0, _, _ => rfl
  | a :: r, i + 1, x, y => by
    show a :: _ = a :: _
    rw [set_set' r i x y]
theorem wipe_out (i : Nat) (x : Option V) : ∀ (vs : List Nat) (σ : St), i ∉ vs → wipe (σ.set i x) vs = (wipe σ vs).set i x
  | [], _, _ => rfl
  | v :: vs, σ, h => by
    have h1 : i ≠ v := fun z => h (by rw [z]; exact List.mem_cons_self ..)
    have h2 : i ∉ vs := fun z => h (List.mem_cons_of_mem _ z)
    show (wipe (σ.set i x) vs).set v none = ((wipe σ vs).set v none).set i x
    rw [wipe_out i x vs σ h2, set_comm' _ _ _ _ _ h1]
theorem wipe_in (i : Nat) (x : Option V) : ∀ (vs : List Nat) (σ : St), i ∈ vs → wipe (σ.set i x) vs = wipe σ vs
  | [], _, h => nomatch h
  | v :: vs, σ, h => by
    show (wipe (σ.set i x) vs).set v none = (wipe σ vs).set v none
    by_cases hi : i ∈ vs
    · rw [wipe_in i x vs σ hi]
    · rw [wipe_out i x vs σ hi]
      have e : i = v := by
        rcases List.mem_cons.mp h with e | e
        · exact e
        · exact absurd e hi
      rw [e, set_set']
theorem wipe_wipe (σ : St) : ∀ vs : List Nat, wipe (wipe σ vs) vs = wipe σ vs := fun vs => by
  have go : ∀ (ws vs : List Nat), (∀ v ∈ ws, v ∈ vs) → wipe (wipe σ ws) vs = wipe σ vs := by
    intro ws
    induction ws with
    | nil => intro vs _; rfl
    | cons w ws ih =>
      intro vs h
      show wipe ((wipe σ ws).set w none) vs = _
      rw [wipe_in w none vs _ (h w (List.mem_cons_self ..)), ih vs fun v hv => h v (List.mem_cons_of_mem _ hv)]
  exact go vs vs fun v hv => hv
/-- a target of a comprehension: slots alone -/
abbrev TL := DV → DSt → (DSt → Prop) → Prop
def LT (K : Frag) (vs : List Nat) (g : TG) (ld : TL) : Prop := ∀ v d σ δ H R Q, RV K H v d → Sl K H σ δ → ld d δ R → (∀ σ2 δ2, Sl K H σ2 δ2 → wipe σ2 vs = wipe σ vs → R δ2 → Q σ2 H) → g v σ H Q
def l1 (i : Nat) : TL := fun d δ R => R (δ.set i (some d))
def l2 (i j : Nat) : TL := fun d δ R => ∃ a b, d = .tup [a, b] ∧ R ((δ.set i (some a)).set j (some b))
def l3 (i j k : Nat) : TL := fun d δ R => ∃ a b c, d = .tup [a, b, c] ∧ R (((δ.set i (some a)).set j (some b)).set k (some c))
theorem lt1 {K : Frag} {vs : List Nat} {i : Nat} (h : i ∈ vs) : LT K vs (gName i) (l1 i) := fun v d σ δ H R Q r sl q f => f _ _ (sl.set r i) (wipe_in i _ vs σ h) q
theorem lt2 {K : Frag} {vs : List Nat} {i j : Nat} (h : i ∈ vs) (h' : j ∈ vs) : LT K vs (gTup K 2 (gCons (gName i) (gCons (gName j) gNil))) (l2 i j) := fun v d σ δ H R Q r sl ⟨a, b, e, q⟩ f => by
  subst e
  obtain ⟨p, xs, rfl, s, r⟩ := r.tupD
  cases r with
  | cons ra r =>
    cases r with
    | cons rb r =>
      cases r
      exact ⟨p, _, rfl, s, rfl, _, _, rfl, _, _, rfl, rfl, f _ _ ((sl.set ra i).set rb j) (by rw [wipe_in j _ vs _ h', wipe_in i _ vs _ h]) q⟩
def dYes : TDT := fun _ G Q => Q true G
/-- a comprehension: the list that is made stands at p; Pv by the turn, what is made so far, the store -/
def dLc (ti : TDI) (ld : TL) (tt : TDT) (te : TD) (vs : List Nat) : TD := fun δ G Q => ti δ G fun ds st G1 => ∀ p, G1 p = none → ∃ Pv : Nat → List DV → DG → Prop, Pv 0 [] (dupd G1 p (.lst [])) ∧ (∀ i acc G, Pv i acc G → st G) ∧
  (∀ i d acc G, ds[i]? = some d → Pv i acc G → ld d (wipeD δ vs) fun δ2 => tt δ2 G fun b G3 => if b = true then te δ2 G3 fun y G4 => G4 p = some (.lst acc) ∧ acc.length < sizeLine ∧ Pv (i + 1) (acc ++ [y]) (dupd G4 p (.lst (acc ++ [y]))) else Pv (i + 1) acc G3) ∧
  (∀ acc G, Pv ds.length acc G → Q (.ref p) G)
theorem lc_up {K : Frag} {ti : TDI} {g : TG} {ld : TL} {tt : TDT} {te : TD} {vs : List Nat} (lt : LT K vs g ld) {σ : St} {H : Hp} {Q : VK} (h : up K (dLc ti ld tt te vs) σ H Q) : tLc (upI K ti) g (upT K tt) (up K te) vs σ H Q := by
  obtain ⟨δ, G, R, sl, w, h, f⟩ := h
  refine ⟨δ, G, _, sl, w, h, fun ds st G1 H1 J q t1 w1 j p np => ?_⟩
  obtain ⟨Pv, p0, pst, ps, pd⟩ := q p (w1.free np)
  have s0 : Same H1 (upd H1 p (.lst [])) := same_new np _
  refine ⟨fun i m H2 => ∃ acc G, Pv i acc G ∧ TKs K H1 H2 ∧ Wd K H2 G ∧ i ≤ ds.length ∧ m = ds.length - i, ⟨_, [], _, p0, TKs.of s0, w1.new np fun O => ⟨[], upd_same, .nil⟩, Nat.zero_le _, rfl⟩, ?_⟩
  rintro i m H2 ⟨acc, G2, p2, t2, w2, hi, rfl⟩
  by_cases hlt : i < ds.length
  · refine .inr ⟨j.go i H2 G2 t2 w2 (pst _ _ _ p2) hlt, fun H3 => ∃ acc G, Pv (i + 1) acc G ∧ TKs K H1 H3 ∧ Wd K H3 G, fun H3 ⟨acc3, G3, p3, t3, w3⟩ => ⟨_, by omega, acc3, G3, p3, t3, w3, hlt, rfl⟩, fun x H3 y => ?_⟩
    obtain ⟨s3, d, hd, rd⟩ := j.yld i H2 G2 x H3 t2 w2 (pst _ _ _ p2) hlt y
    have t3 := TKs.of (K := K) s3
    have t13 := t2.trans t3
    have w3 := w2.same s3
    refine lt x d _ (wipeD δ vs) H3 _ _ rd (((sl.mono t1).mono t13).wipe vs) (ps i d acc G2 hd p2) fun σ4 δ4 sl4 e4 q4 => ⟨by rw [e4]; exact wipe_wipe σ vs, δ4, G2, _, sl4, w3, q4, fun b G5 H5 q5 t5 w5 => ?_⟩
    have t15 := t13.trans t5
    cases b with
    | false => exact iteF ⟨acc, G5, q5, t15, w5⟩
    | true =>
      refine iteT ⟨δ4, G5, _, sl4.mono t5, w5, q5, fun y G6 vy H6 ⟨e6, l6, q6⟩ t6 w6 r6 => ?_⟩
      obtain ⟨us, hu, ru⟩ := wd_list w6 e6
      obtain ⟨t7, w7⟩ := put_lst w6 e6 hu (ru.append (.cons r6 .nil))
      exact ⟨us, hu, by rw [ru.len]; exact l6, _, _, q6, (t15.trans t6).trans t7, w7⟩
  · have e : i = ds.length := by omega
    subst e
    exact .inl ⟨j.stop _ H2 G2 t2 w2 (pst _ _ _ p2) rfl, f _ _ _ _ (pd _ _ p2) (t1.trans t2) w2 (.ref p)⟩
section
variable {X : Cx}
theorem de_lc {elt tg iter : Expr} {ifs : List Expr} {scope : Scope} {own : List (Str × Nat)} {pos : Pos} {ti : TDI} {g : TG} {ld : TL} {tt : TDT} {te : TD} (lt : LT X.K (own.map (·.2)) g ld) (hc : X.calm = true) (hN : X.N.Nodup) (hi : DI X tg iter ti) (ok : BlkOk X.N X.env.scope scope own)
    (hg : ∀ (s : Shared) (H : Hp) (C : Addr) (cl : List (Str × Addr)) (fp : List Addr), PG (X.blk s H scope (compEnvC scope cl C X.env) fp) tg g) (ht : ∀ (s : Shared) (H : Hp) (C : Addr) (cl : List (Str × Addr)) (fp : List Addr), PTs (X.blk s H scope (compEnvC scope cl C X.env) fp) ifs (upT X.K tt))
    (he : ∀ (s : Shared) (H : Hp) (C : Addr) (cl : List (Str × Addr)) (fp : List Addr), PE (X.blk s H scope (compEnvC scope cl C X.env) fp) elt (up X.K te)) (hs : ∀ x, foldedSetIterable iter X.env x = pure x := by intro _; rfl) :
    DE X (.ListComp elt [⟨tg, iter, ifs, 0⟩] scope pos) (dLc ti ld tt te (own.map (·.2))) := PE_mono (pe_lc hc hN hi ok hg ht he hs) fun σ H Q h => lc_up lt h
theorem dts_nil : PTs X [] (upT X.K dYes) := ⟨fun pins s σ H Q I ⟨δ, G, R, sl, w, h, f⟩ => pts_nil.run pins s σ H Q I (f _ _ _ h (TKs.refl H) w)⟩
theorem dts_one {c : Expr} {t : TDT} (h : DT X c t) : PTs X [c] (upT X.K t) := pts_one h
end
/-- elements that leave the store as it is -/
theorem lc_pure {ds : List DV} {st : DG → Prop} {ld : TL} {tt : TDT} {te : TD} {vs : List Nat} {δ : DSt} {G1 : DG} {Q : DK} (f : DV → Option DV) (hsc : ∀ p o, G1 p = none → st (dupd G1 p o)) (hl : ds.length ≤ 1000000)
    (h : ∀ d ∈ ds, ∀ (G : DG) (k1 : DK) (k0 : DG → Prop), (∃ p acc, G1 p = none ∧ G = dupd G1 p (.lst acc)) → (∀ y, f d = some y → k1 y G) → (f d = none → k0 G) →
      ld d (wipeD δ vs) fun δ2 => tt δ2 G fun b G3 => if b = true then te δ2 G3 k1 else k0 G3)
    (q : ∀ p, G1 p = none → Q (.ref p) (dupd G1 p (.lst (ds.filterMap f)))) :
    ∀ p, G1 p = none → ∃ Pv : Nat → List DV → DG → Prop, Pv 0 [] (dupd G1 p (.lst [])) ∧ (∀ i acc G, Pv i acc G → st G) ∧
      (∀ i d acc G, ds[i]? = some d → Pv i acc G → ld d (wipeD δ vs) fun δ2 => tt δ2 G fun b G3 => if b = true then te δ2 G3 fun y G4 => G4 p = some (.lst acc) ∧ acc.length < sizeLine ∧ Pv (i + 1) (acc ++ [y]) (dupd G4 p (.lst (acc ++ [y]))) else Pv (i + 1) acc G3) ∧
      (∀ acc G, Pv ds.length acc G → Q (.ref p) G) := by
  intro p np
  refine ⟨fun i acc G => acc = (ds.take i).filterMap f ∧ i ≤ ds.length ∧ G = dupd G1 p (.lst acc), ⟨rfl, Nat.zero_le _, rfl⟩, fun i acc G ⟨_, _, e⟩ => by rw [e]; exact hsc p _ np, ?_, ?_⟩
  · rintro i d acc G hd ⟨ea, hi, rfl⟩
    have hlt : i < ds.length := (List.getElem?_eq_some_iff.mp hd).1
    have et : ds.take (i + 1) = ds.take i ++ [d] := by rw [List.take_add_one, hd]; rfl
    have la : acc.length ≤ i := by rw [ea]; exact Nat.le_trans (List.length_filterMap_le _ _) (by rw [List.length_take]; omega)
    refine h d (List.mem_of_getElem? hd) _ _ _ ⟨p, acc, np, rfl⟩ (fun y hf => ?_) (fun hf => ?_)
    · refine ⟨dupd_same, midlt (by omega), ?_, hlt, dupd_dupd⟩
      rw [et, List.filterMap_append, ← ea]
      show acc ++ [y] = acc ++ List.filterMap f [d]
      rw [List.filterMap_cons_some hf]; rfl
    · refine ⟨?_, hlt, rfl⟩
      rw [et, List.filterMap_append, ← ea, List.filterMap_cons_none hf, List.filterMap_nil, List.append_nil]
  · rintro acc G ⟨ea, _, rfl⟩
    rw [ea, List.take_length]
    exact q p np
end DD
namespace DD
open PySem PySem.W L2 SX Cm
/-! ### defs -/
abbrev DSp := List DV → DG → DK → Prop
def toSp (K : Frag) (n : Nat) (dsp : DSp) : Sp := fun vs H Q _ => ∃ ds G R, RVs K H vs ds ∧ Wd K H G ∧ ds.length = n ∧ dsp ds G R ∧ Fin K H R Q
theorem _root_.PySem.W.L2.Fun.look {K : Frag} {x qual : Str} {st : Stmt} {f : Addr} {fd : FuncData} (F : Fun K x qual st f fd) : ∃ oc od osl, K.lookup f = some ⟨oc, od, .func fd, osl⟩ := by
  obtain ⟨oc, od, kV, doc, pm, an, cdv, ct, osl, rfl, lk, _⟩ := F.ex
  exact ⟨oc, od, osl, lk⟩
/-- the def nm keeps a promise about data, by level k -/
def Has (P : Program) (w : World) (K : Frag) (mg : Str → Option Value) (base : Heap) (k : Nat) (nm : Str) (ps : List Str) (dsp : DSp) : Prop :=
  ∃ f fd, FnOk P w K mg base CX0 k f fd ps (toSp K ps.length dsp) ∧ L2.Binds K fd ps [] ∧ keepIn K (.ref f) = true ∧ mg nm = some (.ref f) ∧ ∃ oc od osl, K.lookup f = some ⟨oc, od, .func fd, osl⟩
section
variable {P : Program} {w : World} {K : Frag} {mg : Str → Option Value} {base : Heap} {k : Nat} {nm : Str} {ps : List Str} {dsp : DSp}
theorem Has.mono {j : Nat} (h : Has P w K mg base k nm ps dsp) (l : k ≤ j) : Has P w K mg base j nm ps dsp := by
  obtain ⟨f, fd, a, b⟩ := h
  exact ⟨f, fd, a.mono l, b⟩
/-- many promises of one def -/
theorem Has.any {ι : Type} [ne : Nonempty ι] {d : ι → DSp} (h : ∀ i, Has P w K mg base k nm ps (d i)) : Has P w K mg base k nm ps (fun ds G R => ∃ i, d i ds G R) := by
  obtain ⟨i0⟩ := ne
  obtain ⟨f, fd, a, b, kp, m, oc, od, osl, lk⟩ := h i0
  have all : ∀ i, FnOk P w K mg base CX0 k f fd ps (toSp K ps.length (d i)) := fun i => by
    obtain ⟨f', fd', a', b', kp', m', oc', od', osl', lk'⟩ := h i
    rw [m] at m'
    cases m'
    rw [lk] at lk'
    cases lk'
    exact a'
  refine ⟨f, fd, ⟨fun vs H Q E ⟨ds, G, R, r, w, l, ⟨i, h⟩, f⟩ => (all i).len vs H Q E ⟨ds, G, R, r, w, l, h, f⟩, fun A outer s H args us vs Q E hr he hb hv ⟨ds, G, R, r, w, l, ⟨i, h⟩, f⟩ => (all i).run A outer s H args us vs Q E hr he hb hv ⟨ds, G, R, r, w, l, h, f⟩⟩, b, kp, m, oc, od, osl, lk⟩
theorem Has.imp {dsp' : DSp} (h : Has P w K mg base k nm ps dsp) (i : ∀ ds G R, dsp' ds G R → dsp ds G R) : Has P w K mg base k nm ps dsp' := by
  obtain ⟨f, fd, a, b⟩ := h
  exact ⟨f, fd, a.imp fun vs H Q E ⟨ds, G, R, r, w, l, h, f⟩ => ⟨ds, G, R, r, w, l, i ds G R h, f⟩, b⟩
end
section
variable {X : Cx} {k : Nat} {nm : Str} {ps : List Str} {dsp : DSp} {e : Expr} {es : List Expr} {ts : TDA} {p pos : Pos}
def dCall (n : Nat) (dsp : DSp) (t : TDA) : TD := fun δ G Q => t δ G fun ds G1 => ds.length = n ∧ dsp ds G1 Q
theorem de_call (h : Has X.prog X.w X.K X.mg X.base k nm ps dsp) (hr : Room k X.A) (hg : Gl X nm) (ha : DA X (e :: es) ts) (hdb : (nm == ("__debug__" : Str)) = false := by decide) (he : starEach (e :: es) X.env = (false, eval e X.env) :: starEach es X.env := by rfl) (hpl : (backTo pos (starEach es X.env)).any (·.1) = false := by rfl) :
    DE X (.Call (.Name nm p) (e :: es) [] pos) (dCall ps.length dsp ts) := by
  obtain ⟨f, fd, F, b, kp, m, _⟩ := h
  refine PE_mono (pe_call F hr hg m kp b .nil (pass0 (X := X)) ha hdb he hpl) fun σ H Q ⟨δ, G, R, sl, w, h, f⟩ => ⟨δ, G, _, sl, w, h, fun ds G1 vs H1 h1 t1 w1 r1 => ?_⟩
  show toSp X.K ps.length dsp (vs ++ []) H1 Q E0
  rw [List.append_nil]
  exact ⟨ds, G1, R, r1, w1, h1.1, h1.2, f.step t1⟩
end
def dstart (N : List Str) (ds : List DV) : DSt := ds.map some ++ List.replicate (N.length - ds.length) none
theorem Sl.nones {K : Frag} {H : Hp} : ∀ n : Nat, Sl K H (List.replicate n none) (List.replicate n none)
  | 0 => .nil
  | n + 1 => .non (Sl.nones n)
theorem Sl.somes {K : Frag} {H : Hp} {σ : St} {δ : DSt} (h : Sl K H σ δ) : ∀ {vs : List V} {ds : List DV}, RVs K H vs ds → Sl K H (vs.map some ++ σ) (ds.map some ++ δ)
  | _, _, .nil => h
  | _, _, .cons r t => .cons r (Sl.somes h t)
theorem sl_start {K : Frag} {H : Hp} {N : List Str} {vs : List V} {ds : List DV} (r : RVs K H vs ds) : Sl K H (L2.start N vs) (dstart N ds) := by
  unfold L2.start dstart
  rw [r.len]
  exact Sl.somes (Sl.nones _) r
/-- what is told of the store behind a def: less than is known -/
def Less (R : DK) : DK := fun d G => ∃ G', Sub G' G ∧ R d G'
theorem Less.of {R : DK} {d : DV} {G : DG} (h : R d G) : Less R d G := ⟨G, Sub.refl G, h⟩
section
variable {P : Program} {w : World} {K : Frag} {mg : Str → Option Value} {base : Heap}
theorem links_def {H : Hp} {R : DK} {Q : VK} (f : Fin K H R Q) : Links K H { nx := fun _ G => Less R .non G, rt := Less R } { nx := fun _ H' => Q .non H', rt := Q } :=
  ⟨fun σ δ G H' ⟨G', s, r⟩ t w sl => f _ G' _ H' r t (w.sub s) .non, fun d G v H' ⟨G', s, r⟩ t w rv => f _ G' _ H' r t (w.sub s) rv, fun _ _ _ _ h => h.elim, fun _ _ _ _ h => h.elim⟩
/-- a def by its body, over data -/
theorem has_mk {nm : Str} {st : Stmt} {f : Addr} {fd : FuncData} {N ps : List Str} {k : Nat} {dsp : DSp} (F : Fun K nm nm st f fd) (b : L2.Binds K fd ps []) (m : mg nm = some (.ref f)) (S : FnScope N ps (defScope st))
    (body : ∀ (cdv : Value) (A : Around) (outer : List Env) (s : Shared) (H : Hp) (E : XK), Room k (A.deeper (PyProof.Rows.envOfC nm (defScope st) s.heap.objs.size f cdv)) → ∀ ds G R, ds.length = ps.length → dsp ds G R →
      ∃ t, DSs (cxOf CX0 P w K mg base N nm (defScope st) f cdv A outer s H E).nox (defBody st) t ∧ t { nx := fun _ G => Less R .non G, rt := Less R } (dstart N ds) G) : Has P w K mg base (k + 1) nm ps dsp := by
  refine ⟨f, fd, F.ok S (fun vs H Q E h => ?_) (fun cdv A outer s H vs Q E hr h => ?_), b, F.kp, m, F.look⟩
  · obtain ⟨ds, G, R, r, w, l, _⟩ := h
    rw [r.len]; exact l
  · obtain ⟨ds, G, R, r, wd, l, h, fin⟩ := h
    obtain ⟨t, h1, h2⟩ := body cdv A outer s H E hr ds G R l h
    exact ⟨_, h1, _, _, G, sl_start r, wd, links_def fin, h2⟩
end
/-! ### things of which only something is known -/
theorem Wd.abs_keep {K : Frag} {H H' : Hp} {G : DG} {d : Addr} {L : List Addr} {φ : Hp → Prop} (w : Wd K H G) (e : G d = some (.abs L φ)) (kp : Kp L H H') (t : TKs K H H') (hφ : φ H') (hl : ∀ b ∈ L, ∃ xs, H' b = some (.lst xs)) : Wd K H' G := by
  obtain ⟨O, w⟩ := w
  obtain ⟨md, _, _, loc, ow⟩ := w.ob d _ e
  have nL : ∀ a o, G a = some o → a ≠ d → a ∉ L := fun a o ea ne m => by
    have := ow a m ne
    have := (w.own a d this).1
    rw [ea] at this; cases this
  have nO : ∀ b a, O b = some a → a ≠ d → b ∉ L := fun b a eb ne m => by
    by_cases hbd : b = d
    · have := (w.own b a eb).1
      rw [hbd, e] at this; cases this
    · have := ow b m hbd
      rw [eb] at this
      exact ne (Option.some.inj this)
  refine ⟨O, ⟨fun b a eb => ?_, fun a o ea => ?_⟩⟩
  · obtain ⟨h1, xs, h2⟩ := w.own b a eb
    by_cases had : a = d
    · by_cases hm : b ∈ L
      · exact ⟨h1, hl b hm⟩
      · exact ⟨h1, xs, kp b _ hm h2⟩
    · exact ⟨h1, xs, kp b _ (nO b a eb had) h2⟩
  · by_cases had : a = d
    · subst had
      rw [e] at ea
      cases ea
      exact ⟨md, hl a md, hφ, loc, ow⟩
    · refine OR.keep w t ea fun b hb => ?_
      obtain ⟨u, hu, nb⟩ : ∃ u, H b = some u ∧ b ∉ L := by
        rcases hb with rfl | hb
        · obtain ⟨u, hu⟩ := (w.ob _ o ea).some
          exact ⟨u, hu, nL _ o ea had⟩
        · obtain ⟨_, xs, h⟩ := w.own b a hb
          exact ⟨_, h, nO b a hb had⟩
      rw [hu, kp b u nb hu]
/-- nothing but one thing is known -/
theorem wd_one {K : Frag} {H : Hp} {d : Addr} {L : List Addr} {φ : Hp → Prop} (md : d ∈ L) (hφ : φ H) (hl : ∀ b ∈ L, ∃ xs, H b = some (.lst xs)) (loc : ∀ H1 H2, (∀ b ∈ L, H1 b = H2 b) → φ H1 → φ H2) : Wd K H (dupd (fun _ => none) d (.abs L φ)) := by
  refine ⟨fun b => if b ∈ L ∧ b ≠ d then some d else none, ⟨fun b a e => ?_, fun a o e => ?_⟩⟩
  · by_cases h : b ∈ L ∧ b ≠ d
    · exact ⟨dupd_ne h.2, hl b h.1⟩
    · rw [if_neg h] at e; cases e
  · by_cases had : a = d
    · subst had
      rw [dupd_same] at e
      cases e
      exact ⟨md, hl a md, hφ, loc, fun b hb hbd => if_pos ⟨hb, hbd⟩⟩
    · rw [dupd_ne had] at e; cases e
end DD
namespace PySem
open Sem (wp)
open AutoSeq1 (wpAny_loadPart')
end PySem
namespace DD
open PySem PySem.W L2 SX Cm PyProof.Rows
section
variable {X : Cx} {elts : List Expr} {kk : Nat} {tpos : Pos}
/-- enumerate of a tuple -/
def dIEnumT (t : TDA) : TDI := fun δ G R => t δ G fun xs G1 => ∃ ds, xs = [.tup ds] ∧ R (nmbd ds) (fun _ => True) G1
end
end DD
namespace PySem.W
open PySem PySem.Calls PyProof.Rows
end PySem.W
namespace DD
open PySem PySem.W L2 SX Cm PyProof.Rows
end DD
namespace DD
open PySem PySem.W L2 SX Cm
/-- the names of built-ins are still theirs -/
structure BI (mg : Str → Option Value) : Prop where
  len : mg "len" = none
  isi : mg "isinstance" = none
  int : mg "int" = none
  str : mg "str" = none
  tup : mg "tuple" = none
  lst : mg "list" = none
  bool : mg "bool" = none
  dct : mg "dict" = none
  all : mg "all" = none
  any : mg "any" = none
  sum : mg "sum" = none
  sorted : mg "sorted" = none
  set : mg "set" = none
  range : mg "range" = none
  enum : mg "enumerate" = none
  zip : mg "zip" = none
  rev : mg "reversed" = none
/-- the def nm stands at its place -/
def At (K : Frag) (mg : Str → Option Value) (nm : Str) (st : Stmt) (ps : List Str) : Prop := ∃ f fd, Fun K nm nm st f fd ∧ L2.Binds K fd ps [] ∧ mg nm = some (.ref f)
section
variable {P : Program} {w : World} {K : Frag} {mg : Str → Option Value} {base : Heap}
theorem at_mk {nm : Str} {st : Stmt} {N ps : List Str} {k : Nat} {dsp : DSp} (a : At K mg nm st ps) (S : FnScope N ps (defScope st))
    (body : ∀ (f : Addr) (cdv : Value) (A : Around) (outer : List Env) (s : Shared) (H : Hp) (E : XK), Room k (A.deeper (PyProof.Rows.envOfC nm (defScope st) s.heap.objs.size f cdv)) → ∀ ds G R, ds.length = ps.length → dsp ds G R →
      ∃ t, DSs (cxOf CX0 P w K mg base N nm (defScope st) f cdv A outer s H E).nox (defBody st) t ∧ t { nx := fun _ G => Less R .non G, rt := Less R } (dstart N ds) G) : Has P w K mg base (k + 1) nm ps dsp := by
  obtain ⟨f, fd, F, b, m⟩ := a
  exact has_mk F b m S (body f)
/-- a promise about the heap gives one about data -/
theorem has_of {nm : Str} {st : Stmt} {ps : List Str} {k : Nat} {sp : Sp} {dsp : DSp} (a : At K mg nm st ps) (h : ∀ f fd, Fun K nm nm st f fd → FnOk P w K mg base CX0 k f fd ps sp) (i : ∀ vs H Q E, toSp K ps.length dsp vs H Q E → sp vs H Q E) : Has P w K mg base k nm ps dsp := by
  obtain ⟨f, fd, F, b, m⟩ := a
  exact ⟨f, fd, (h f fd F).imp i, b, F.kp, m, F.look⟩
end
section
variable {X : Cx}
theorem dv (i : Nat) {x : Str} {pos : Pos} (hN : X.N[i]? = some x := by rfl) (hv : Vis X.env.scope x := by first | exact Or.inl rfl | exact Or.inr (Or.inl rfl) | exact Or.inr (Or.inr rfl)) (hd : (x == ("__debug__" : Str)) = false := by decide)
    (hcd : (x == ("__classdict__" : Str)) = false := by decide) : DE X (.Name x pos) (dVar i) := de_var hN hv hd hcd
/-- reversed(range(n)) -/
def dIRevR (t : TDA) : TDI := fun δ G R => t δ G fun ds G1 => ∃ j : Int, ds = [.int j] ∧ 0 ≤ j ∧ j < 2 ^ 62 ∧ R (rng 0 j.toNat).reverse (fun _ => True) G1
end
end DD
/-! things, words and rows as they are, and as data -/
namespace DD
open PySem PySem.W L2 SX Cm
theorem iF {A B : Prop} {c : Bool} (h : B) (hc : c = false := by rfl) : if c = true then A else B := by rw [if_neg (by rw [hc]; exact Bool.false_ne_true)]; exact h
theorem ly1 {i : Nat} {d : DV} {δ : DSt} {G : DG} {k : DSt → Bool → DG → Prop} (h : k (δ.set i (some d)) true G) : l1 i d δ (fun δ2 => dYes δ2 G (k δ2)) := h
theorem ly2 {i j : Nat} {a b : DV} {δ : DSt} {G : DG} {k : DSt → Bool → DG → Prop} (h : k ((δ.set i (some a)).set j (some b)) true G) : l2 i j (.tup [a, b]) δ (fun δ2 => dYes δ2 G (k δ2)) := ⟨a, b, rfl, h⟩
theorem lt1' {i : Nat} {d : DV} {δ : DSt} {k : DSt → Prop} (h : k (δ.set i (some d))) : l1 i d δ k := h
theorem Sub.at_ {G G' : DG} {p : Addr} {o : DO} (s : Sub G G') (h : G' p = some o) : Sub (dupd G p o) G' := fun a u e => by
  by_cases z : a = p
  · subst z; rw [dupd_same] at e; rw [h]; exact e
  · rw [dupd_ne z] at e; exact s a u e
theorem Sub.nonew {G G' : DG} {p : Addr} (s : Sub G G') (n : G' p = none) : G p = none := by
  cases e : G p with
  | none => rfl
  | some o => rw [s p o e] at n; cases n
theorem ne_some {G : DG} {a b : Addr} {o : DO} (h : G a = some o) (n : G b = none) : a ≠ b := fun z => by rw [z, n] at h; cases h
theorem sz1 : (1 : Nat) ≤ sizeLine := by decide
theorem sz2 : (2 : Nat) ≤ sizeLine := by decide
mutual
inductive Th where
  | num (n : Int)
  | row (ws : List Wo)
  | lst (ts : List Th)
inductive Wo where
  | txt (z : Str)
  | push (t : Th)
end
mutual
def eT : Th → DV
  | .num n => .tup [.str "number", .int n]
  | .row ws => .tup [.str "row", .tup (eWs ws)]
  | .lst ts => .tup [.str "list", .tup (eTs ts)]
def eW : Wo → DV
  | .txt z => .str z
  | .push t => .tup [.str "push", eT t]
def eWs : List Wo → List DV
  | [] => []
  | w :: r => eW w :: eWs r
def eTs : List Th → List DV
  | [] => []
  | t :: r => eT t :: eTs r
end
mutual
/-- how many parts in all -/
def szT : Th → Nat
  | .num _ => 1
  | .row ws => 1 + szWs ws
  | .lst ts => 1 + szTs ts
def szW : Wo → Nat
  | .txt _ => 1
  | .push t => 1 + szT t
def szWs : List Wo → Nat
  | [] => 0
  | w :: r => szW w + szWs r
def szTs : List Th → Nat
  | [] => 0
  | t :: r => szT t + szTs r
end
mutual
def dpT : Th → Nat
  | .num _ => 0
  | .row ws => 1 + dpWs ws
  | .lst ts => 1 + dpTs ts
def dpW : Wo → Nat
  | .txt _ => 0
  | .push t => dpT t
def dpWs : List Wo → Nat
  | [] => 0
  | w :: r => max (dpW w) (dpWs r)
def dpTs : List Th → Nat
  | [] => 0
  | t :: r => max (dpT t) (dpTs r)
end
mutual
/-- its texts are texts -/
def txT : Th → Bool
  | .num _ => true
  | .row ws => txWs ws
  | .lst ts => txTs ts
def txW : Wo → Bool
  | .txt z => PyData.strOk z
  | .push t => txT t
def txWs : List Wo → Bool
  | [] => true
  | w :: r => txW w && txWs r
def txTs : List Th → Bool
  | [] => true
  | t :: r => txT t && txTs r
end
theorem szWs_app : ∀ a b, szWs (a ++ b) = szWs a + szWs b
  | [], b => (Nat.zero_add _).symm
  | w :: r, b => by show szW w + szWs (r ++ b) = szW w + szWs r + szWs b; rw [szWs_app r b]; omega
theorem szTs_app : ∀ a b, szTs (a ++ b) = szTs a + szTs b
  | [], b => (Nat.zero_add _).symm
  | w :: r, b => by show szT w + szTs (r ++ b) = szT w + szTs r + szTs b; rw [szTs_app r b]; omega
theorem dpWs_app : ∀ a b, dpWs (a ++ b) = max (dpWs a) (dpWs b)
  | [], b => by show dpWs b = max 0 _; omega
  | w :: r, b => by show max (dpW w) (dpWs (r ++ b)) = max (max (dpW w) (dpWs r)) (dpWs b); rw [dpWs_app r b]; omega
theorem dpTs_app : ∀ a b, dpTs (a ++ b) = max (dpTs a) (dpTs b)
  | [], b => by show dpTs b = max 0 _; omega
  | w :: r, b => by show max (dpT w) (dpTs (r ++ b)) = max (max (dpT w) (dpTs r)) (dpTs b); rw [dpTs_app r b]; omega
theorem txWs_app : ∀ a b, txWs (a ++ b) = (txWs a && txWs b)
  | [], b => rfl
  | w :: r, b => by show (txW w && txWs (r ++ b)) = (txW w && txWs r && txWs b); rw [txWs_app r b, Bool.and_assoc]
theorem txTs_app : ∀ a b, txTs (a ++ b) = (txTs a && txTs b)
  | [], b => rfl
  | w :: r, b => by show (txT w && txTs (r ++ b)) = (txT w && txTs r && txTs b); rw [txTs_app r b, Bool.and_assoc]
/-- a row, a thing: not too deep, not too large, of texts -/
structure GW (k m : Nat) (ws : List Wo) : Prop where
  dp : dpWs ws ≤ k
  sz : szWs ws ≤ m
  tx : txWs ws = true
structure GT (k m : Nat) (t : Th) : Prop where
  dp : dpT t ≤ k
  sz : szT t ≤ m
  tx : txT t = true
structure GTs (k m : Nat) (ts : List Th) : Prop where
  dp : dpTs ts ≤ k
  sz : szTs ts ≤ m
  tx : txTs ts = true
theorem GW.nil {k m : Nat} : GW k m [] := ⟨Nat.zero_le _, Nat.zero_le _, rfl⟩
theorem GTs.nil {k m : Nat} : GTs k m [] := ⟨Nat.zero_le _, Nat.zero_le _, rfl⟩
theorem GW.app {k m m' : Nat} {a b : List Wo} (h : GW k m a) (g : GW k m' b) : GW k (m + m') (a ++ b) :=
  ⟨by rw [dpWs_app]; have := h.dp; have := g.dp; omega, by rw [szWs_app]; have := h.sz; have := g.sz; omega, by rw [txWs_app, h.tx, g.tx]; rfl⟩
theorem GTs.app {k m m' : Nat} {a b : List Th} (h : GTs k m a) (g : GTs k m' b) : GTs k (m + m') (a ++ b) :=
  ⟨by rw [dpTs_app]; have := h.dp; have := g.dp; omega, by rw [szTs_app]; have := h.sz; have := g.sz; omega, by rw [txTs_app, h.tx, g.tx]; rfl⟩
theorem GW.txt {k : Nat} {z : Str} (h : PyData.strOk z = true) : GW k 1 [.txt z] := ⟨by show max 0 0 ≤ k; omega, Nat.le_refl 1, by show (PyData.strOk z && true) = true; rw [h]; rfl⟩
theorem GW.push {k m : Nat} {t : Th} (h : GT k m t) : GW k (m + 1) [.push t] := ⟨by show max (dpT t) 0 ≤ k; have := h.dp; omega, by show 1 + szT t + 0 ≤ m + 1; have := h.sz; omega, by show (txT t && true) = true; rw [h.tx]; rfl⟩
theorem GTs.one {k m : Nat} {t : Th} (h : GT k m t) : GTs k m [t] := ⟨by show max (dpT t) 0 ≤ k; have := h.dp; omega, by show szT t + 0 ≤ m; have := h.sz; omega, by show (txT t && true) = true; rw [h.tx]; rfl⟩
theorem GT.num {k m : Nat} (n : Int) (hm : 1 ≤ m) : GT k m (.num n) := ⟨Nat.zero_le _, hm, rfl⟩
theorem GT.row {k m : Nat} {ws : List Wo} (h : GW k m ws) : GT (k + 1) (m + 1) (.row ws) := ⟨by show 1 + dpWs ws ≤ _; have := h.dp; omega, by show 1 + szWs ws ≤ _; have := h.sz; omega, h.tx⟩
theorem GT.lst {k m : Nat} {ts : List Th} (h : GTs k m ts) : GT (k + 1) (m + 1) (.lst ts) := ⟨by show 1 + dpTs ts ≤ _; have := h.dp; omega, by show 1 + szTs ts ≤ _; have := h.sz; omega, h.tx⟩
theorem GT.up {k m k' m' : Nat} {t : Th} (h : GT k m t) (hk : k ≤ k') (hm : m ≤ m') : GT k' m' t := ⟨Nat.le_trans h.dp hk, Nat.le_trans h.sz hm, h.tx⟩
theorem GW.up {k m k' m' : Nat} {t : List Wo} (h : GW k m t) (hk : k ≤ k') (hm : m ≤ m') : GW k' m' t := ⟨Nat.le_trans h.dp hk, Nat.le_trans h.sz hm, h.tx⟩
theorem GTs.up {k m k' m' : Nat} {t : List Th} (h : GTs k m t) (hk : k ≤ k') (hm : m ≤ m') : GTs k' m' t := ⟨Nat.le_trans h.dp hk, Nat.le_trans h.sz hm, h.tx⟩
/-! comparing them -/
end DD
/-! readings gone through step by step: one rule for each head -/
namespace DD
open PySem PySem.W L2 SX Cm
section
variable {nx : DSt → DG → Prop} {rt : DK} {bk ct : DSt → DG → Prop} {δ : DSt} {G : DG} {t u : TDS} {Q : DK} {QB : Bool → DG → Prop} {QA : List DV → DG → Prop} {te ta tb tc : TD} {tt tu : TDT} {ts : TDA}
theorem w_next (h : nx δ G) : dNext ⟨nx, rt, bk, ct⟩ δ G := h
theorem w_seq (h : t ⟨u ⟨nx, rt, bk, ct⟩, rt, bk, ct⟩ δ G) : dSeq t u ⟨nx, rt, bk, ct⟩ δ G := h
theorem w_break (h : bk δ G) : dBreak ⟨nx, rt, bk, ct⟩ δ G := h
theorem w_cont (h : ct δ G) : dCont ⟨nx, rt, bk, ct⟩ δ G := h
theorem w_drop (h : te δ G fun _ G1 => nx δ G1) : dDrop te ⟨nx, rt, bk, ct⟩ δ G := h
theorem w_ret (h : te δ G rt) : dRet te ⟨nx, rt, bk, ct⟩ δ G := h
theorem w_retN (h : rt .non G) : dRetN ⟨nx, rt, bk, ct⟩ δ G := h
theorem w_ifS {c : TDT} (h : c δ G fun b G1 => if b = true then t ⟨nx, rt, bk, ct⟩ δ G1 else u ⟨nx, rt, bk, ct⟩ δ G1) : dIfS c t u ⟨nx, rt, bk, ct⟩ δ G := h
theorem w_asg {i : Nat} (h : te δ G fun d G1 => nx (δ.set i (some d)) G1) : dAsg te (gN i) ⟨nx, rt, bk, ct⟩ δ G := h
theorem w_asgS (h : te δ G fun v G1 => ta δ G1 fun o G2 => tb δ G2 fun i G3 => bSet o i v G3 fun G4 => nx δ G4) : dAsg te (gSb ta tb) ⟨nx, rt, bk, ct⟩ δ G := h
theorem w_par {i j : Nat} (h : ts δ G fun ds G1 => ∃ a b, ds = [a, b] ∧ nx ((δ.set i (some a)).set j (some b)) G1) : dPar i j ts ⟨nx, rt, bk, ct⟩ δ G := h
theorem w_parE {k : DV → DV → Prop} {a b : DV} (h : k a b) : ∃ a' b', [a, b] = [a', b'] ∧ k a' b' := ⟨a, b, rfl, h⟩
/-! expressions -/
theorem w_var {i : Nat} {d : DV} (h : δ[i]? = some (some d)) (q : Q d G) : dVar i δ G Q := ⟨d, h, q⟩
theorem w_c {d : DV} (q : Q d G) : dC d δ G Q := q
theorem w_op {b : D2} (h : ta δ G fun x G1 => tb δ G1 fun y G2 => b x y G2 Q) : dOp b ta tb δ G Q := h
theorem w_call {n : Nat} {sp : DSp} (h : ts δ G fun ds G1 => ds.length = n ∧ sp ds G1 Q) : dCall n sp ts δ G Q := h
theorem w_len {n : Nat} {ds : List DV} {A : Prop} (h : A) (e : ds.length = n := by rfl) : ds.length = n ∧ A := ⟨e, h⟩
theorem w_CB {b : DC} (h : ts δ G fun ds G1 => b ds G1 Q) : dCB b ts δ G Q := h
theorem w_tup (h : ts δ G fun ds G1 => ds.length ≤ sizeLine ∧ Q (.tup ds) G1) : dTup ts δ G Q := h
theorem w_lst (h : ts δ G fun ds G1 => ds.length ≤ sizeLine ∧ ∀ p, G1 p = none → Q (.ref p) (dupd G1 p (.lst ds))) : dLst ts δ G Q := h
theorem w_sz {ds : List DV} {A : Prop} (h : A) (e : ds.length ≤ sizeLine := by decide) : ds.length ≤ sizeLine ∧ A := ⟨e, h⟩
theorem w_nil (h : QA [] G) : dNil δ G QA := h
theorem w_cons (h : te δ G fun x G1 => ts δ G1 fun xs G2 => QA (x :: xs) G2) : dCons te ts δ G QA := h
theorem w_sl {tl th : TDO} (h : te δ G fun x G1 => tl δ G1 fun l G2 => th δ G2 fun u G3 => bSl x l u G3 Q) : dSl te tl th δ G Q := h
theorem w_none {QO : Option Int → DG → Prop} (h : QO none G) : dNone δ G QO := h
theorem w_some {QO : Option Int → DG → Prop} (h : te δ G fun d G' => ∃ i, d = .int i ∧ QO (some i) G') : dSome te δ G QO := h
theorem w_exI {k : Int → Prop} {i : Int} (h : k i) : ∃ j, DV.int i = .int j ∧ k j := ⟨i, rfl, h⟩
theorem w_exB {k : Bool → Prop} {i : Bool} (h : k i) : ∃ j, DV.bl i = .bl j ∧ k j := ⟨i, rfl, h⟩
theorem w_exT {k : List DV → Prop} {i : List DV} (h : k i) : ∃ j, DV.tup i = .tup j ∧ k j := ⟨i, rfl, h⟩
theorem w_exS {k : Str → Prop} {i : Str} (h : k i) : ∃ j, DV.str i = .str j ∧ k j := ⟨i, rfl, h⟩
theorem w_rev (h : te δ G fun x G1 => ∃ ds, x = .tup ds ∧ Q (.tup ds.reverse) G1) : dRev te δ G Q := h
theorem w_neg (h : te δ G fun x G1 => ∃ i, x = .int i ∧ Q (.int (-i)) G1) : dNeg te δ G Q := h
theorem w_ifE (h : tt δ G fun c G1 => if c = true then ta δ G1 Q else tb δ G1 Q) : dIf tt ta tb δ G Q := h
theorem w_andV (h : ta δ G fun x G1 => ∃ c, x = .bl c ∧ if c = true then tb δ G1 Q else Q (.bl false) G1) : dAndV ta tb δ G Q := h
theorem w_orV (h : ta δ G fun x G1 => ∃ c, x = .bl c ∧ if c = true then Q (.bl true) G1 else tb δ G1 Q) : dOrV ta tb δ G Q := h
theorem w_notV (h : ta δ G fun x G1 => ∃ c, x = .bl c ∧ Q (.bl (!c)) G1) : dNotV ta δ G Q := h
theorem w_BM {T : String} {b : DM} (h : te δ G fun x G1 => rcv T x G1 ∧ ts δ G1 fun ds G2 => b x ds G2 Q) : dBM T b te ts δ G Q := h
theorem w_BM0 {T : String} {b : DM} (h : te δ G fun x G1 => rcv T x G1 ∧ b x [] G1 Q) : dBM0 T b te δ G Q := h
theorem w_rcvS {z : Str} {A : Prop} (h : A) : rcv "str" (.str z) G ∧ A := ⟨rfl, h⟩
theorem w_rcvL {p : Addr} {ds : List DV} {A : Prop} (e : G p = some (.lst ds)) (h : A) : rcv "list" (.ref p) G ∧ A := ⟨.inl ⟨rfl, ds, .inl e⟩, h⟩
/-! tests -/
theorem w_test (h : te δ G fun d G' => ∃ k, d = .bl k ∧ QB k G') : dTest te δ G QB := h
theorem w_tru (h : te δ G fun d G' => bTru d G' QB) : dTru te δ G QB := h
theorem w_and (h : tt δ G fun c G1 => if c = true then tu δ G1 QB else QB false G1) : dAnd tt tu δ G QB := h
theorem w_or (h : tt δ G fun c G1 => if c = true then QB true G1 else tu δ G1 QB) : dOr tt tu δ G QB := h
theorem w_not (h : tt δ G fun c G1 => QB (!c) G1) : dNot tt δ G QB := h
theorem w_yes (h : QB true G) : dYes δ G QB := h
theorem w_truB {b : Bool} (h : QB b G) : bTru (.bl b) G QB := h
theorem w_truI {i : Int} (h : QB (i != 0) G) : bTru (.int i) G QB := h
theorem w_truN (h : QB false G) : bTru .non G QB := h
theorem w_truT {ds : List DV} (h : QB (!ds.isEmpty) G) : bTru (.tup ds) G QB := h
theorem w_truL {p : Addr} {ds : List DV} (e : G p = some (.lst ds)) (h : QB (!ds.isEmpty) G) : bTru (.ref p) G QB := .inl ⟨ds, .inl e, h⟩
/-! operators -/
theorem w_addI {i j : Int} (h : Q (.int (i + j)) G) : bAdd (.int i) (.int j) G Q := h
theorem w_addT {a b : List DV} (l : a.length + b.length ≤ sizeLine) (h : Q (.tup (a ++ b)) G) : bAdd (.tup a) (.tup b) G Q := ⟨l, h⟩
theorem w_subI {i j : Int} (h : Q (.int (i - j)) G) : bSub (.int i) (.int j) G Q := h
theorem w_int {C : Int → Int → Prop} {g : Int → Int → DV} {i j : Int} (c : C i j) (h : Q (g i j) G) : bInt C g (.int i) (.int j) G Q := ⟨c, h⟩
theorem w_cmpI {g : Int → Int → Bool} {s : List Nat → List Nat → Bool} {i j : Int} (h : Q (.bl (g i j)) G) : bCmp g s (.int i) (.int j) G Q := h
theorem w_cmpS {g : Int → Int → Bool} {s : List Nat → List Nat → Bool} {i j : Str} (h : Q (.bl (s i.cps.toList j.cps.toList)) G) : bCmp g s (.str i) (.str j) G Q := h
theorem w_eqSS {a b : Str} (h : Q (.bl (decide (a = b))) G) : bEq false (.str a) (.str b) G Q := h
theorem w_eqII {a b : Int} (h : Q (.bl (decide (a = b))) G) : bEq false (.int a) (.int b) G Q := h
theorem w_eqBB {a b : Bool} (h : Q (.bl (decide (a = b))) G) : bEq false (.bl a) (.bl b) G Q := h
theorem w_neSS {a b : Str} (h : Q (.bl (!decide (a = b))) G) : bEq true (.str a) (.str b) G Q := h
theorem w_neII {a b : Int} (h : Q (.bl (!decide (a = b))) G) : bEq true (.int a) (.int b) G Q := h
theorem w_neBB {a b : Bool} (h : Q (.bl (!decide (a = b))) G) : bEq true (.bl a) (.bl b) G Q := h
theorem w_eqSN {a : Str} {n : Bool} (h : Q (.bl n) G) : bEq n (.str a) .non G Q := h
theorem w_eqIN {a : Int} {n : Bool} (h : Q (.bl n) G) : bEq n (.int a) .non G Q := h
theorem w_eqSI {a : Str} {b : Int} {n : Bool} (h : Q (.bl n) G) : bEq n (.str a) (.int b) G Q := h
theorem w_eqIS {a : Int} {b : Str} {n : Bool} (h : Q (.bl n) G) : bEq n (.int a) (.str b) G Q := h
theorem w_eqNS {b : Str} {n : Bool} (h : Q (.bl n) G) : bEq n .non (.str b) G Q := h
theorem w_eqBS {a : Bool} {b : Str} {n : Bool} (h : Q (.bl n) G) : bEq n (.bl a) (.str b) G Q := h
theorem w_eqT0 {a : List DV} (h : Q (.bl a.isEmpty) G) : bEq false (.tup a) (.tup []) G Q := .inl ⟨rfl, rfl, h⟩
theorem w_eqTT {a b : List DV} (ca : Cmps a) (cb : Cmps b) (pa : plains a = true) (pb : plains b = true) (h : Q (.bl (decide (a = b))) G) : bEq false (.tup a) (.tup b) G Q := .inr ⟨ca, cb, by rw [eqvs_plain a b pa pb]; exact h⟩
theorem w_neTT {a b : List DV} (ca : Cmps a) (cb : Cmps b) (pa : plains a = true) (pb : plains b = true) (h : Q (.bl (!decide (a = b))) G) : bEq true (.tup a) (.tup b) G Q := .inr ⟨ca, cb, by rw [eqvs_plain a b pa pb]; exact h⟩
theorem w_eqLL {p q : Addr} {a b : List DV} (ea : G p = some (.lst a)) (eb : G q = some (.lst b)) (ca : Cmps a) (cb : Cmps b) (pa : plains a = true) (pb : plains b = true) (h : Q (.bl (decide (a = b))) G) : bEq false (.ref p) (.ref q) G Q := ⟨a, b, .inl ea, .inl eb, .inr ⟨ca, cb, by rw [eqvs_plain a b pa pb]; exact h⟩⟩
theorem w_isN {x : DV} (h : Q (.bl (decide (x = .non))) G) : bIs false x .non G Q := by cases x <;> exact h
theorem w_isnN {x : DV} (h : Q (.bl (!decide (x = .non))) G) : bIs true x .non G Q := by cases x <;> exact h
theorem w_ix0 {a : DV} {r : List DV} (h : Q a G) : bIx (.tup (a :: r)) (.int 0) G Q := ⟨a, atI_nat (j := 0) rfl, h⟩
theorem w_ix1 {a b : DV} {r : List DV} (h : Q b G) : bIx (.tup (a :: b :: r)) (.int 1) G Q := ⟨b, atI_nat (j := 1) rfl, h⟩
theorem w_ix2 {a b c : DV} {r : List DV} (h : Q c G) : bIx (.tup (a :: b :: c :: r)) (.int 2) G Q := ⟨c, atI_nat (j := 2) rfl, h⟩
theorem w_ix3 {a b c d : DV} {r : List DV} (h : Q d G) : bIx (.tup (a :: b :: c :: d :: r)) (.int 3) G Q := ⟨d, atI_nat (j := 3) rfl, h⟩
theorem w_ixL {p : Addr} {ds : List DV} {i : Int} {d : DV} (e : G p = some (.lst ds)) (l : atI ds i = some d) (h : Q d G) : bIx (.ref p) (.int i) G Q := .inl ⟨ds, d, .inl e, l, h⟩
theorem w_slT {ds : List DV} {lo hi : Option Int} (h : Q (.tup (cutD ds lo hi)) G) : bSl (.tup ds) lo hi G Q := h
/-! calls -/
theorem w_lenT {ds : List DV} (h : Q (.int ds.length) G) : bLen [.tup ds] G Q := h
theorem w_lenS {z : Str} (l : z.length ≤ sizeLine) (h : Q (.int z.length) G) : bLen [.str z] G Q := ⟨l, h⟩
theorem w_lenL {p : Addr} {ds : List DV} (e : G p = some (.lst ds)) (h : Q (.int ds.length) G) : bLen [.ref p] G Q := .inl ⟨ds, .inl e, h⟩
theorem w_isi {x : DV} {t : String} {a : String} {b : Bool} (ht : t ∈ tysK) (ha : TyAt G x a) (hb : tyB a t = b) (h : Q (.bl b) G) : bIsi [x, .ty t] G Q := ⟨ht, a, b, ha, hb, h⟩
theorem w_intB {k : Bool} (h : Q (.int (if k = true then 1 else 0)) G) : bInt1 [.bl k] G Q := h
theorem w_intI {k : Int} (h : Q (.int k) G) : bInt1 [.int k] G Q := h
theorem w_tupT {ds : List DV} (h : Q (.tup ds) G) : bTuple [.tup ds] G Q := h
theorem w_tupL {p : Addr} {ds : List DV} (e : G p = some (.lst ds)) (h : Q (.tup ds) G) : bTuple [.ref p] G Q := ⟨ds, .inl e, h⟩
theorem w_app {p : Addr} {xs : List DV} {y : DV} (e : G p = some (.lst xs)) (l : xs.length < sizeLine) (h : Q .non (dupd G p (.lst (xs ++ [y])))) : bAppend (.ref p) [y] G Q := ⟨p, xs, y, rfl, rfl, e, l, h⟩
/-! loops -/
/-- what a loop over ds wants -/
def ForG (ds : List DV) (st : DG → Prop) (tg : TDG) (tb : TDS) (nx : DSt → DG → Prop) (rt : DK) (δ : DSt) (G : DG) : Prop := ∃ Pv : Nat → DSt → DG → Prop, Pv 0 δ G ∧ (∀ i δ G, Pv i δ G → st G) ∧
  (∀ i d δ G, ds[i]? = some d → Pv i δ G → tg d δ G fun δ2 G2 => tb ⟨Pv (i + 1), rt, nx, Pv (i + 1)⟩ δ2 G2) ∧ (∀ δ G, Pv ds.length δ G → nx δ G)
theorem w_for {tg : TDG} {tb : TDS} {ti : TDI} (h : ti δ G fun ds st G1 => ForG ds st tg tb nx rt δ G1) : dFor ti tg tb ⟨nx, rt, bk, ct⟩ δ G := h
/-- what a comprehension over ds wants -/
def LcG (ds : List DV) (st : DG → Prop) (ld : TL) (tt : TDT) (te : TD) (δ : DSt) (G1 : DG) (Q : DK) : Prop := ∀ p, G1 p = none → ∃ Pv : Nat → List DV → DG → Prop, Pv 0 [] (dupd G1 p (.lst [])) ∧ (∀ i acc G, Pv i acc G → st G) ∧
  (∀ i d acc G, ds[i]? = some d → Pv i acc G → ld d δ fun δ2 => tt δ2 G fun b G3 => if b = true then te δ2 G3 fun y G4 => G4 p = some (.lst acc) ∧ acc.length < sizeLine ∧ Pv (i + 1) (acc ++ [y]) (dupd G4 p (.lst (acc ++ [y]))) else Pv (i + 1) acc G3) ∧
  (∀ acc G, Pv ds.length acc G → Q (.ref p) G)
theorem w_lc {ti : TDI} {ld : TL} {vs : List Nat} (h : ti δ G fun ds st G1 => LcG ds st ld tt te (wipeD δ vs) G1 Q) : dLc ti ld tt te vs δ G Q := h
theorem w_while {c : TDT} {tb : TDS} (Pv : Nat → DSt → DG → Prop) (m : Nat) (p : Pv m δ G) (h : ∀ m δ G, Pv m δ G →
  c δ G fun b G1 => if b = true then tb ⟨fun δ' G' => ∃ m', m' < m ∧ Pv m' δ' G', rt, nx, fun δ' G' => ∃ m', m' < m ∧ Pv m' δ' G'⟩ δ G1 else nx δ G1) : dWhile c tb ⟨nx, rt, bk, ct⟩ δ G := ⟨Pv, ⟨m, p⟩, h⟩
variable {RI : List DV → (DG → Prop) → DG → Prop}
theorem wi_tup (h : te δ G fun d G1 => ∃ ds, d = .tup ds ∧ RI ds (fun _ => True) G1) : dITup te δ G RI := h
theorem wi_lst (h : te δ G fun d G1 => ∃ p ds, d = .ref p ∧ Ls G1 p ds ∧ RI ds (fun G => Ls G p ds) G1) : dIList te δ G RI := h
theorem wi_str (h : te δ G fun d G1 => ∃ z, d = .str z ∧ RI (signs z) (fun _ => True) G1) : dIStr te δ G RI := h
theorem wi_rng (h : ts δ G fun ds G1 => ∃ j : Int, ds = [.int j] ∧ -(2 ^ 62) ≤ j ∧ j < 2 ^ 62 ∧ RI (rng 0 j.toNat) (fun _ => True) G1) : dIRng ts δ G RI := h
theorem wi_rng2 (h : ts δ G fun ds G1 => ∃ i j : Int, ds = [.int i, .int j] ∧ (-(2 ^ 62) ≤ i ∧ i < 2 ^ 62 ∧ -(2 ^ 62) ≤ j ∧ j < 2 ^ 62) ∧ RI (rng i (j - i).toNat) (fun _ => True) G1) : dIRng2 ts δ G RI := h
theorem wi_enumT (h : ts δ G fun xs G1 => ∃ ds, xs = [.tup ds] ∧ RI (nmbd ds) (fun _ => True) G1) : dIEnumT ts δ G RI := h
theorem wi_enum (h : ts δ G fun xs G1 => ∃ p ds, xs = [.ref p] ∧ Ls G1 p ds ∧ RI (nmbd ds) (fun G => Ls G p ds) G1) : dIEnum ts δ G RI := h
theorem wi_rev (h : ts δ G fun xs G1 => ∃ p ds, xs = [.ref p] ∧ Ls G1 p ds ∧ RI ds.reverse (fun G => Ls G p ds) G1) : dIRev ts δ G RI := h
theorem wi_revR (h : ts δ G fun ds G1 => ∃ j : Int, ds = [.int j] ∧ 0 ≤ j ∧ j < 2 ^ 62 ∧ RI (rng 0 j.toNat).reverse (fun _ => True) G1) : dIRevR ts δ G RI := h
theorem wx_lst {k : Addr → List DV → Prop} {p : Addr} {ds : List DV} (e : G p = some (.lst ds)) (h : k p ds) : ∃ p' ds', DV.ref p = .ref p' ∧ Ls G p' ds' ∧ k p' ds' := ⟨p, ds, rfl, .inl e, h⟩
theorem wx_lstA {k : Addr → List DV → Prop} {p : Addr} {ds : List DV} (e : G p = some (.lst ds)) (h : k p ds) : ∃ p' ds', [DV.ref p] = [.ref p'] ∧ Ls G p' ds' ∧ k p' ds' := ⟨p, ds, rfl, .inl e, h⟩
theorem wx_enumT {k : List DV → Prop} {ds : List DV} (h : k ds) : ∃ ds', [DV.tup ds] = [.tup ds'] ∧ k ds' := ⟨ds, rfl, h⟩
/-- a loop with its invariant -/
theorem for_by {ds : List DV} {st : DG → Prop} {tg : TDG} {tb : TDS} (Pv : Nat → DSt → DG → Prop) (hst : ∀ i δ G, Pv i δ G → st G) (p0 : Pv 0 δ G)
  (ps : ∀ i d δ G, ds[i]? = some d → Pv i δ G → tg d δ G fun δ2 G2 => tb ⟨Pv (i + 1), rt, nx, Pv (i + 1)⟩ δ2 G2) (pd : ∀ δ G, Pv ds.length δ G → nx δ G) : ForG ds st tg tb nx rt δ G := ⟨Pv, p0, hst, ps, pd⟩
/-- elements that leave the store as it is: each told by E (or left out, where f says so) -/
theorem lcg_pure {ds : List DV} {st : DG → Prop} {ld : TL} {G1 : DG} (f : DV → Option DV) (hsc : ∀ p o, G1 p = none → st (dupd G1 p o)) (hl : ds.length ≤ 1000000)
    (h : ∀ d ∈ ds, ∀ (G : DG) (k1 : DK) (k0 : DG → Prop), (∃ p acc, G1 p = none ∧ G = dupd G1 p (.lst acc)) → (∀ y, f d = some y → k1 y G) → (f d = none → k0 G) →
      ld d δ fun δ2 => tt δ2 G fun b G3 => if b = true then te δ2 G3 k1 else k0 G3)
    (q : ∀ p, G1 p = none → Q (.ref p) (dupd G1 p (.lst (ds.filterMap f)))) : LcG ds st ld tt te δ G1 Q := by
  have := lc_pure (ds := ds) (st := st) (ld := ld) (tt := tt) (te := te) (vs := []) (δ := δ) (G1 := G1) (Q := Q) f hsc hl h q
  exact this
theorem g_n {d : DV} {i : Nat} {k : DSt → DG → Prop} (h : k (δ.set i (some d)) G) : gN i d δ G k := h
theorem w_iteD {p : Prop} [Decidable p] {A B : Prop} (h : p → A) (g : ¬ p → B) : if decide p = true then A else B := by
  by_cases e : p
  · rw [decide_eq_true e]; exact iteT (h e)
  · rw [decide_eq_false e]; exact iteF (g e)
theorem w_iteN {p : Prop} [Decidable p] {A B : Prop} (h : ¬ p → A) (g : p → B) : if (!decide p) = true then A else B := by
  by_cases e : p
  · rw [decide_eq_true e]; exact iteF (g e)
  · rw [decide_eq_false e]; exact iteT (h e)
theorem w_it {b : Bool} {A B : Prop} (e : b = true) (h : A) : if b = true then A else B := by subst e; exact iteT h
theorem w_if0 {b : Bool} {A B : Prop} (e : b = false) (h : B) : if b = true then A else B := by subst e; exact iteF h
end
end DD
namespace DD
open PySem PySem.W L2
theorem ne_ns {G : DG} {a b : Addr} (n : G b = none) (h : ∃ o, G a = some o) : a ≠ b := by
  obtain ⟨o, h⟩ := h
  exact ne_some h n
theorem ne_sn {G : DG} {a b : Addr} (n : G b = none) (h : ∃ o, G a = some o) : b ≠ a := (ne_ns n h).symm
theorem szl {n : Nat} (h : n.ble 64 = true) : n ≤ sizeLine := by
  have := Nat.le_of_ble_eq_true h
  have : 64 ≤ sizeLine := by decide
  omega
end DD
namespace DD
open PySem PySem.W L2
theorem cutD_to {α : Type} (xs : List α) (k : Nat) : cutD xs none (some (k : Int)) = xs.take k := by
  unfold cutD
  rw [HT.sIx_none, HT.sIx_nat, List.drop_zero, Nat.sub_zero]
  rcases Nat.le_total k xs.length with h | h
  · rw [Nat.min_eq_left h]
  · rw [Nat.min_eq_right h, List.take_length, List.take_of_length_le h]
theorem cutD_from {α : Type} (xs : List α) (k : Nat) : cutD xs (some (k : Int)) none = xs.drop k := by
  unfold cutD
  rw [HT.sIx_none, HT.sIx_nat]
  rcases Nat.le_total k xs.length with h | h
  · rw [Nat.min_eq_left h, List.take_of_length_le (by rw [List.length_drop]; omega)]
  · rw [Nat.min_eq_right h, List.drop_length, List.take_nil, List.drop_of_length_le h]
end DD
namespace DD
open PySem PySem.W L2
theorem nn_ {G G' : DG} {p : Addr} (n : G' p = none) (s : Sub G G') : G p = none := s.nonew n
theorem lt2' {i j : Nat} {a b : DV} {δ : DSt} {k : DSt → Prop} (h : k ((δ.set i (some a)).set j (some b))) : l2 i j (.tup [a, b]) δ k := ⟨a, b, rfl, h⟩
theorem Less.mk {R : DK} {d : DV} {G G' : DG} (s : Sub G G') (h : R d G) : Less R d G' := ⟨G, s, h⟩
end DD
namespace DD
open PySem PySem.W L2
end DD
namespace DD
open PySem PySem.W L2
theorem decq {p q : Prop} [Decidable p] [Decidable q] (h : p ↔ q) : decide p = decide q := by
  by_cases e : p
  · rw [decide_eq_true e, decide_eq_true (h.mp e)]
  · rw [decide_eq_false e, decide_eq_false (fun z => e (h.mpr z))]
end DD
/-! dicts with texts as keys -/
namespace DD
open PySem PySem.W L2 SX Cm
def valD (kvs : List (Key × DV)) (k : Key) : Option DV := (kvs.find? fun kv => decide (kv.1 = k)).map (·.2)
def putD (kvs : List (Key × DV)) (k : Key) (v : DV) : List (Key × DV) :=
  if (kvs.any fun kv => decide (kv.1 = k)) = true then kvs.map (fun kv => if kv.1 = k then (kv.1, v) else kv) else kvs ++ [(k, v)]
theorem tks_dct {K : Frag} {H : Hp} {d : Addr} {xs ys : List (Key × V)} (h : H d = some (.dK xs)) : TKs K H (upd H d (.dK ys)) := fun a zs e => by
  rcases e with (e | ⟨o, e⟩) | e
  · exact .inl (.inl (by rw [upd_ne (fun z => by rw [z, h] at e; cases e)]; exact e))
  · exact .inl (.inr ⟨o, by rw [upd_ne (fun z => by rw [z, h] at e; cases e)]; exact e⟩)
  · exact .inr e
section
variable {K : Frag} {H : Hp}
theorem KRV.val {vs : List (Key × V)} {ds : List (Key × DV)} (r : KRV K H vs ds) (k : Key) : (valV vs k = none ∧ valD ds k = none) ∨ ∃ v d, valV vs k = some v ∧ valD ds k = some d ∧ RV K H v d := by
  induction r with
  | nil => exact .inl ⟨rfl, rfl⟩
  | @cons k' v d vs ds h t ih =>
    by_cases e : k' = k
    · refine .inr ⟨v, d, valV_pos (p := (k', v)) e, ?_, h⟩
      have e' : decide (k' = k) = true := decide_eq_true e
      unfold valD
      rw [List.find?_cons]
      simp only [e']
      rfl
    · have e1 : valV ((k', v) :: vs) k = valV vs k := valV_neg (p := (k', v)) e
      have e2 : valD ((k', d) :: ds) k = valD ds k := by
        have e' : decide (k' = k) = false := decide_eq_false e
        unfold valD
        rw [List.find?_cons]
        simp only [e']
      rw [e1, e2]; exact ih
theorem KRV.any {vs : List (Key × V)} {ds : List (Key × DV)} (r : KRV K H vs ds) (k : Key) : (vs.any fun kv => decide (kv.1 = k)) = ds.any fun kv => decide (kv.1 = k) := by
  induction r with
  | nil => rfl
  | cons h t ih => rw [List.any_cons, List.any_cons, ih]
theorem KRV.map {vs : List (Key × V)} {ds : List (Key × DV)} (r : KRV K H vs ds) (k : Key) {y : V} {u : DV} (ry : RV K H y u) : KRV K H (vs.map fun kv => if kv.1 = k then (kv.1, y) else kv) (ds.map fun kv => if kv.1 = k then (kv.1, u) else kv) := by
  induction r with
  | nil => exact .nil
  | @cons k' v d vs ds h t ih =>
    rw [List.map_cons, List.map_cons]
    by_cases e : k' = k
    · rw [if_pos e, if_pos e]; exact .cons ry ih
    · rw [if_neg e, if_neg e]; exact .cons h ih
theorem KRV.append {vs vs' : List (Key × V)} {ds ds' : List (Key × DV)} (r : KRV K H vs ds) (r' : KRV K H vs' ds') : KRV K H (vs ++ vs') (ds ++ ds') := by
  induction r with
  | nil => exact r'
  | cons h t ih => exact .cons h ih
theorem KRV.put {vs : List (Key × V)} {ds : List (Key × DV)} (r : KRV K H vs ds) (k : Key) {y : V} {u : DV} (ry : RV K H y u) : KRV K H (putK vs k y) (putD ds k u) := by
  unfold putK putD
  rw [r.any k]
  split
  · exact r.map k ry
  · exact r.append (.cons ry .nil)
theorem KRV.keys {vs : List (Key × V)} {ds : List (Key × DV)} (r : KRV K H vs ds) : vs.map (·.1) = ds.map (·.1) := by
  induction r with
  | nil => rfl
  | cons h t ih => rw [List.map_cons, List.map_cons, ih]
theorem wd_dct {G : DG} {p : Addr} {kvs : List (Key × DV)} (w : Wd K H G) (e : G p = some (.dct kvs)) : ∃ vs, H p = some (.dK vs) ∧ KRV K H vs kvs := by
  obtain ⟨O, w⟩ := w
  exact w.ob p _ e
end
def keyD (z : Str) : Key := .inr z
section
variable {X : Cx}
theorem hu_of {k : Nat} {A : Around} (h : Room k A) : A.units + 1 < cLine := by have := h.units; omega
def dDNew : TD := fun _ G Q => ∀ p, G p = none → Q (.ref p) (dupd G p (.dct []))
variable {o i e e2 value : Expr} {pos pos' apos cpos : Pos} {td ti tv : TD}
def dDGet (td ti : TD) : TD := fun δ G Q => td δ G fun x G1 => ti δ G1 fun y G2 => ∃ p kvs z v, x = .ref p ∧ y = .str z ∧ G2 p = some (.dct kvs) ∧ valD kvs (keyD z) = some v ∧ Q v G2
def dDGet2 (td ti tv : TD) : TD := fun δ G Q => td δ G fun x G1 => ∃ p, x = .ref p ∧ (∃ kvs, G1 p = some (.dct kvs)) ∧ ti δ G1 fun y G2 => tv δ G2 fun u G3 => ∃ kvs z, y = .str z ∧ G3 p = some (.dct kvs) ∧ Q ((valD kvs (keyD z)).getD u) G3
def dDIn (n : Bool) (ti td : TD) : TD := fun δ G Q => ti δ G fun y G1 => td δ G1 fun x G2 => ∃ p kvs z, x = .ref p ∧ y = .str z ∧ G2 p = some (.dct kvs) ∧ Q (.bl (ng n (valD kvs (keyD z)).isSome)) G2
def dDPut (td ti tv : TD) : TDS := fun D δ G => tv δ G fun v G1 => td δ G1 fun x G2 => ti δ G2 fun y G3 => ∃ p kvs z, x = .ref p ∧ y = .str z ∧ G3 p = some (.dct kvs) ∧ kvs.length < sizeLine ∧ D.nx δ (dupd G3 p (.dct (putD kvs (keyD z) v)))
end
end DD
/-! tuple(d) of a dict: its keys -/
namespace DD
open PySem PySem.Spec PyProof.Rows PySem.W
end DD
namespace DD
open PySem PySem.W L2 SX Cm
/-! ### comprehensions that make dicts -/
def DcG (ds : List DV) (st : DG → Prop) (ld : TL) (tt : TDT) (tk tv : TD) (δ : DSt) (G1 : DG) (Q : DK) : Prop := ∀ p, G1 p = none → ∃ Pv : Nat → List (Key × DV) → DG → Prop, Pv 0 [] (dupd G1 p (.dct [])) ∧ (∀ i kvs G, Pv i kvs G → st G) ∧
  (∀ i d kvs G, ds[i]? = some d → Pv i kvs G → ld d δ fun δ2 => tt δ2 G fun b G3 => if b = true then tk δ2 G3 fun y G4 => tv δ2 G4 fun u G5 => ∃ z, y = .str z ∧ G5 p = some (.dct kvs) ∧ kvs.length < sizeLine ∧ Pv (i + 1) (putD kvs (keyD z) u) (dupd G5 p (.dct (putD kvs (keyD z) u))) else Pv (i + 1) kvs G3) ∧
  (∀ kvs G, Pv ds.length kvs G → Q (.ref p) G)
def dDc (ti : TDI) (ld : TL) (tt : TDT) (tk tv : TD) (vs : List Nat) : TD := fun δ G Q => ti δ G fun ds st G1 => DcG ds st ld tt tk tv (wipeD δ vs) G1 Q
theorem w_dc {ti : TDI} {ld : TL} {tt : TDT} {tk tv : TD} {vs : List Nat} {δ : DSt} {G : DG} {Q : DK} (h : ti δ G fun ds st G1 => DcG ds st ld tt tk tv (wipeD δ vs) G1 Q) : dDc ti ld tt tk tv vs δ G Q := h
end DD
namespace Cm
open PySem PySem.W L2 SX
/-! ### xs[a:] = ys, another list -/
section
open PySem.Spec PyProof.Rows
variable {prog : Program} {w : World} {A : Around} {E : Value → Shared → Prop} {s : Shared}
theorem bounds_tail {a n : Nat} (h : a ≤ n) : sliceBounds (some (a : Int)) none none n = ((a : Int), (n : Int), 1) := by
  have h1 : ¬ ((a : Int) < 0) := by omega
  simp only [sliceBounds, Option.getD_none, h1, if_false, show (1 : Int) > 0 by decide, if_true]
  congr 1; omega
theorem setItem_tail {l b sl : Addr} {items new : Array Value} {n n2 a : Nat} {vl vu : Value} {Q : Unit → Shared → Prop} (e : s.heap.get? l = some { cls := .type "list", data := .seq items n }) (e2 : s.heap.get? b = some { cls := .type "list", data := .seq new n2 })
    (hne : l ≠ b) (hs : s.heap.IsSliceOf sl vl vu .none) (pl : IsPart vl (some (a : Int))) (pu : IsPart vu none) (ha : a ≤ items.size) (hsz : items.size + new.size ≤ sizeLine)
    (h : Q () { s with heap := s.heap.update l (Obj.mapSeq fun xs => xs.extract 0 a ++ new ++ xs.extract items.size xs.size) }) : wpAny (model prog w) A (setItem (.ref l) (.ref sl) (.ref b)) Q E s := by
  have tl : s.TypeIs (.ref l) "list" := (PySem.IsL.isList e).typeIs
  have tb : s.TypeIs (.ref b) "list" := (PySem.IsL.isList e2).typeIs
  obtain ⟨os, hos, hcs, hds⟩ := id hs
  have ts : s.TypeIs (.ref sl) "slice" := ⟨os, hos, hcs⟩
  have st0 : ¬ ((rawPart none == rawInt 0) = true) := Bool.false_ne_true
  have sr : Builtin.List.listSameRef (.ref l) (.ref b) = false := by
    unfold Builtin.List.listSameRef; exact beq_eq_false_iff_ne.mpr hne
  have mx : (max (a : Int) (items.size : Int)).toNat = items.size := by omega
  have long' : ((fun xs : Array Value => xs.extract 0 a ++ new ++ xs.extract items.size xs.size) items).size ≤ sizeLine + 1 := by
    simp only [Array.size_append, Array.size_extract]; omega
  unfold setItem
  (try with_reducible refine wpAny_holding ?_); (first | refine wpAny_bind (wpAny_pure ?_) | skip)
  refine wpAny_bind (wpAny_sequenceKey tl (by decide) (wpAny_bind (wpAny_callSpecial?_slot (name := Str.ofString "__setitem__") tl slot_list_setitem (wpAny_call_entry slot_list_setitem tl entry_list_setitem ?_ (args_list_setitem _ _ _)))))
  show wpAny _ _ (Builtin.List.listSubscript? (.ref sl) >>= _) _ _ s
  refine wpAny_bind ?_; unfold Builtin.List.listSubscript?
  refine wpAny_bind (wpAny_specialOf ts slice_no_index ?_)
  simp only [Option.isNone_none, if_true]
  refine wpAny_pure ?_
  show wpAny _ _ (typeOf (.ref sl) >>= _) _ _ s
  refine wpAny_bind (wpAny_typeOf ts ?_)
  first | rw [if_neg (by decide)] | refine PySem.W.KFB.if_not (by decide) ?_
  rw [listSliceParts_eq]
  refine wpAny_bind (wpAny_bind (wpAny_field hos hds (x := .none) rfl (wpAny_bind (wpAny_listPart .none ?_)))); rw [if_neg st0]
  refine wpAny_bind (wpAny_field hos hds (x := vl) rfl (wpAny_bind (wpAny_listPart pl (wpAny_bind (wpAny_field hos hds (x := vu) rfl (wpAny_bind (wpAny_listPart pu (wpAny_pure ?_))))))))
  first | simp only [sr, Bool.false_eq_true, if_false] | refine PySem.W.KFB.if_not sr ?_ | (dsimp only; rw [if_neg (by rw [sr]; exact Bool.false_ne_true)])
  refine wpAny_bind (m := Builtin.List.listAllItems (.ref b) "must assign iterable to extended slice") ?_; unfold Builtin.List.listAllItems
  refine wpAny_bind (wpAny_typeOf tb ?_)
  first | refine PySem.W.KFB.if_so (by decide) ?_ | rw [if_pos (by decide)] | simp only [beq_self_eq_true, Bool.true_or, if_true]
  unfold Builtin.List.listItems
  refine wpAny_bind (wpAny_seqItems e2 rfl (wpAny_pure (wpAny_bind (wpAny_bind (wpAny_seqItems e rfl (wpAny_pure ?_))))))
  refine wpAny_bind (wpAny_of_eq ((sliceIndices_raw (some (a : Int)) none none items.size (by simp)).trans (congrArg (pure : Int × Int × Int → Sem (Int × Int × Int)) (bounds_tail ha))) ?_)
  show wpAny _ _ (if ((1 : Int) == 1) = true then _ else _) _ _ s
  rw [if_pos (by decide)]; refine wpAny_bind (wpAny_rule ?_)
  first | simp only [notLongL hsz, Bool.false_eq_true, if_false] | refine PySem.W.KFB.if_not (notLongL hsz) ?_
  (first | refine wpAny_bind (wpAny_pure ?_) | skip)
  show wpAny _ _ (updateSeq l (fun xs => xs.extract 0 ((a : Int)).toNat ++ new ++ xs.extract (max (a : Int) (items.size : Int)).toNat xs.size) >>= _) _ _ s
  rw [mx, Int.toNat_natCast]
  refine wpAny_bind (wpAny_updateSeq (hz := Nat.le_trans (Nat.le_add_right _ _) hsz) (_hz' := long') e rfl (wpAny_bind (wpAny_letGo ?_)))
  first | exact wpAny_bind (wpAny_pure (wpAny_pure ⟨.none, rfl, wpAny_pure h⟩)) | exact wpAny_pure ⟨.none, rfl, wpAny_pure h⟩
variable {X : Cx}
/-- o[lo:] = v -/
def gTail (to tl : TE) : TG := fun v σ H Q => to σ H fun x H1 => tl σ H1 fun y H2 => ∃ (l b : Addr) (a : Int) (xs ys : List V), x = .ref l ∧ v = .ref b ∧ y = .int a ∧ H2 l = some (.lst xs) ∧ H2 b = some (.lst ys) ∧ l ≠ b ∧ 0 ≤ a ∧ a ≤ xs.length ∧ xs.length + ys.length ≤ sizeLine ∧ Q σ (upd H2 l (.lst (xs.take a.toNat ++ ys)))
theorem pg_tail {o lo : Expr} {to tl : TE} {p2 pos : Pos} (ho : PE X o to) (hi : PE X lo tl) : PG X (.Subscript o (.Slice (some lo) none none p2) pos) (gTail to tl) := by
  refine ⟨fun pins s σ H v u Q I r h => ?_⟩
  rw [arm_assign_Subscript]
  refine wpAny_bind (wpAny_holding (thn (ho.run pins s σ H _ I h) fun ov s1 ⟨x, H1, I1, r1, q1⟩ => wpAny_bind (wpAny_holding ?_)))
  refine wpAny_Slice ?_
  rw [evalPart_some]
  refine thn (hi.run pins s1 σ H1 _ I1 q1) fun vl s2 ⟨y, H2, I2, r2, q2⟩ => ?_
  rw [evalPart_none]
  refine wpAny_pure (wpAny_pure ?_)
  obtain ⟨l, b, a, xs, ys, rfl, rfl, rfl, hl, hb, ne, a0, a1, hz, q⟩ := q2
  cases r1
  obtain rfl : u = Value.ref b := r
  obtain ⟨t, rfl⟩ := r2
  have I3 : Inv X pins σ H2 { s2 with heap := s2.heap.push { cls := .type "slice", data := .fields #[.int a t, .none, .none] } } := I2.kept (t' := s2.toks) fun b ob q => Heap.get?_push_of_some _ q
  refine wpAny_bind (wpAny_standAt (wpAny_bind (wpAny_holding ?_)))
  obtain ⟨z, its, n, rv, hln, e⟩ := I3.lstM hl
  obtain ⟨z2, its2, n2, rv2, hln2, e2⟩ := I3.lstM hb
  obtain ⟨a', rfl⟩ := Int.eq_ofNat_of_zero_le a0
  refine setItem_tail (a := a') e e2 ne (Heap.IsSliceOf.new ..) (.int _ _) .none (by rw [List.size_toArray]; omega) (by rw [List.size_toArray, List.size_toArray]; omega) (wpAny_release ⟨σ, _, ?_, q⟩)
  refine I3.lset (its' := its.take a' ++ its2) (t' := s2.toks) hl e ?_ (Vals.append (rv.take _) rv2) ?_
  · have := splice_eq its its2 a' its.length
    rw [List.drop_of_length_le (Nat.le_refl _), List.append_nil] at this
    rw [← this, List.size_toArray]
  · rw [List.length_append, List.length_take]; omega
end
end Cm
/-! del xs[a:] -/
namespace Cm
open PySem PySem.W L2 SX
end Cm
namespace DD
open PySem PySem.W L2 SX Cm
section
variable {X : Cx}
def dDelT (to tl : TD) : TDS := fun D δ G => to δ G fun x G1 => tl δ G1 fun y G2 => ∃ (l : Addr) (a : Int) (xs : List DV), x = .ref l ∧ y = .int a ∧ G2 l = some (.lst xs) ∧ 0 ≤ a ∧ a ≤ xs.length ∧ D.nx δ (dupd G2 l (.lst (xs.take a.toNat)))
end
theorem w_delT {nx : DSt → DG → Prop} {rt : DK} {bk ct : DSt → DG → Prop} {δ : DSt} {G : DG} {to tl : TD} (h : to δ G fun x G1 => tl δ G1 fun y G2 => ∃ (l : Addr) (a : Int) (xs : List DV), x = .ref l ∧ y = .int a ∧ G2 l = some (.lst xs) ∧ 0 ≤ a ∧ a ≤ xs.length ∧ nx δ (dupd G2 l (.lst (xs.take a.toNat)))) : dDelT to tl ⟨nx, rt, bk, ct⟩ δ G := h
end DD
/-! methods of texts over data -/
namespace DD
open PySem PySem.W L2 SX Cm
section
variable {X : Cx}
/-- a.split(b) -/
def bSplit : DM := fun x ds G Q => ∃ (a b : Str), x = .str a ∧ ds = [.str b] ∧ (b.length == 0) = false ∧ a.length + 2 ≤ sizeLine ∧ ∀ p, G p = none → Q (.ref p) (dupd G p (.lst ((Txt.split a b).map .str)))
theorem md_split : MtD X "str.split" bSplit := by
  refine ⟨_, mt_split, fun x ds vx vs H G R Q rx rs w h f => ?_⟩
  obtain ⟨a, b, rfl, rfl, hb, hl, q⟩ := h
  cases rx
  cases rs with
  | cons r rt =>
    cases rt
    cases r
    refine ⟨a, b, rfl, rfl, hb, hl, fun p np => ?_⟩
    have s' := same_new np (.lst ((Txt.split a b).map V.str))
    exact f _ _ _ _ (q p (w.free np)) (TKs.of s') (w.new np fun O => ⟨_, upd_same, RVs.strs' _⟩) (.ref p)
theorem w_split {a b : Str} {G : DG} {Q : DK} (hb : (b.length == 0) = false) (hl : a.length + 2 ≤ sizeLine) (h : ∀ p, G p = none → Q (.ref p) (dupd G p (.lst ((Txt.split a b).map .str)))) : bSplit (.str a) [.str b] G Q := ⟨a, b, rfl, rfl, hb, hl, h⟩
end
end DD
/-! kinds as they are, and as data -/
namespace DD
open PySem PySem.W L2 SX Cm
mutual
inductive Kd where
  | num
  | opn (z : Str)
  | lst (k : Kd)
  | row (a b : Sk)
inductive Sk where
  | mk (r : Str) (ks : List Kd)
end
def Sk.rest : Sk → Str
  | .mk r _ => r
def Sk.ks : Sk → List Kd
  | .mk _ ks => ks
mutual
def eK : Kd → DV
  | .num => .tup [.str "number"]
  | .opn z => .tup [.str "open", .str z]
  | .lst k => .tup [.str "list", eK k]
  | .row a b => .tup [.str "row", eS a, eS b]
def eS : Sk → DV
  | .mk r ks => .tup [.str r, .tup (eKs ks)]
def eKs : List Kd → List DV
  | [] => []
  | k :: r => eK k :: eKs r
end
mutual
/-- how many parts -/
def szK : Kd → Nat
  | .num => 1
  | .opn _ => 1
  | .lst k => 1 + szK k
  | .row a b => 1 + szS a + szS b
def szS : Sk → Nat
  | .mk _ ks => 1 + szKs ks
def szKs : List Kd → Nat
  | [] => 0
  | k :: r => szK k + szKs r
end
mutual
def dpK : Kd → Nat
  | .num => 0
  | .opn _ => 0
  | .lst k => 1 + dpK k
  | .row a b => 1 + max (dpS a) (dpS b)
def dpS : Sk → Nat
  | .mk _ ks => dpKs ks
def dpKs : List Kd → Nat
  | [] => 0
  | k :: r => max (dpK k) (dpKs r)
end
mutual
/-- its open things and its rests -/
def NK (P R : Str → Prop) : Kd → Prop
  | .num => True
  | .opn z => P z
  | .lst k => NK P R k
  | .row a b => NS P R a ∧ NS P R b
def NS (P R : Str → Prop) : Sk → Prop
  | .mk r ks => R r ∧ NKs P R ks
def NKs (P R : Str → Prop) : List Kd → Prop
  | [] => True
  | k :: r => NK P R k ∧ NKs P R r
end
theorem szK_pos : ∀ k, 1 ≤ szK k
  | .num => Nat.le_refl 1
  | .opn _ => Nat.le_refl 1
  | .lst k => by show 1 ≤ 1 + _; omega
  | .row a b => by show 1 ≤ 1 + _ + _; omega
theorem szS_pos : ∀ k, 1 ≤ szS k
  | .mk _ _ => by show 1 ≤ 1 + _; omega
mutual
theorem NK.imp {P R P' R' : Str → Prop} (hp : ∀ z, P z → P' z) (hr : ∀ z, R z → R' z) : ∀ k, NK P R k → NK P' R' k
  | .num, _ => trivial
  | .opn z, h => hp z h
  | .lst k, h => NK.imp hp hr k h
  | .row a b, h => ⟨NS.imp hp hr a h.1, NS.imp hp hr b h.2⟩
theorem NS.imp {P R P' R' : Str → Prop} (hp : ∀ z, P z → P' z) (hr : ∀ z, R z → R' z) : ∀ k, NS P R k → NS P' R' k
  | .mk r ks, h => ⟨hr r h.1, NKs.imp hp hr ks h.2⟩
theorem NKs.imp {P R P' R' : Str → Prop} (hp : ∀ z, P z → P' z) (hr : ∀ z, R z → R' z) : ∀ k, NKs P R k → NKs P' R' k
  | [], _ => trivial
  | k :: r, h => ⟨NK.imp hp hr k h.1, NKs.imp hp hr r h.2⟩
end
/-! ### filling -/
mutual
def fK (f : Str → Kd) (g : Str → Sk) : Kd → Kd
  | .num => .num
  | .opn z => f z
  | .lst k => .lst (fK f g k)
  | .row a b => .row (fS f g a) (fS f g b)
def fS (f : Str → Kd) (g : Str → Sk) : Sk → Sk
  | .mk r ks => .mk (g r).rest ((g r).ks ++ fKs f g ks)
def fKs (f : Str → Kd) (g : Str → Sk) : List Kd → List Kd
  | [] => []
  | k :: r => fK f g k :: fKs f g r
end
/-! one filling and then another one -/
/-! ### marks -/
/-! ### comparing kinds -/
end DD
/-! decks of the form [cells, number, number], as a thing of the store -/
namespace DD
open PySem PySem.W L2 SX Cm
/-- a deck stands at d, its cells at c -/
structure Deck (H : Hp) (d c : Addr) : Prop where
  ne : d ≠ c
  at_ : ∃ (s k : Int), H d = some (.lst [.ref c, .int s, .int k])
  cells : ∃ ms : List Int, H c = some (.lst (ms.map V.int)) ∧ ms.length ≤ 1000
theorem Deck.new {H : Hp} {d c p : Addr} {o : HO} (D : Deck H d c) (h : H p = none) : Deck (upd H p o) d c := by
  obtain ⟨s, k, e⟩ := D.at_
  obtain ⟨ms, e2, l⟩ := D.cells
  exact ⟨D.ne, ⟨s, k, kn e h⟩, ms, kn e2 h, l⟩
theorem Deck.same {H H' : Hp} {d c : Addr} (D : Deck H d c) (s : Same H H') : Deck H' d c := by
  obtain ⟨a, k, e⟩ := D.at_
  obtain ⟨ms, e2, l⟩ := D.cells
  exact ⟨D.ne, ⟨a, k, s _ _ e⟩, ms, s _ _ e2, l⟩
theorem Deck.nd {H : Hp} {d c p : Addr} (D : Deck H d c) (h : H p = none) : p ∉ [d, c] := by
  obtain ⟨a, k, e⟩ := D.at_
  obtain ⟨ms, e2, l⟩ := D.cells
  intro z
  rcases List.mem_cons.mp z with z | z
  · rw [z, e] at h; cases h
  · rw [List.mem_singleton.mp z, e2] at h; cases h
theorem Deck.put {H : Hp} {d c p : Addr} {o : HO} (D : Deck H d c) (h : p ∉ [d, c]) : Deck (upd H p o) d c := by
  obtain ⟨s, k, e⟩ := D.at_
  obtain ⟨ms, e2, l⟩ := D.cells
  have h1 : d ≠ p := fun z => h (by rw [← z]; exact List.mem_cons_self ..)
  have h2 : c ≠ p := fun z => h (by rw [← z]; exact List.mem_cons_of_mem _ (List.mem_singleton.mpr rfl))
  exact ⟨D.ne, ⟨s, k, by rw [upd_ne h1]; exact e⟩, ms, by rw [upd_ne h2]; exact e2, l⟩
def dkO (d c : Addr) : DO := .abs [d, c] (fun H => Deck H d c)
/-- there is a deck -/
def HasDk (G : DG) (d : Addr) : Prop := ∃ c, G d = some (dkO d c)
abbrev A_L_draw : List Str := ["_law_deck_here", "_law_most"]
theorem HasDk.new {G : DG} {d p : Addr} {o : DO} (h : HasDk G d) (n : G p = none) : HasDk (dupd G p o) d := by
  obtain ⟨c, h⟩ := h
  exact ⟨c, by rw [dupd_ne (ne_some h n)]; exact h⟩
theorem HasDk.put {G : DG} {d p : Addr} {o : DO} (h : HasDk G d) (n : d ≠ p) : HasDk (dupd G p o) d := by
  obtain ⟨c, h⟩ := h
  exact ⟨c, by rw [dupd_ne n]; exact h⟩
theorem HasDk.sub {G G' : DG} {d : Addr} (h : HasDk G d) (s : Sub G G') : HasDk G' d := by
  obtain ⟨c, h⟩ := h
  exact ⟨c, s _ _ h⟩
theorem HasDk.ne {G : DG} {d p : Addr} {ds : List DV} (h : HasDk G d) (e : G p = some (.lst ds)) : d ≠ p := fun z => by
  obtain ⟨c, h⟩ := h
  rw [z, e] at h; cases h
theorem HasDk.neD {G : DG} {d p : Addr} {ds : List (Key × DV)} (h : HasDk G d) (e : G p = some (.dct ds)) : d ≠ p := fun z => by
  obtain ⟨c, h⟩ := h
  rw [z, e] at h; cases h
def spLaw (K : PySem.W.Frag) : Sp := fun vs H Q _ => ∃ (a : Addr) (ns : List Int), vs = [.ref a] ∧ SqL K H a (ns.map V.int) ∧ ns.length ≤ 63 ∧ ∀ H', Q (.bl true) H'
theorem pick {α : Type} {xs : List α} {r : Int} {n : Nat} (h0 : 0 ≤ r) (h1 : r < n) (hl : xs.length = n) : ∃ x, x ∈ xs ∧ atI xs r = some x := by
  obtain ⟨i, rfl⟩ := Int.eq_ofNat_of_zero_le h0
  have hi : i < xs.length := by omega
  exact ⟨xs[i], List.getElem_mem hi, atI_nat (List.getElem?_eq_getElem hi)⟩
/-! lists -/
def dRevL (te : TD) : TD := fun δ G Q => te δ G fun x G1 => ∃ p ds, x = .ref p ∧ Ls G1 p ds ∧ ∀ r, G1 r = none → Q (.ref r) (dupd G1 r (.lst ds.reverse))
theorem w_revL {te : TD} {δ : DSt} {G : DG} {Q : DK} (h : te δ G fun x G1 => ∃ p ds, x = .ref p ∧ Ls G1 p ds ∧ ∀ r, G1 r = none → Q (.ref r) (dupd G1 r (.lst ds.reverse))) : dRevL te δ G Q := h
end DD
/-! more steps: dicts, targets, signs -/
namespace DD
open PySem PySem.W L2 SX Cm
section
variable {nx : DSt → DG → Prop} {rt : DK} {bk ct : DSt → DG → Prop} {δ : DSt} {G : DG} {Q : DK} {te td ti tv : TD}
theorem w_dnew (h : ∀ p, G p = none → Q (.ref p) (dupd G p (.dct []))) : dDNew δ G Q := h
theorem w_dget (h : td δ G fun x G1 => ti δ G1 fun y G2 => ∃ p kvs z v, x = .ref p ∧ y = .str z ∧ G2 p = some (.dct kvs) ∧ valD kvs (keyD z) = some v ∧ Q v G2) : dDGet td ti δ G Q := h
theorem w_dget2 (h : td δ G fun x G1 => ∃ p, x = .ref p ∧ (∃ kvs, G1 p = some (.dct kvs)) ∧ ti δ G1 fun y G2 => tv δ G2 fun u G3 => ∃ kvs z, y = .str z ∧ G3 p = some (.dct kvs) ∧ Q ((valD kvs (keyD z)).getD u) G3) : dDGet2 td ti tv δ G Q := h
theorem wx_get {k : Addr → Prop} {p : Addr} {kvs : List (Key × DV)} (e : G p = some (.dct kvs)) (h : k p) : ∃ p', DV.ref p = .ref p' ∧ (∃ kvs, G p' = some (.dct kvs)) ∧ k p' := ⟨p, rfl, ⟨kvs, e⟩, h⟩
theorem wx_get2 {k : List (Key × DV) → Str → Prop} {p : Addr} {kvs : List (Key × DV)} {z : Str} (e : G p = some (.dct kvs)) (h : k kvs z) : ∃ kvs' z', DV.str z = .str z' ∧ G p = some (.dct kvs') ∧ k kvs' z' := ⟨kvs, z, rfl, e, h⟩
theorem w_din {n : Bool} (h : ti δ G fun y G1 => td δ G1 fun x G2 => ∃ p kvs z, x = .ref p ∧ y = .str z ∧ G2 p = some (.dct kvs) ∧ Q (.bl (ng n (valD kvs (keyD z)).isSome)) G2) : dDIn n ti td δ G Q := h
theorem wx_in {k : List (Key × DV) → Str → Prop} {p : Addr} {kvs : List (Key × DV)} {z : Str} (e : G p = some (.dct kvs)) (h : k kvs z) : ∃ p' kvs' z', DV.ref p = .ref p' ∧ DV.str z = .str z' ∧ G p' = some (.dct kvs') ∧ k kvs' z' := ⟨p, kvs, z, rfl, rfl, e, h⟩
theorem w_dput (h : tv δ G fun v G1 => td δ G1 fun x G2 => ti δ G2 fun y G3 => ∃ p kvs z, x = .ref p ∧ y = .str z ∧ G3 p = some (.dct kvs) ∧ kvs.length < sizeLine ∧ nx δ (dupd G3 p (.dct (putD kvs (keyD z) v)))) : dDPut td ti tv ⟨nx, rt, bk, ct⟩ δ G := h
/-! targets -/
variable {k : DSt → DG → Prop}
theorem w_asgT {n : Nat} {t : TDGs} (h : te δ G fun d G1 => gT n t d δ G1 nx) : dAsg te (gT n t) ⟨nx, rt, bk, ct⟩ δ G := h
theorem g_T {n : Nat} {t : TDGs} {ds : List DV} (h : t ds δ G k) (e : ds.length = n := by rfl) : gT n t (.tup ds) δ G k := ⟨ds, rfl, e, h⟩
theorem g_C {i : Nat} {u : TDGs} {d : DV} {r : List DV} (h : u r (δ.set i (some d)) G k) : gNC (gN i) u (d :: r) δ G k := ⟨d, r, rfl, h⟩
theorem g_0 (h : k δ G) : gN0 [] δ G k := ⟨rfl, h⟩
/-! signs, texts, lists -/
theorem w_inS {n : Bool} {c : Nat} {b : Str} (h : Q (.bl (ng n (decide (c ∈ b.cps.toList)))) G) : bIn n (.str ⟨#[c]⟩) (.str b) G Q := ⟨c, rfl, h⟩
theorem w_inT {n : Bool} {z : Str} {ds : List DV} (hd : ds.all flatD = true) (h : Q (.bl (ng n (inD (.str z) ds))) G) : bIn n (.str z) (.tup ds) G Q := ⟨rfl, hd, h⟩
theorem flat_strs : ∀ zs : List Str, (zs.map DV.str).all flatD = true
  | [] => rfl
  | z :: r => by rw [List.map_cons, List.all_cons, flat_strs r]; rfl
theorem inD_strs (z : Str) : ∀ zs : List Str, inD (.str z) (zs.map .str) = decide (z ∈ zs)
  | [] => (decide_eq_false (fun h => nomatch h)).symm
  | y :: r => by
    have ih := inD_strs z r
    unfold inD at ih ⊢
    rw [List.map_cons, List.map_cons]
    unfold inV at ih ⊢
    rw [List.any_cons, ih]
    have e : eqV (toV (.str y)) (toV (.str z)) = decide (y = z) := by
      show (y == z) = _
      by_cases h : y = z
      · rw [h, decide_eq_true rfl, beq_self_eq_true]
      · rw [decide_eq_false h, beq_eq_false_iff_ne.mpr h]
    rw [e]
    by_cases h : y = z
    · rw [decide_eq_true h, Bool.true_or, decide_eq_true (by rw [h]; exact List.mem_cons_self ..)]
    · rw [decide_eq_false h, Bool.false_or]
      exact decq ⟨fun g => List.mem_cons_of_mem _ g, fun g => by
        rcases List.mem_cons.mp g with g | g
        · exact absurd g.symm h
        · exact g⟩
theorem w_slL {p : Addr} {ds : List DV} {lo hi : Option Int} (e : G p = some (.lst ds)) (h : ∀ r, G r = none → Q (.ref r) (dupd G r (.lst (cutD ds lo hi)))) : bSl (.ref p) lo hi G Q := ⟨ds, .inl e, h⟩
theorem w_addL {p q : Addr} {xs ys : List DV} (ep : G p = some (.lst xs)) (eq : G q = some (.lst ys)) (l : xs.length + ys.length ≤ sizeLine) (h : ∀ r, G r = none → Q (.ref r) (dupd G r (.lst (xs ++ ys)))) : bAdd (.ref p) (.ref q) G Q := ⟨xs, ys, ep, eq, l, h⟩
theorem w_allL {p : Addr} {bs : List Bool} (e : G p = some (.lst (bs.map DV.bl))) (h : Q (.bl (bs.all id)) G) : bAll [.ref p] G Q := ⟨bs, .inl e, h⟩
end
theorem Sub.put {G G' : DG} {p : Addr} {o : DO} (s : Sub G G') (n : G p = none) : Sub G (dupd G' p o) := s.new n
end DD
/-! steps that leave the store behind them unnamed -/
namespace DD
open PySem PySem.W L2 SX Cm
/-- all but p as ahead -/
def Upd (G : DG) (p : Addr) (G' : DG) : Prop := ∀ a, a ≠ p → G' a = G a
theorem Upd.mk {G : DG} {p : Addr} {o : DO} : Upd G p (dupd G p o) := fun a h => dupd_ne h
theorem Upd.tr {A B C : DG} {p : Addr} (h : Upd A p B) (g : Upd B p C) : Upd A p C := fun a n => (g a n).trans (h a n)
theorem Upd.refl (A : DG) (p : Addr) : Upd A p A := fun _ _ => rfl
theorem sub_get {G G' : DG} {a : Addr} {o : DO} (s : Sub G G') (h : G a = some o) : G' a = some o := s _ _ h
theorem upd_get {G G' : DG} {a p : Addr} {o : DO} (u : Upd G p G') (h : G a = some o) (n : a ≠ p) : G' a = some o := (u _ n).trans h
theorem sub_tr {B G G' : DG} (s2 : Sub G G') (s1 : Sub B G) : Sub B G' := s1.trans s2
theorem sub_up {B G G' : DG} {p : Addr} (u : Upd G p G') (s : Sub B G) (n : B p = none) : Sub B G' := fun a o e => by
  have : a ≠ p := fun z => by rw [z, n] at e; cases e
  rw [u a this]; exact s a o e
theorem upd_in {B G G' : DG} {p : Addr} (u : Upd G p G') (s : Upd B p G) : Upd B p G' := s.tr u
theorem dk_sub {G G' : DG} {d : Addr} (s : Sub G G') (h : HasDk G d) : HasDk G' d := h.sub s
theorem dk_upd {G G' : DG} {d p : Addr} (u : Upd G p G') (h : HasDk G d) (e : ∃ ds, G p = some (.lst ds)) : HasDk G' d := by
  obtain ⟨ds, e⟩ := e
  have n := h.ne e
  obtain ⟨c, h⟩ := h
  exact ⟨c, (u d n).trans h⟩
theorem dk_updD {G G' : DG} {d p : Addr} (u : Upd G p G') (h : HasDk G d) (e : ∃ ds, G p = some (.dct ds)) : HasDk G' d := by
  obtain ⟨ds, e⟩ := e
  have n := h.neD e
  obtain ⟨c, h⟩ := h
  exact ⟨c, (u d n).trans h⟩
@[elab_as_elim] theorem abs_new {G : DG} {p : Addr} {o : DO} {M : DG → Prop} (np : G p = none) (h : ∀ G', Sub G G' → G' p = some o → M G') : M (dupd G p o) := h _ ((Sub.refl G).new np) dupd_same
@[elab_as_elim] theorem abs_upd {G : DG} {p : Addr} {o o' : DO} {M : DG → Prop} (e : G p = some o') (h : ∀ G', Upd G p G' → G' p = some o → M G') : M (dupd G p o) := h _ Upd.mk dupd_same
/-! comprehensions whose elements leave the store as it is -/
theorem lcs_pure {ds : List DV} {st : DG → Prop} {ld : TL} {tt : TDT} {te : TD} {δ : DSt} {G1 : DG} {Q : DK} (f : DV → Option DV) (hsc : ∀ G, Sub G1 G → st G) (hl : ds.length ≤ 1000000)
    (h : ∀ d ∈ ds, ∀ (G : DG) (k1 : DK) (k0 : DG → Prop), Sub G1 G → (∀ y, f d = some y → k1 y G) → (f d = none → k0 G) →
      ld d δ fun δ2 => tt δ2 G fun b G3 => if b = true then te δ2 G3 k1 else k0 G3)
    (q : ∀ p G', G1 p = none → Sub G1 G' → G' p = some (.lst (ds.filterMap f)) → Q (.ref p) G') : LcG ds st ld tt te δ G1 Q :=
  lcg_pure f (fun p o np => hsc _ ((Sub.refl G1).new np)) hl (fun d hd G k1 k0 ⟨p, acc, np, e⟩ h1 h0 => h d hd G k1 k0 (by rw [e]; exact (Sub.refl G1).new np) h1 h0) fun p np => q p _ np ((Sub.refl G1).new np) dupd_same
end DD
/-! decks that are one list, a count and a sum ahead of the cells, as a thing of the store (k44 to k47, k53 to k57, k84) -/
namespace DD
open PySem PySem.W L2 SX Cm
/-- a deck stands at d -/
def DeckE (H : Hp) (d : Addr) : Prop := ∃ (k s : Int) (ms : List Int), H d = some (.lst (V.int k :: V.int s :: ms.map V.int)) ∧ ms.length ≤ 1000
theorem DeckE.new {d p : Addr} {H : Hp} {o : HO} (a : DeckE H d) (h : H p = none) : DeckE (upd H p o) d := by
  obtain ⟨k, s, ms, e, l⟩ := a
  exact ⟨k, s, ms, kn e h, l⟩
theorem DeckE.same {H H' : Hp} {d : Addr} (D : DeckE H d) (sm : Same H H') : DeckE H' d := by
  obtain ⟨k, s, ms, e, l⟩ := D
  exact ⟨k, s, ms, sm _ _ e, l⟩
theorem DeckE.put {d p : Addr} {H : Hp} {o : HO} (a : DeckE H d) (h : p ∉ [d]) : DeckE (upd H p o) d := by
  obtain ⟨k, s, ms, e, l⟩ := a
  exact ⟨k, s, ms, by rw [upd_ne (fun z => h (List.mem_singleton.mpr z.symm))]; exact e, l⟩
theorem dmE {d : Addr} : d ∈ [d] := List.mem_singleton.mpr rfl
section
def spMixedE : Sp := fun vs H Q _ => ∃ n k : Int, vs = [.int n, .int k] ∧ ∀ m : Int, Q (.int m) H
def spDeckE (K : PySem.W.Frag) : Sp := fun vs H Q _ => ∃ (a : Addr) (ns : List Int), vs = [.ref a] ∧ SqL K H a (ns.map V.int) ∧ ns.length ≤ 63 ∧
  ∀ (p : Addr) (H' : Hp), Same H H' → H p = none → DeckE H' p → Q (.ref p) H'
def spTakeE : Sp := fun vs H Q _ => ∃ (d : Addr) (m : Int), vs = [.ref d, .int m] ∧ DeckE H d ∧ 0 < m ∧ m < 2 ^ 64 ∧
  ∀ (r : Int) (H' : Hp), 0 ≤ r → r < m → Kp [d] H H' → DeckE H' d → Q (.int r) H'
end
def deO (d : Addr) : DO := .abs [d] (fun H => DeckE H d)
theorem deckE_loc {d : Addr} (H1 H2 : Hp) (h : ∀ b ∈ [d], H1 b = H2 b) (D : DeckE H1 d) : DeckE H2 d := by
  obtain ⟨k, s, ms, e, l⟩ := D
  exact ⟨k, s, ms, by rw [← h d dmE]; exact e, l⟩
theorem deckE_lst {H : Hp} {d : Addr} (D : DeckE H d) : ∀ b ∈ [d], ∃ xs, H b = some (.lst xs) := fun b hb => by
  obtain ⟨k, s, ms, e, l⟩ := D
  rw [List.mem_singleton.mp hb]; exact ⟨_, e⟩
/-- there is a deck -/
def HasDe (G : DG) (d : Addr) : Prop := G d = some (deO d)
abbrev A_E_draw : List Str := ["_law_deck_here", "_law_most"]
def SP_drawE : DSp := fun ds G R => ∃ d m, ds = [.ref d, .int m] ∧ HasDe G d ∧ 0 < m ∧ m < 2 ^ 64 ∧ ∀ r, 0 ≤ r → r < m → R (.int r) G
theorem HasDe.new {G : DG} {d p : Addr} {o : DO} (h : HasDe G d) (n : G p = none) : HasDe (dupd G p o) d := by
  show dupd G p o d = _
  rw [dupd_ne (ne_some h n)]; exact h
theorem HasDe.put {G : DG} {d p : Addr} {o : DO} (h : HasDe G d) (n : d ≠ p) : HasDe (dupd G p o) d := by
  show dupd G p o d = _
  rw [dupd_ne n]; exact h
theorem HasDe.sub {G G' : DG} {d : Addr} (h : HasDe G d) (s : Sub G G') : HasDe G' d := s _ _ h
theorem HasDe.ne {G : DG} {d p : Addr} {ds : List DV} (h : HasDe G d) (e : G p = some (.lst ds)) : d ≠ p := fun z => by
  have h : G d = some (deO d) := h
  rw [z, e] at h; cases h
theorem HasDe.neD {G : DG} {d p : Addr} {ds : List (Key × DV)} (h : HasDe G d) (e : G p = some (.dct ds)) : d ≠ p := fun z => by
  have h : G d = some (deO d) := h
  rw [z, e] at h; cases h
section
variable {P : Program} {w : World} {K : Frag} {mg : Str → Option Value} {base : Heap}
theorem has_drawE {st : Stmt} (a : At K mg "_law_draw" st A_E_draw) (h : ∀ f fd, Fun K "_law_draw" "_law_draw" st f fd → FnOk P w K mg base CX0 2 f fd A_E_draw spTakeE) : Has P w K mg base 2 "_law_draw" A_E_draw SP_drawE := by
  refine has_of a h fun vs H Q E ⟨ds, G, R, r, wd, l, ⟨d, m, e, hk, m0, m1, q⟩, fin⟩ => ?_
  subst e
  cases r with
  | cons r1 r2 =>
    cases r2 with
    | cons r2 r3 =>
      cases r3
      cases r1
      cases r2
      obtain ⟨O, wo⟩ := id wd
      obtain ⟨_, _, D, _⟩ := wo.ob d _ hk
      refine ⟨d, m, rfl, D, m0, m1, fun r H' r0 r1 kp D' => ?_⟩
      have t : TKs K H H' := TKs.kp kp (deckE_lst D)
      exact fin _ G _ H' (q r r0 r1) t (wd.abs_keep hk kp t D' (deckE_lst D')) (.int r)
end
theorem law_goE {K : Frag} {t : TDS} {nx : St → Hp → Prop} {rt : VK} {bk ct : St → Hp → Prop} {σ : St} {δ : DSt} {H : Hp} {d : Addr} (dk : DeckE H d) (sl : Sl K H σ δ) (q : ∀ H', rt (.bl true) H') (h : ∀ G, HasDe G d → t ⟨fun _ _ => False, fun v _ => v = .bl true, fun _ _ => False, fun _ _ => False⟩ δ G) : upS K t ⟨nx, rt, bk, ct⟩ σ H := by
  refine ⟨⟨fun _ _ => False, fun v _ => v = .bl true, fun _ _ => False, fun _ _ => False⟩, δ, _, sl, wd_one (d := d) (L := [d]) (φ := fun H => DeckE H d) (List.mem_cons_self ..) dk (deckE_lst dk) deckE_loc, ?_, h _ dupd_same⟩
  exact ⟨fun _ _ _ _ h => h.elim, fun v G u H' e t w r => by cases e; cases r; exact q _, fun _ _ _ _ h => h.elim, fun _ _ _ _ h => h.elim⟩
theorem de_sub_ {G G' : DG} {d : Addr} (s : Sub G G') (h : HasDe G d) : HasDe G' d := h.sub s
theorem dke_upd {G G' : DG} {d p : Addr} (u : Upd G p G') (h : HasDe G d) (e : ∃ ds, G p = some (.lst ds)) : HasDe G' d := by
  obtain ⟨ds, e⟩ := e
  exact (u d (h.ne e)).trans h
theorem dke_updD {G G' : DG} {d p : Addr} (u : Upd G p G') (h : HasDe G d) (e : ∃ ds, G p = some (.dct ds)) : HasDe G' d := by
  obtain ⟨ds, e⟩ := e
  exact (u d (h.neD e)).trans h
end DD
namespace Cm
open PySem PySem.W L2 SX
/-! ### any value: None, truths, numbers, texts, tuples of such; lists and dicts are not looked into -/
mutual
inductive Bt (K : Frag) (L : List Addr) (H : Hp) : V → PyData → Prop
  | non : Bt K L H .non .none
  | bl (b : Bool) : Bt K L H (.bl b) (.bool b)
  | int (i : Int) : Bt K L H (.int i) (.int i)
  | str {x : Str} (h : Tx x 1000) : Bt K L H (.str x) (.str x)
  | lst {a : Addr} {xs : List V} : a ∉ L → H a = some (.lst xs) → Bt K L H (.ref a) (.list [])
  | dct {a : Addr} {kvs : List (Key × V)} : a ∉ L → H a = some (.dK kvs) → Bt K L H (.ref a) (.dict [])
  | tup {a : Addr} {xs : List V} {ds : List PyData} : SqT K H a xs → BtAll K L H xs ds → Bt K L H (.ref a) (.tuple ds)
inductive BtAll (K : Frag) (L : List Addr) (H : Hp) : List V → List PyData → Prop
  | nil : BtAll K L H [] []
  | cons {v : V} {vs : List V} {d : PyData} {ds : List PyData} : Bt K L H v d → BtAll K L H vs ds → BtAll K L H (v :: vs) (d :: ds)
end
/-- what such a value needs to stay -/
structure BKs (K : Frag) (L : List Addr) (H H' : Hp) : Prop where
  tk : TKs K H H'
  kp : Kp L H H'
theorem BKs.of {K : Frag} {L : List Addr} {H H' : Hp} (s : Same H H') : BKs K L H H' := ⟨TKs.of s, fun a o _ e => s a o e⟩
theorem BKs.trans {K : Frag} {L : List Addr} {H H1 H2 : Hp} (a : BKs K L H H1) (b : BKs K L H1 H2) : BKs K L H H2 := ⟨a.tk.trans b.tk, a.kp.trans b.kp⟩
mutual
theorem Bt.mono {K : Frag} {L : List Addr} {H H' : Hp} (k : BKs K L H H') : ∀ {v : V} {d : PyData}, Bt K L H v d → Bt K L H' v d
  | _, _, .non => .non
  | _, _, .bl b => .bl b
  | _, _, .int i => .int i
  | _, _, .str h => .str h
  | _, _, .lst n h => .lst n (k.kp _ _ n h)
  | _, _, .dct n h => .dct n (k.kp _ _ n h)
  | _, _, .tup h t => .tup (k.tk _ _ h) (BtAll.mono k t)
theorem BtAll.mono {K : Frag} {L : List Addr} {H H' : Hp} (k : BKs K L H H') : ∀ {v : List V} {d : List PyData}, BtAll K L H v d → BtAll K L H' v d
  | _, _, .nil => .nil
  | _, _, .cons h t => .cons (Bt.mono k h) (BtAll.mono k t)
end
theorem BtAll.len {K : Frag} {L : List Addr} {H : Hp} : ∀ {v : List V} {d : List PyData}, BtAll K L H v d → v.length = d.length
  | _, _, .nil => rfl
  | _, _, .cons _ t => congrArg (· + 1) (BtAll.len t)
theorem BtAll.append {K : Frag} {L : List Addr} {H : Hp} : ∀ {v v' : List V} {d d' : List PyData}, BtAll K L H v d → BtAll K L H v' d' → BtAll K L H (v ++ v') (d ++ d')
  | _, _, _, _, .nil, h => h
  | _, _, _, _, .cons h t, h' => .cons h (BtAll.append t h')
theorem BtAll.get {K : Frag} {L : List Addr} {H : Hp} : ∀ {v : List V} {d : List PyData} {i : Nat} {x : V}, BtAll K L H v d → v[i]? = some x → ∃ y, d[i]? = some y ∧ Bt K L H x y
  | _, _, i, x, .nil, h => by simp at h
  | _, _, 0, x, .cons h t, e => ⟨_, rfl, by cases e; exact h⟩
  | _, _, i + 1, x, .cons h t, e => by
    rw [List.getElem?_cons_succ] at e ⊢
    exact BtAll.get t e
theorem Bt.tupD {K : Frag} {L : List Addr} {H : Hp} {v : V} {ds : List PyData} (h : Bt K L H v (.tuple ds)) : ∃ a xs, v = .ref a ∧ SqT K H a xs ∧ BtAll K L H xs ds := by
  cases h with
  | tup h t => exact ⟨_, _, rfl, h, t⟩
def kTupB : PyData → Bool
  | .tuple _ => true
  | _ => false
def kStrB : PyData → Bool
  | .str _ => true
  | _ => false
def kIntB : PyData → Bool
  | .int _ => true
  | .bool _ => true
  | _ => false
def kBoolB : PyData → Bool
  | .bool _ => true
  | _ => false
/-- isinstance of such a value -/
theorem Bt.ty {K : Frag} {L : List Addr} {H : Hp} {v : V} {d : PyData} (h : Bt K L H v d) : ∃ t, TyX K H v t ∧ kitOne K t (.type "tuple") = some (kTupB d) ∧ kitOne K t (.type "str") = some (kStrB d) ∧ kitOne K t (.type "int") = some (kIntB d) ∧ kitOne K t (.type "bool") = some (kBoolB d) := by
  cases h with
  | non => exact ⟨_, .base .non, kit_ty (r := false) (by decide +kernel), kit_ty (r := false) (by decide +kernel), kit_ty (r := false) (by decide +kernel), kit_ty (r := false) (by decide +kernel)⟩
  | bl b => exact ⟨_, .base (.bl _), kit_ty (r := false) (by decide +kernel), kit_ty (r := false) (by decide +kernel), kit_ty (r := true) (by decide +kernel), kit_ty (r := true) (by decide +kernel)⟩
  | int i => exact ⟨_, .base (.int _), kit_ty (r := false) (by decide +kernel), kit_ty (r := false) (by decide +kernel), kit_ty (r := true) (by decide +kernel), kit_ty (r := false) (by decide +kernel)⟩
  | str h => exact ⟨_, .base (.str _), kit_ty (r := false) (by decide +kernel), kit_ty (r := true) (by decide +kernel), kit_ty (r := false) (by decide +kernel), kit_ty (r := false) (by decide +kernel)⟩
  | lst n h => exact ⟨_, .base (.lst h), kit_ty (r := false) (by decide +kernel), kit_ty (r := false) (by decide +kernel), kit_ty (r := false) (by decide +kernel), kit_ty (r := false) (by decide +kernel)⟩
  | dct n h => exact ⟨_, .base (.dK h), kit_ty (r := false) (by decide +kernel), kit_ty (r := false) (by decide +kernel), kit_ty (r := false) (by decide +kernel), kit_ty (r := false) (by decide +kernel)⟩
  | tup h t => exact ⟨_, tyTup h, kit_ty (r := true) (by decide +kernel), kit_ty (r := false) (by decide +kernel), kit_ty (r := false) (by decide +kernel), kit_ty (r := false) (by decide +kernel)⟩
/-! ### size and depth -/
mutual
def sz : PyData → Nat
  | .tuple ds => 1 + szs ds
  | _ => 1
def szs : List PyData → Nat
  | [] => 0
  | d :: r => sz d + szs r
end
end Cm
/-! the plain steps of readings, each found by the head of what is to be shown -/
namespace DD
open PySem PySem.W L2 SX Cm
class WS (p : Prop) (q : outParam Prop) : Prop where
  im : q → p
theorem w_go {p q : Prop} [i : WS p q] (h : q) : p := i.im h
section
variable {nx : DSt → DG → Prop} {rt : DK} {bk ct : DSt → DG → Prop} {δ : DSt} {G : DG} {t u : TDS} {Q : DK} {QB : Bool → DG → Prop} {QA : List DV → DG → Prop} {te ta tb tc : TD} {tt tu : TDT} {ts : TDA}
instance iw_next  : WS (dNext ⟨nx, rt, bk, ct⟩ δ G) (nx δ G) := ⟨fun h => w_next h⟩
end
section
variable {nx : DSt → DG → Prop} {rt : DK} {bk ct : DSt → DG → Prop} {δ : DSt} {G : DG} {t u : TDS} {Q : DK} {QB : Bool → DG → Prop} {QA : List DV → DG → Prop} {te ta tb tc : TD} {tt tu : TDT} {ts : TDA}
instance iw_seq  : WS (dSeq t u ⟨nx, rt, bk, ct⟩ δ G) (t ⟨u ⟨nx, rt, bk, ct⟩, rt, bk, ct⟩ δ G) := ⟨fun h => w_seq h⟩
end
section
variable {nx : DSt → DG → Prop} {rt : DK} {bk ct : DSt → DG → Prop} {δ : DSt} {G : DG} {t u : TDS} {Q : DK} {QB : Bool → DG → Prop} {QA : List DV → DG → Prop} {te ta tb tc : TD} {tt tu : TDT} {ts : TDA}
instance iw_break  : WS (dBreak ⟨nx, rt, bk, ct⟩ δ G) (bk δ G) := ⟨fun h => w_break h⟩
end
section
variable {nx : DSt → DG → Prop} {rt : DK} {bk ct : DSt → DG → Prop} {δ : DSt} {G : DG} {t u : TDS} {Q : DK} {QB : Bool → DG → Prop} {QA : List DV → DG → Prop} {te ta tb tc : TD} {tt tu : TDT} {ts : TDA}
instance iw_cont  : WS (dCont ⟨nx, rt, bk, ct⟩ δ G) (ct δ G) := ⟨fun h => w_cont h⟩
end
section
variable {nx : DSt → DG → Prop} {rt : DK} {bk ct : DSt → DG → Prop} {δ : DSt} {G : DG} {t u : TDS} {Q : DK} {QB : Bool → DG → Prop} {QA : List DV → DG → Prop} {te ta tb tc : TD} {tt tu : TDT} {ts : TDA}
instance iw_drop  : WS (dDrop te ⟨nx, rt, bk, ct⟩ δ G) (te δ G fun _ G1 => nx δ G1) := ⟨fun h => w_drop h⟩
end
section
variable {nx : DSt → DG → Prop} {rt : DK} {bk ct : DSt → DG → Prop} {δ : DSt} {G : DG} {t u : TDS} {Q : DK} {QB : Bool → DG → Prop} {QA : List DV → DG → Prop} {te ta tb tc : TD} {tt tu : TDT} {ts : TDA}
instance iw_ret  : WS (dRet te ⟨nx, rt, bk, ct⟩ δ G) (te δ G rt) := ⟨fun h => w_ret h⟩
end
section
variable {nx : DSt → DG → Prop} {rt : DK} {bk ct : DSt → DG → Prop} {δ : DSt} {G : DG} {t u : TDS} {Q : DK} {QB : Bool → DG → Prop} {QA : List DV → DG → Prop} {te ta tb tc : TD} {tt tu : TDT} {ts : TDA}
instance iw_retN  : WS (dRetN ⟨nx, rt, bk, ct⟩ δ G) (rt .non G) := ⟨fun h => w_retN h⟩
end
section
variable {nx : DSt → DG → Prop} {rt : DK} {bk ct : DSt → DG → Prop} {δ : DSt} {G : DG} {t u : TDS} {Q : DK} {QB : Bool → DG → Prop} {QA : List DV → DG → Prop} {te ta tb tc : TD} {tt tu : TDT} {ts : TDA}
instance iw_ifS {c : TDT} : WS (dIfS c t u ⟨nx, rt, bk, ct⟩ δ G) (c δ G fun b G1 => if b = true then t ⟨nx, rt, bk, ct⟩ δ G1 else u ⟨nx, rt, bk, ct⟩ δ G1) := ⟨fun h => w_ifS h⟩
end
section
variable {nx : DSt → DG → Prop} {rt : DK} {bk ct : DSt → DG → Prop} {δ : DSt} {G : DG} {t u : TDS} {Q : DK} {QB : Bool → DG → Prop} {QA : List DV → DG → Prop} {te ta tb tc : TD} {tt tu : TDT} {ts : TDA}
instance iw_asg {i : Nat} : WS (dAsg te (gN i) ⟨nx, rt, bk, ct⟩ δ G) (te δ G fun d G1 => nx (δ.set i (some d)) G1) := ⟨fun h => w_asg h⟩
end
section
variable {nx : DSt → DG → Prop} {rt : DK} {bk ct : DSt → DG → Prop} {δ : DSt} {G : DG} {t u : TDS} {Q : DK} {QB : Bool → DG → Prop} {QA : List DV → DG → Prop} {te ta tb tc : TD} {tt tu : TDT} {ts : TDA}
instance iw_asgS  : WS (dAsg te (gSb ta tb) ⟨nx, rt, bk, ct⟩ δ G) (te δ G fun v G1 => ta δ G1 fun o G2 => tb δ G2 fun i G3 => bSet o i v G3 fun G4 => nx δ G4) := ⟨fun h => w_asgS h⟩
end
section
variable {nx : DSt → DG → Prop} {rt : DK} {bk ct : DSt → DG → Prop} {δ : DSt} {G : DG} {t u : TDS} {Q : DK} {QB : Bool → DG → Prop} {QA : List DV → DG → Prop} {te ta tb tc : TD} {tt tu : TDT} {ts : TDA}
instance iw_par {i j : Nat} : WS (dPar i j ts ⟨nx, rt, bk, ct⟩ δ G) (ts δ G fun ds G1 => ∃ a b, ds = [a, b] ∧ nx ((δ.set i (some a)).set j (some b)) G1) := ⟨fun h => w_par h⟩
end
section
variable {nx : DSt → DG → Prop} {rt : DK} {bk ct : DSt → DG → Prop} {δ : DSt} {G : DG} {t u : TDS} {Q : DK} {QB : Bool → DG → Prop} {QA : List DV → DG → Prop} {te ta tb tc : TD} {tt tu : TDT} {ts : TDA}
instance iw_c {d : DV} : WS (dC d δ G Q) (Q d G) := ⟨fun h => w_c h⟩
end
section
variable {nx : DSt → DG → Prop} {rt : DK} {bk ct : DSt → DG → Prop} {δ : DSt} {G : DG} {t u : TDS} {Q : DK} {QB : Bool → DG → Prop} {QA : List DV → DG → Prop} {te ta tb tc : TD} {tt tu : TDT} {ts : TDA}
instance iw_op {b : D2} : WS (dOp b ta tb δ G Q) (ta δ G fun x G1 => tb δ G1 fun y G2 => b x y G2 Q) := ⟨fun h => w_op h⟩
end
section
variable {nx : DSt → DG → Prop} {rt : DK} {bk ct : DSt → DG → Prop} {δ : DSt} {G : DG} {t u : TDS} {Q : DK} {QB : Bool → DG → Prop} {QA : List DV → DG → Prop} {te ta tb tc : TD} {tt tu : TDT} {ts : TDA}
instance iw_call {n : Nat} {sp : DSp} : WS (dCall n sp ts δ G Q) (ts δ G fun ds G1 => ds.length = n ∧ sp ds G1 Q) := ⟨fun h => w_call h⟩
end
section
variable {nx : DSt → DG → Prop} {rt : DK} {bk ct : DSt → DG → Prop} {δ : DSt} {G : DG} {t u : TDS} {Q : DK} {QB : Bool → DG → Prop} {QA : List DV → DG → Prop} {te ta tb tc : TD} {tt tu : TDT} {ts : TDA}
instance iw_CB {b : DC} : WS (dCB b ts δ G Q) (ts δ G fun ds G1 => b ds G1 Q) := ⟨fun h => w_CB h⟩
end
section
variable {nx : DSt → DG → Prop} {rt : DK} {bk ct : DSt → DG → Prop} {δ : DSt} {G : DG} {t u : TDS} {Q : DK} {QB : Bool → DG → Prop} {QA : List DV → DG → Prop} {te ta tb tc : TD} {tt tu : TDT} {ts : TDA}
instance iw_tup  : WS (dTup ts δ G Q) (ts δ G fun ds G1 => ds.length ≤ sizeLine ∧ Q (.tup ds) G1) := ⟨fun h => w_tup h⟩
end
section
variable {nx : DSt → DG → Prop} {rt : DK} {bk ct : DSt → DG → Prop} {δ : DSt} {G : DG} {t u : TDS} {Q : DK} {QB : Bool → DG → Prop} {QA : List DV → DG → Prop} {te ta tb tc : TD} {tt tu : TDT} {ts : TDA}
instance iw_lst  : WS (dLst ts δ G Q) (ts δ G fun ds G1 => ds.length ≤ sizeLine ∧ ∀ p, G1 p = none → Q (.ref p) (dupd G1 p (.lst ds))) := ⟨fun h => w_lst h⟩
end
section
variable {nx : DSt → DG → Prop} {rt : DK} {bk ct : DSt → DG → Prop} {δ : DSt} {G : DG} {t u : TDS} {Q : DK} {QB : Bool → DG → Prop} {QA : List DV → DG → Prop} {te ta tb tc : TD} {tt tu : TDT} {ts : TDA}
instance iw_nil  : WS (dNil δ G QA) (QA [] G) := ⟨fun h => w_nil h⟩
end
section
variable {nx : DSt → DG → Prop} {rt : DK} {bk ct : DSt → DG → Prop} {δ : DSt} {G : DG} {t u : TDS} {Q : DK} {QB : Bool → DG → Prop} {QA : List DV → DG → Prop} {te ta tb tc : TD} {tt tu : TDT} {ts : TDA}
instance iw_cons  : WS (dCons te ts δ G QA) (te δ G fun x G1 => ts δ G1 fun xs G2 => QA (x :: xs) G2) := ⟨fun h => w_cons h⟩
end
section
variable {nx : DSt → DG → Prop} {rt : DK} {bk ct : DSt → DG → Prop} {δ : DSt} {G : DG} {t u : TDS} {Q : DK} {QB : Bool → DG → Prop} {QA : List DV → DG → Prop} {te ta tb tc : TD} {tt tu : TDT} {ts : TDA}
instance iw_sl {tl th : TDO} : WS (dSl te tl th δ G Q) (te δ G fun x G1 => tl δ G1 fun l G2 => th δ G2 fun u G3 => bSl x l u G3 Q) := ⟨fun h => w_sl h⟩
end
section
variable {nx : DSt → DG → Prop} {rt : DK} {bk ct : DSt → DG → Prop} {δ : DSt} {G : DG} {t u : TDS} {Q : DK} {QB : Bool → DG → Prop} {QA : List DV → DG → Prop} {te ta tb tc : TD} {tt tu : TDT} {ts : TDA}
instance iw_none {QO : Option Int → DG → Prop} : WS (dNone δ G QO) (QO none G) := ⟨fun h => w_none h⟩
end
section
variable {nx : DSt → DG → Prop} {rt : DK} {bk ct : DSt → DG → Prop} {δ : DSt} {G : DG} {t u : TDS} {Q : DK} {QB : Bool → DG → Prop} {QA : List DV → DG → Prop} {te ta tb tc : TD} {tt tu : TDT} {ts : TDA}
instance iw_some {QO : Option Int → DG → Prop} : WS (dSome te δ G QO) (te δ G fun d G' => ∃ i, d = .int i ∧ QO (some i) G') := ⟨fun h => w_some h⟩
end
section
variable {nx : DSt → DG → Prop} {rt : DK} {bk ct : DSt → DG → Prop} {δ : DSt} {G : DG} {t u : TDS} {Q : DK} {QB : Bool → DG → Prop} {QA : List DV → DG → Prop} {te ta tb tc : TD} {tt tu : TDT} {ts : TDA}
instance iw_rev  : WS (dRev te δ G Q) (te δ G fun x G1 => ∃ ds, x = .tup ds ∧ Q (.tup ds.reverse) G1) := ⟨fun h => w_rev h⟩
end
section
variable {nx : DSt → DG → Prop} {rt : DK} {bk ct : DSt → DG → Prop} {δ : DSt} {G : DG} {t u : TDS} {Q : DK} {QB : Bool → DG → Prop} {QA : List DV → DG → Prop} {te ta tb tc : TD} {tt tu : TDT} {ts : TDA}
instance iw_neg  : WS (dNeg te δ G Q) (te δ G fun x G1 => ∃ i, x = .int i ∧ Q (.int (-i)) G1) := ⟨fun h => w_neg h⟩
end
section
variable {nx : DSt → DG → Prop} {rt : DK} {bk ct : DSt → DG → Prop} {δ : DSt} {G : DG} {t u : TDS} {Q : DK} {QB : Bool → DG → Prop} {QA : List DV → DG → Prop} {te ta tb tc : TD} {tt tu : TDT} {ts : TDA}
instance iw_ifE  : WS (dIf tt ta tb δ G Q) (tt δ G fun c G1 => if c = true then ta δ G1 Q else tb δ G1 Q) := ⟨fun h => w_ifE h⟩
end
section
variable {nx : DSt → DG → Prop} {rt : DK} {bk ct : DSt → DG → Prop} {δ : DSt} {G : DG} {t u : TDS} {Q : DK} {QB : Bool → DG → Prop} {QA : List DV → DG → Prop} {te ta tb tc : TD} {tt tu : TDT} {ts : TDA}
instance iw_andV  : WS (dAndV ta tb δ G Q) (ta δ G fun x G1 => ∃ c, x = .bl c ∧ if c = true then tb δ G1 Q else Q (.bl false) G1) := ⟨fun h => w_andV h⟩
end
section
variable {nx : DSt → DG → Prop} {rt : DK} {bk ct : DSt → DG → Prop} {δ : DSt} {G : DG} {t u : TDS} {Q : DK} {QB : Bool → DG → Prop} {QA : List DV → DG → Prop} {te ta tb tc : TD} {tt tu : TDT} {ts : TDA}
instance iw_orV  : WS (dOrV ta tb δ G Q) (ta δ G fun x G1 => ∃ c, x = .bl c ∧ if c = true then Q (.bl true) G1 else tb δ G1 Q) := ⟨fun h => w_orV h⟩
end
section
variable {nx : DSt → DG → Prop} {rt : DK} {bk ct : DSt → DG → Prop} {δ : DSt} {G : DG} {t u : TDS} {Q : DK} {QB : Bool → DG → Prop} {QA : List DV → DG → Prop} {te ta tb tc : TD} {tt tu : TDT} {ts : TDA}
instance iw_notV  : WS (dNotV ta δ G Q) (ta δ G fun x G1 => ∃ c, x = .bl c ∧ Q (.bl (!c)) G1) := ⟨fun h => w_notV h⟩
end
section
variable {nx : DSt → DG → Prop} {rt : DK} {bk ct : DSt → DG → Prop} {δ : DSt} {G : DG} {t u : TDS} {Q : DK} {QB : Bool → DG → Prop} {QA : List DV → DG → Prop} {te ta tb tc : TD} {tt tu : TDT} {ts : TDA}
instance iw_BM {T : String} {b : DM} : WS (dBM T b te ts δ G Q) (te δ G fun x G1 => rcv T x G1 ∧ ts δ G1 fun ds G2 => b x ds G2 Q) := ⟨fun h => w_BM h⟩
end
section
variable {nx : DSt → DG → Prop} {rt : DK} {bk ct : DSt → DG → Prop} {δ : DSt} {G : DG} {t u : TDS} {Q : DK} {QB : Bool → DG → Prop} {QA : List DV → DG → Prop} {te ta tb tc : TD} {tt tu : TDT} {ts : TDA}
instance iw_BM0 {T : String} {b : DM} : WS (dBM0 T b te δ G Q) (te δ G fun x G1 => rcv T x G1 ∧ b x [] G1 Q) := ⟨fun h => w_BM0 h⟩
end
section
variable {nx : DSt → DG → Prop} {rt : DK} {bk ct : DSt → DG → Prop} {δ : DSt} {G : DG} {t u : TDS} {Q : DK} {QB : Bool → DG → Prop} {QA : List DV → DG → Prop} {te ta tb tc : TD} {tt tu : TDT} {ts : TDA}
instance iw_rcvS {z : Str} {A : Prop} : WS (rcv "str" (.str z) G ∧ A) (A) := ⟨fun h => w_rcvS h⟩
end
section
variable {nx : DSt → DG → Prop} {rt : DK} {bk ct : DSt → DG → Prop} {δ : DSt} {G : DG} {t u : TDS} {Q : DK} {QB : Bool → DG → Prop} {QA : List DV → DG → Prop} {te ta tb tc : TD} {tt tu : TDT} {ts : TDA}
instance iw_test  : WS (dTest te δ G QB) (te δ G fun d G' => ∃ k, d = .bl k ∧ QB k G') := ⟨fun h => w_test h⟩
end
section
variable {nx : DSt → DG → Prop} {rt : DK} {bk ct : DSt → DG → Prop} {δ : DSt} {G : DG} {t u : TDS} {Q : DK} {QB : Bool → DG → Prop} {QA : List DV → DG → Prop} {te ta tb tc : TD} {tt tu : TDT} {ts : TDA}
instance iw_tru  : WS (dTru te δ G QB) (te δ G fun d G' => bTru d G' QB) := ⟨fun h => w_tru h⟩
end
section
variable {nx : DSt → DG → Prop} {rt : DK} {bk ct : DSt → DG → Prop} {δ : DSt} {G : DG} {t u : TDS} {Q : DK} {QB : Bool → DG → Prop} {QA : List DV → DG → Prop} {te ta tb tc : TD} {tt tu : TDT} {ts : TDA}
instance iw_and  : WS (dAnd tt tu δ G QB) (tt δ G fun c G1 => if c = true then tu δ G1 QB else QB false G1) := ⟨fun h => w_and h⟩
end
section
variable {nx : DSt → DG → Prop} {rt : DK} {bk ct : DSt → DG → Prop} {δ : DSt} {G : DG} {t u : TDS} {Q : DK} {QB : Bool → DG → Prop} {QA : List DV → DG → Prop} {te ta tb tc : TD} {tt tu : TDT} {ts : TDA}
instance iw_or  : WS (dOr tt tu δ G QB) (tt δ G fun c G1 => if c = true then QB true G1 else tu δ G1 QB) := ⟨fun h => w_or h⟩
end
section
variable {nx : DSt → DG → Prop} {rt : DK} {bk ct : DSt → DG → Prop} {δ : DSt} {G : DG} {t u : TDS} {Q : DK} {QB : Bool → DG → Prop} {QA : List DV → DG → Prop} {te ta tb tc : TD} {tt tu : TDT} {ts : TDA}
instance iw_not  : WS (dNot tt δ G QB) (tt δ G fun c G1 => QB (!c) G1) := ⟨fun h => w_not h⟩
end
section
variable {nx : DSt → DG → Prop} {rt : DK} {bk ct : DSt → DG → Prop} {δ : DSt} {G : DG} {t u : TDS} {Q : DK} {QB : Bool → DG → Prop} {QA : List DV → DG → Prop} {te ta tb tc : TD} {tt tu : TDT} {ts : TDA}
instance iw_yes  : WS (dYes δ G QB) (QB true G) := ⟨fun h => w_yes h⟩
end
section
variable {nx : DSt → DG → Prop} {rt : DK} {bk ct : DSt → DG → Prop} {δ : DSt} {G : DG} {t u : TDS} {Q : DK} {QB : Bool → DG → Prop} {QA : List DV → DG → Prop} {te ta tb tc : TD} {tt tu : TDT} {ts : TDA}
instance iw_truB {b : Bool} : WS (bTru (.bl b) G QB) (QB b G) := ⟨fun h => w_truB h⟩
end
section
variable {nx : DSt → DG → Prop} {rt : DK} {bk ct : DSt → DG → Prop} {δ : DSt} {G : DG} {t u : TDS} {Q : DK} {QB : Bool → DG → Prop} {QA : List DV → DG → Prop} {te ta tb tc : TD} {tt tu : TDT} {ts : TDA}
instance iw_truI {i : Int} : WS (bTru (.int i) G QB) (QB (i != 0) G) := ⟨fun h => w_truI h⟩
end
section
variable {nx : DSt → DG → Prop} {rt : DK} {bk ct : DSt → DG → Prop} {δ : DSt} {G : DG} {t u : TDS} {Q : DK} {QB : Bool → DG → Prop} {QA : List DV → DG → Prop} {te ta tb tc : TD} {tt tu : TDT} {ts : TDA}
instance iw_truN  : WS (bTru .non G QB) (QB false G) := ⟨fun h => w_truN h⟩
end
section
variable {nx : DSt → DG → Prop} {rt : DK} {bk ct : DSt → DG → Prop} {δ : DSt} {G : DG} {t u : TDS} {Q : DK} {QB : Bool → DG → Prop} {QA : List DV → DG → Prop} {te ta tb tc : TD} {tt tu : TDT} {ts : TDA}
instance iw_truT {ds : List DV} : WS (bTru (.tup ds) G QB) (QB (!ds.isEmpty) G) := ⟨fun h => w_truT h⟩
end
section
variable {nx : DSt → DG → Prop} {rt : DK} {bk ct : DSt → DG → Prop} {δ : DSt} {G : DG} {t u : TDS} {Q : DK} {QB : Bool → DG → Prop} {QA : List DV → DG → Prop} {te ta tb tc : TD} {tt tu : TDT} {ts : TDA}
instance iw_addI {i j : Int} : WS (bAdd (.int i) (.int j) G Q) (Q (.int (i + j)) G) := ⟨fun h => w_addI h⟩
end
section
variable {nx : DSt → DG → Prop} {rt : DK} {bk ct : DSt → DG → Prop} {δ : DSt} {G : DG} {t u : TDS} {Q : DK} {QB : Bool → DG → Prop} {QA : List DV → DG → Prop} {te ta tb tc : TD} {tt tu : TDT} {ts : TDA}
instance iw_subI {i j : Int} : WS (bSub (.int i) (.int j) G Q) (Q (.int (i - j)) G) := ⟨fun h => w_subI h⟩
end
section
variable {nx : DSt → DG → Prop} {rt : DK} {bk ct : DSt → DG → Prop} {δ : DSt} {G : DG} {t u : TDS} {Q : DK} {QB : Bool → DG → Prop} {QA : List DV → DG → Prop} {te ta tb tc : TD} {tt tu : TDT} {ts : TDA}
instance iw_cmpI {g : Int → Int → Bool} {s : List Nat → List Nat → Bool} {i j : Int} : WS (bCmp g s (.int i) (.int j) G Q) (Q (.bl (g i j)) G) := ⟨fun h => w_cmpI h⟩
end
section
variable {nx : DSt → DG → Prop} {rt : DK} {bk ct : DSt → DG → Prop} {δ : DSt} {G : DG} {t u : TDS} {Q : DK} {QB : Bool → DG → Prop} {QA : List DV → DG → Prop} {te ta tb tc : TD} {tt tu : TDT} {ts : TDA}
instance iw_cmpS {g : Int → Int → Bool} {s : List Nat → List Nat → Bool} {i j : Str} : WS (bCmp g s (.str i) (.str j) G Q) (Q (.bl (s i.cps.toList j.cps.toList)) G) := ⟨fun h => w_cmpS h⟩
end
section
variable {nx : DSt → DG → Prop} {rt : DK} {bk ct : DSt → DG → Prop} {δ : DSt} {G : DG} {t u : TDS} {Q : DK} {QB : Bool → DG → Prop} {QA : List DV → DG → Prop} {te ta tb tc : TD} {tt tu : TDT} {ts : TDA}
instance iw_eqSS {a b : Str} : WS (bEq false (.str a) (.str b) G Q) (Q (.bl (decide (a = b))) G) := ⟨fun h => w_eqSS h⟩
end
section
variable {nx : DSt → DG → Prop} {rt : DK} {bk ct : DSt → DG → Prop} {δ : DSt} {G : DG} {t u : TDS} {Q : DK} {QB : Bool → DG → Prop} {QA : List DV → DG → Prop} {te ta tb tc : TD} {tt tu : TDT} {ts : TDA}
instance iw_eqII {a b : Int} : WS (bEq false (.int a) (.int b) G Q) (Q (.bl (decide (a = b))) G) := ⟨fun h => w_eqII h⟩
end
section
variable {nx : DSt → DG → Prop} {rt : DK} {bk ct : DSt → DG → Prop} {δ : DSt} {G : DG} {t u : TDS} {Q : DK} {QB : Bool → DG → Prop} {QA : List DV → DG → Prop} {te ta tb tc : TD} {tt tu : TDT} {ts : TDA}
instance iw_eqBB {a b : Bool} : WS (bEq false (.bl a) (.bl b) G Q) (Q (.bl (decide (a = b))) G) := ⟨fun h => w_eqBB h⟩
end
section
variable {nx : DSt → DG → Prop} {rt : DK} {bk ct : DSt → DG → Prop} {δ : DSt} {G : DG} {t u : TDS} {Q : DK} {QB : Bool → DG → Prop} {QA : List DV → DG → Prop} {te ta tb tc : TD} {tt tu : TDT} {ts : TDA}
instance iw_neSS {a b : Str} : WS (bEq true (.str a) (.str b) G Q) (Q (.bl (!decide (a = b))) G) := ⟨fun h => w_neSS h⟩
end
section
variable {nx : DSt → DG → Prop} {rt : DK} {bk ct : DSt → DG → Prop} {δ : DSt} {G : DG} {t u : TDS} {Q : DK} {QB : Bool → DG → Prop} {QA : List DV → DG → Prop} {te ta tb tc : TD} {tt tu : TDT} {ts : TDA}
instance iw_neII {a b : Int} : WS (bEq true (.int a) (.int b) G Q) (Q (.bl (!decide (a = b))) G) := ⟨fun h => w_neII h⟩
end
section
variable {nx : DSt → DG → Prop} {rt : DK} {bk ct : DSt → DG → Prop} {δ : DSt} {G : DG} {t u : TDS} {Q : DK} {QB : Bool → DG → Prop} {QA : List DV → DG → Prop} {te ta tb tc : TD} {tt tu : TDT} {ts : TDA}
instance iw_neBB {a b : Bool} : WS (bEq true (.bl a) (.bl b) G Q) (Q (.bl (!decide (a = b))) G) := ⟨fun h => w_neBB h⟩
end
section
variable {nx : DSt → DG → Prop} {rt : DK} {bk ct : DSt → DG → Prop} {δ : DSt} {G : DG} {t u : TDS} {Q : DK} {QB : Bool → DG → Prop} {QA : List DV → DG → Prop} {te ta tb tc : TD} {tt tu : TDT} {ts : TDA}
instance iw_eqSN {a : Str} {n : Bool} : WS (bEq n (.str a) .non G Q) (Q (.bl n) G) := ⟨fun h => w_eqSN h⟩
end
section
variable {nx : DSt → DG → Prop} {rt : DK} {bk ct : DSt → DG → Prop} {δ : DSt} {G : DG} {t u : TDS} {Q : DK} {QB : Bool → DG → Prop} {QA : List DV → DG → Prop} {te ta tb tc : TD} {tt tu : TDT} {ts : TDA}
instance iw_eqIN {a : Int} {n : Bool} : WS (bEq n (.int a) .non G Q) (Q (.bl n) G) := ⟨fun h => w_eqIN h⟩
end
section
variable {nx : DSt → DG → Prop} {rt : DK} {bk ct : DSt → DG → Prop} {δ : DSt} {G : DG} {t u : TDS} {Q : DK} {QB : Bool → DG → Prop} {QA : List DV → DG → Prop} {te ta tb tc : TD} {tt tu : TDT} {ts : TDA}
instance iw_eqSI {a : Str} {b : Int} {n : Bool} : WS (bEq n (.str a) (.int b) G Q) (Q (.bl n) G) := ⟨fun h => w_eqSI h⟩
end
section
variable {nx : DSt → DG → Prop} {rt : DK} {bk ct : DSt → DG → Prop} {δ : DSt} {G : DG} {t u : TDS} {Q : DK} {QB : Bool → DG → Prop} {QA : List DV → DG → Prop} {te ta tb tc : TD} {tt tu : TDT} {ts : TDA}
instance iw_eqIS {a : Int} {b : Str} {n : Bool} : WS (bEq n (.int a) (.str b) G Q) (Q (.bl n) G) := ⟨fun h => w_eqIS h⟩
end
section
variable {nx : DSt → DG → Prop} {rt : DK} {bk ct : DSt → DG → Prop} {δ : DSt} {G : DG} {t u : TDS} {Q : DK} {QB : Bool → DG → Prop} {QA : List DV → DG → Prop} {te ta tb tc : TD} {tt tu : TDT} {ts : TDA}
instance iw_eqNS {b : Str} {n : Bool} : WS (bEq n .non (.str b) G Q) (Q (.bl n) G) := ⟨fun h => w_eqNS h⟩
end
section
variable {nx : DSt → DG → Prop} {rt : DK} {bk ct : DSt → DG → Prop} {δ : DSt} {G : DG} {t u : TDS} {Q : DK} {QB : Bool → DG → Prop} {QA : List DV → DG → Prop} {te ta tb tc : TD} {tt tu : TDT} {ts : TDA}
instance iw_eqBS {a : Bool} {b : Str} {n : Bool} : WS (bEq n (.bl a) (.str b) G Q) (Q (.bl n) G) := ⟨fun h => w_eqBS h⟩
end
section
variable {nx : DSt → DG → Prop} {rt : DK} {bk ct : DSt → DG → Prop} {δ : DSt} {G : DG} {t u : TDS} {Q : DK} {QB : Bool → DG → Prop} {QA : List DV → DG → Prop} {te ta tb tc : TD} {tt tu : TDT} {ts : TDA}
instance iw_eqT0 {a : List DV} : WS (bEq false (.tup a) (.tup []) G Q) (Q (.bl a.isEmpty) G) := ⟨fun h => w_eqT0 h⟩
end
section
variable {nx : DSt → DG → Prop} {rt : DK} {bk ct : DSt → DG → Prop} {δ : DSt} {G : DG} {t u : TDS} {Q : DK} {QB : Bool → DG → Prop} {QA : List DV → DG → Prop} {te ta tb tc : TD} {tt tu : TDT} {ts : TDA}
instance iw_isN {x : DV} : WS (bIs false x .non G Q) (Q (.bl (decide (x = .non))) G) := ⟨fun h => w_isN h⟩
end
section
variable {nx : DSt → DG → Prop} {rt : DK} {bk ct : DSt → DG → Prop} {δ : DSt} {G : DG} {t u : TDS} {Q : DK} {QB : Bool → DG → Prop} {QA : List DV → DG → Prop} {te ta tb tc : TD} {tt tu : TDT} {ts : TDA}
instance iw_isnN {x : DV} : WS (bIs true x .non G Q) (Q (.bl (!decide (x = .non))) G) := ⟨fun h => w_isnN h⟩
end
section
variable {nx : DSt → DG → Prop} {rt : DK} {bk ct : DSt → DG → Prop} {δ : DSt} {G : DG} {t u : TDS} {Q : DK} {QB : Bool → DG → Prop} {QA : List DV → DG → Prop} {te ta tb tc : TD} {tt tu : TDT} {ts : TDA}
instance iw_ix0 {a : DV} {r : List DV} : WS (bIx (.tup (a :: r)) (.int 0) G Q) (Q a G) := ⟨fun h => w_ix0 h⟩
end
section
variable {nx : DSt → DG → Prop} {rt : DK} {bk ct : DSt → DG → Prop} {δ : DSt} {G : DG} {t u : TDS} {Q : DK} {QB : Bool → DG → Prop} {QA : List DV → DG → Prop} {te ta tb tc : TD} {tt tu : TDT} {ts : TDA}
instance iw_ix1 {a b : DV} {r : List DV} : WS (bIx (.tup (a :: b :: r)) (.int 1) G Q) (Q b G) := ⟨fun h => w_ix1 h⟩
end
section
variable {nx : DSt → DG → Prop} {rt : DK} {bk ct : DSt → DG → Prop} {δ : DSt} {G : DG} {t u : TDS} {Q : DK} {QB : Bool → DG → Prop} {QA : List DV → DG → Prop} {te ta tb tc : TD} {tt tu : TDT} {ts : TDA}
instance iw_ix2 {a b c : DV} {r : List DV} : WS (bIx (.tup (a :: b :: c :: r)) (.int 2) G Q) (Q c G) := ⟨fun h => w_ix2 h⟩
end
section
variable {nx : DSt → DG → Prop} {rt : DK} {bk ct : DSt → DG → Prop} {δ : DSt} {G : DG} {t u : TDS} {Q : DK} {QB : Bool → DG → Prop} {QA : List DV → DG → Prop} {te ta tb tc : TD} {tt tu : TDT} {ts : TDA}
instance iw_ix3 {a b c d : DV} {r : List DV} : WS (bIx (.tup (a :: b :: c :: d :: r)) (.int 3) G Q) (Q d G) := ⟨fun h => w_ix3 h⟩
end
section
variable {nx : DSt → DG → Prop} {rt : DK} {bk ct : DSt → DG → Prop} {δ : DSt} {G : DG} {t u : TDS} {Q : DK} {QB : Bool → DG → Prop} {QA : List DV → DG → Prop} {te ta tb tc : TD} {tt tu : TDT} {ts : TDA}
instance iw_slT {ds : List DV} {lo hi : Option Int} : WS (bSl (.tup ds) lo hi G Q) (Q (.tup (cutD ds lo hi)) G) := ⟨fun h => w_slT h⟩
end
section
variable {nx : DSt → DG → Prop} {rt : DK} {bk ct : DSt → DG → Prop} {δ : DSt} {G : DG} {t u : TDS} {Q : DK} {QB : Bool → DG → Prop} {QA : List DV → DG → Prop} {te ta tb tc : TD} {tt tu : TDT} {ts : TDA}
instance iw_lenT {ds : List DV} : WS (bLen [.tup ds] G Q) (Q (.int ds.length) G) := ⟨fun h => w_lenT h⟩
end
section
variable {nx : DSt → DG → Prop} {rt : DK} {bk ct : DSt → DG → Prop} {δ : DSt} {G : DG} {t u : TDS} {Q : DK} {QB : Bool → DG → Prop} {QA : List DV → DG → Prop} {te ta tb tc : TD} {tt tu : TDT} {ts : TDA}
instance iw_intB {k : Bool} : WS (bInt1 [.bl k] G Q) (Q (.int (if k = true then 1 else 0)) G) := ⟨fun h => w_intB h⟩
end
section
variable {nx : DSt → DG → Prop} {rt : DK} {bk ct : DSt → DG → Prop} {δ : DSt} {G : DG} {t u : TDS} {Q : DK} {QB : Bool → DG → Prop} {QA : List DV → DG → Prop} {te ta tb tc : TD} {tt tu : TDT} {ts : TDA}
instance iw_intI {k : Int} : WS (bInt1 [.int k] G Q) (Q (.int k) G) := ⟨fun h => w_intI h⟩
end
section
variable {nx : DSt → DG → Prop} {rt : DK} {bk ct : DSt → DG → Prop} {δ : DSt} {G : DG} {t u : TDS} {Q : DK} {QB : Bool → DG → Prop} {QA : List DV → DG → Prop} {te ta tb tc : TD} {tt tu : TDT} {ts : TDA}
instance iw_tupT {ds : List DV} : WS (bTuple [.tup ds] G Q) (Q (.tup ds) G) := ⟨fun h => w_tupT h⟩
end
section
variable {nx : DSt → DG → Prop} {rt : DK} {bk ct : DSt → DG → Prop} {δ : DSt} {G : DG} {t u : TDS} {Q : DK} {QB : Bool → DG → Prop} {QA : List DV → DG → Prop} {te ta tb tc : TD} {tt tu : TDT} {ts : TDA}
instance iw_for {tg : TDG} {tb : TDS} {ti : TDI} : WS (dFor ti tg tb ⟨nx, rt, bk, ct⟩ δ G) (ti δ G fun ds st G1 => ForG ds st tg tb nx rt δ G1) := ⟨fun h => w_for h⟩
end
section
variable {nx : DSt → DG → Prop} {rt : DK} {bk ct : DSt → DG → Prop} {δ : DSt} {G : DG} {t u : TDS} {Q : DK} {QB : Bool → DG → Prop} {QA : List DV → DG → Prop} {te ta tb tc : TD} {tt tu : TDT} {ts : TDA}
instance iw_lc {ti : TDI} {ld : TL} {vs : List Nat} : WS (dLc ti ld tt te vs δ G Q) (ti δ G fun ds st G1 => LcG ds st ld tt te (wipeD δ vs) G1 Q) := ⟨fun h => w_lc h⟩
end
section
variable {nx : DSt → DG → Prop} {rt : DK} {bk ct : DSt → DG → Prop} {δ : DSt} {G : DG} {t u : TDS} {Q : DK} {QB : Bool → DG → Prop} {QA : List DV → DG → Prop} {te ta tb tc : TD} {tt tu : TDT} {ts : TDA}
variable {RI : List DV → (DG → Prop) → DG → Prop}
instance iwi_tup  : WS (dITup te δ G RI) (te δ G fun d G1 => ∃ ds, d = .tup ds ∧ RI ds (fun _ => True) G1) := ⟨fun h => wi_tup h⟩
end
section
variable {nx : DSt → DG → Prop} {rt : DK} {bk ct : DSt → DG → Prop} {δ : DSt} {G : DG} {t u : TDS} {Q : DK} {QB : Bool → DG → Prop} {QA : List DV → DG → Prop} {te ta tb tc : TD} {tt tu : TDT} {ts : TDA}
variable {RI : List DV → (DG → Prop) → DG → Prop}
instance iwi_lst  : WS (dIList te δ G RI) (te δ G fun d G1 => ∃ p ds, d = .ref p ∧ Ls G1 p ds ∧ RI ds (fun G => Ls G p ds) G1) := ⟨fun h => wi_lst h⟩
end
section
variable {nx : DSt → DG → Prop} {rt : DK} {bk ct : DSt → DG → Prop} {δ : DSt} {G : DG} {t u : TDS} {Q : DK} {QB : Bool → DG → Prop} {QA : List DV → DG → Prop} {te ta tb tc : TD} {tt tu : TDT} {ts : TDA}
variable {RI : List DV → (DG → Prop) → DG → Prop}
instance iwi_str  : WS (dIStr te δ G RI) (te δ G fun d G1 => ∃ z, d = .str z ∧ RI (signs z) (fun _ => True) G1) := ⟨fun h => wi_str h⟩
end
section
variable {nx : DSt → DG → Prop} {rt : DK} {bk ct : DSt → DG → Prop} {δ : DSt} {G : DG} {t u : TDS} {Q : DK} {QB : Bool → DG → Prop} {QA : List DV → DG → Prop} {te ta tb tc : TD} {tt tu : TDT} {ts : TDA}
variable {RI : List DV → (DG → Prop) → DG → Prop}
instance iwi_rng  : WS (dIRng ts δ G RI) (ts δ G fun ds G1 => ∃ j : Int, ds = [.int j] ∧ -(2 ^ 62) ≤ j ∧ j < 2 ^ 62 ∧ RI (rng 0 j.toNat) (fun _ => True) G1) := ⟨fun h => wi_rng h⟩
end
section
variable {nx : DSt → DG → Prop} {rt : DK} {bk ct : DSt → DG → Prop} {δ : DSt} {G : DG} {t u : TDS} {Q : DK} {QB : Bool → DG → Prop} {QA : List DV → DG → Prop} {te ta tb tc : TD} {tt tu : TDT} {ts : TDA}
variable {RI : List DV → (DG → Prop) → DG → Prop}
instance iwi_rng2  : WS (dIRng2 ts δ G RI) (ts δ G fun ds G1 => ∃ i j : Int, ds = [.int i, .int j] ∧ (-(2 ^ 62) ≤ i ∧ i < 2 ^ 62 ∧ -(2 ^ 62) ≤ j ∧ j < 2 ^ 62) ∧ RI (rng i (j - i).toNat) (fun _ => True) G1) := ⟨fun h => wi_rng2 h⟩
end
section
variable {nx : DSt → DG → Prop} {rt : DK} {bk ct : DSt → DG → Prop} {δ : DSt} {G : DG} {t u : TDS} {Q : DK} {QB : Bool → DG → Prop} {QA : List DV → DG → Prop} {te ta tb tc : TD} {tt tu : TDT} {ts : TDA}
variable {RI : List DV → (DG → Prop) → DG → Prop}
instance iwi_enumT  : WS (dIEnumT ts δ G RI) (ts δ G fun xs G1 => ∃ ds, xs = [.tup ds] ∧ RI (nmbd ds) (fun _ => True) G1) := ⟨fun h => wi_enumT h⟩
end
section
variable {nx : DSt → DG → Prop} {rt : DK} {bk ct : DSt → DG → Prop} {δ : DSt} {G : DG} {t u : TDS} {Q : DK} {QB : Bool → DG → Prop} {QA : List DV → DG → Prop} {te ta tb tc : TD} {tt tu : TDT} {ts : TDA}
variable {RI : List DV → (DG → Prop) → DG → Prop}
instance iwi_enum  : WS (dIEnum ts δ G RI) (ts δ G fun xs G1 => ∃ p ds, xs = [.ref p] ∧ Ls G1 p ds ∧ RI (nmbd ds) (fun G => Ls G p ds) G1) := ⟨fun h => wi_enum h⟩
end
section
variable {nx : DSt → DG → Prop} {rt : DK} {bk ct : DSt → DG → Prop} {δ : DSt} {G : DG} {t u : TDS} {Q : DK} {QB : Bool → DG → Prop} {QA : List DV → DG → Prop} {te ta tb tc : TD} {tt tu : TDT} {ts : TDA}
variable {RI : List DV → (DG → Prop) → DG → Prop}
instance iwi_rev  : WS (dIRev ts δ G RI) (ts δ G fun xs G1 => ∃ p ds, xs = [.ref p] ∧ Ls G1 p ds ∧ RI ds.reverse (fun G => Ls G p ds) G1) := ⟨fun h => wi_rev h⟩
end
section
variable {nx : DSt → DG → Prop} {rt : DK} {bk ct : DSt → DG → Prop} {δ : DSt} {G : DG} {t u : TDS} {Q : DK} {QB : Bool → DG → Prop} {QA : List DV → DG → Prop} {te ta tb tc : TD} {tt tu : TDT} {ts : TDA}
variable {RI : List DV → (DG → Prop) → DG → Prop}
instance iwi_revR  : WS (dIRevR ts δ G RI) (ts δ G fun ds G1 => ∃ j : Int, ds = [.int j] ∧ 0 ≤ j ∧ j < 2 ^ 62 ∧ RI (rng 0 j.toNat).reverse (fun _ => True) G1) := ⟨fun h => wi_revR h⟩
end
section
variable {nx : DSt → DG → Prop} {rt : DK} {bk ct : DSt → DG → Prop} {δ : DSt} {G : DG} {t u : TDS} {Q : DK} {QB : Bool → DG → Prop} {QA : List DV → DG → Prop} {te ta tb tc : TD} {tt tu : TDT} {ts : TDA}
variable {RI : List DV → (DG → Prop) → DG → Prop}
instance ig_n {d : DV} {i : Nat} {k : DSt → DG → Prop} : WS (gN i d δ G k) (k (δ.set i (some d)) G) := ⟨fun h => g_n h⟩
end
section
variable {nx : DSt → DG → Prop} {rt : DK} {bk ct : DSt → DG → Prop} {δ : DSt} {G : DG} {Q : DK} {te td ti tv : TD}
instance iw_dnew  : WS (dDNew δ G Q) (∀ p, G p = none → Q (.ref p) (dupd G p (.dct []))) := ⟨fun h => w_dnew h⟩
end
section
variable {nx : DSt → DG → Prop} {rt : DK} {bk ct : DSt → DG → Prop} {δ : DSt} {G : DG} {Q : DK} {te td ti tv : TD}
instance iw_dget  : WS (dDGet td ti δ G Q) (td δ G fun x G1 => ti δ G1 fun y G2 => ∃ p kvs z v, x = .ref p ∧ y = .str z ∧ G2 p = some (.dct kvs) ∧ valD kvs (keyD z) = some v ∧ Q v G2) := ⟨fun h => w_dget h⟩
end
section
variable {nx : DSt → DG → Prop} {rt : DK} {bk ct : DSt → DG → Prop} {δ : DSt} {G : DG} {Q : DK} {te td ti tv : TD}
instance iw_dget2  : WS (dDGet2 td ti tv δ G Q) (td δ G fun x G1 => ∃ p, x = .ref p ∧ (∃ kvs, G1 p = some (.dct kvs)) ∧ ti δ G1 fun y G2 => tv δ G2 fun u G3 => ∃ kvs z, y = .str z ∧ G3 p = some (.dct kvs) ∧ Q ((valD kvs (keyD z)).getD u) G3) := ⟨fun h => w_dget2 h⟩
end
section
variable {nx : DSt → DG → Prop} {rt : DK} {bk ct : DSt → DG → Prop} {δ : DSt} {G : DG} {Q : DK} {te td ti tv : TD}
instance iw_din {n : Bool} : WS (dDIn n ti td δ G Q) (ti δ G fun y G1 => td δ G1 fun x G2 => ∃ p kvs z, x = .ref p ∧ y = .str z ∧ G2 p = some (.dct kvs) ∧ Q (.bl (ng n (valD kvs (keyD z)).isSome)) G2) := ⟨fun h => w_din h⟩
end
section
variable {nx : DSt → DG → Prop} {rt : DK} {bk ct : DSt → DG → Prop} {δ : DSt} {G : DG} {Q : DK} {te td ti tv : TD}
instance iw_dput  : WS (dDPut td ti tv ⟨nx, rt, bk, ct⟩ δ G) (tv δ G fun v G1 => td δ G1 fun x G2 => ti δ G2 fun y G3 => ∃ p kvs z, x = .ref p ∧ y = .str z ∧ G3 p = some (.dct kvs) ∧ kvs.length < sizeLine ∧ nx δ (dupd G3 p (.dct (putD kvs (keyD z) v)))) := ⟨fun h => w_dput h⟩
end
section
variable {nx : DSt → DG → Prop} {rt : DK} {bk ct : DSt → DG → Prop} {δ : DSt} {G : DG} {Q : DK} {te td ti tv : TD}
variable {k : DSt → DG → Prop}
instance iw_asgT {n : Nat} {t : TDGs} : WS (dAsg te (gT n t) ⟨nx, rt, bk, ct⟩ δ G) (te δ G fun d G1 => gT n t d δ G1 nx) := ⟨fun h => w_asgT h⟩
end
section
variable {nx : DSt → DG → Prop} {rt : DK} {bk ct : DSt → DG → Prop} {δ : DSt} {G : DG} {Q : DK} {te td ti tv : TD}
variable {k : DSt → DG → Prop}
instance ig_C {i : Nat} {u : TDGs} {d : DV} {r : List DV} : WS (gNC (gN i) u (d :: r) δ G k) (u r (δ.set i (some d)) G k) := ⟨fun h => g_C h⟩
end
section
variable {nx : DSt → DG → Prop} {rt : DK} {bk ct : DSt → DG → Prop} {δ : DSt} {G : DG} {Q : DK} {te td ti tv : TD}
variable {k : DSt → DG → Prop}
instance ig_0  : WS (gN0 [] δ G k) (k δ G) := ⟨fun h => g_0 h⟩
end
section
variable {nx : DSt → DG → Prop} {rt : DK} {bk ct : DSt → DG → Prop} {δ : DSt} {G : DG} {Q : DK} {te td ti tv : TD}
variable {k : DSt → DG → Prop}
instance iw_inS {n : Bool} {c : Nat} {b : Str} : WS (bIn n (.str ⟨#[c]⟩) (.str b) G Q) (Q (.bl (ng n (decide (c ∈ b.cps.toList)))) G) := ⟨fun h => w_inS h⟩
end
end DD
/-! tuples kept as the objects that were made: dict of a tuple of pairs; zip; calls of what a local name holds -/
namespace DD
open PySem PySem.W L2 SX Cm
section
variable {K : Frag} {H : Hp}
theorem wd_ptp {G : DG} {p : Addr} {ds : List DV} (w : Wd K H G) (e : G p = some (.ptp ds)) : ∃ o xs, o.dict = Option.none ∧ H p = some (.frz o (.tup xs)) ∧ RVs K H xs ds := by
  obtain ⟨O, w⟩ := w
  exact w.ob p _ e
theorem rv_ptp {G : DG} {p : Addr} {ds : List DV} (w : Wd K H G) (e : G p = some (.ptp ds)) : RV K H (.ref p) (.tup ds) := by
  obtain ⟨o, xs, _, h, r⟩ := wd_ptp w e
  exact .tup (.inl (.inr ⟨o, h⟩)) r
end
section
variable {X : Cx}
/-- tuple of a list, kept -/
def bTupP : DC
  | [.ref p], G, Q => ∃ ds, Ls G p ds ∧ ∀ r, G r = none → Q (.ref r) (dupd G r (.ptp ds))
  | _, _, _ => False
theorem cd_tupP : CallD X (.type "tuple") bTupP := by
  refine ⟨_, call_tuple_ofD, fun ds vs H G R Q r w h f => ?_⟩
  cases r with
  | nil => exact h.elim
  | cons rv rt =>
    cases rt with
    | cons _ _ => cases rv <;> exact h.elim
    | nil =>
      cases rv with
      | ref p =>
        obtain ⟨ds, ls, q⟩ := h
        obtain ⟨us, hs, r⟩ := wd_seq w ls
        refine ⟨p, us, rfl, hs, fun l o nl nd => ?_⟩
        have s' := same_new nl (.frz o (.tup us))
        exact f _ _ _ _ (q l (w.free nl)) (TKs.of s') (w.new nl fun O => ⟨o, us, nd, upd_same, r.mono (.of s')⟩) (.ref l)
      | _ => exact h.elim
/-- such a tuple as a value -/
def dVarT (i : Nat) : TD := fun δ G Q => ∃ p ds, δ[i]? = some (some (.ref p)) ∧ G p = some (.ptp ds) ∧ Q (.tup ds) G
theorem dvT (i : Nat) {x : Str} {pos : Pos} (hN : X.N[i]? = some x := by rfl) (hv : Vis X.env.scope x := by first | exact Or.inl rfl | exact Or.inr (Or.inl rfl) | exact Or.inr (Or.inr rfl)) (hd : (x == ("__debug__" : Str)) = false := by decide)
    (hcd : (x == ("__classdict__" : Str)) = false := by decide) : DE X (.Name x pos) (dVarT i) :=
  PE_mono (pe_var hN hv hd hcd) fun σ H Q ⟨δ, G, R, sl, w, ⟨p, ds, e, g, r⟩, f⟩ => by
    obtain ⟨v, e', rv⟩ := sl.get e
    cases rv
    exact ⟨_, e', f _ G _ H r (TKs.refl H) w (rv_ptp w g)⟩
/-! dict of a tuple of pairs -/
/-! zip of two tuples or of two lists -/
def zipD (xs ys : List DV) : List DV := List.zipWith (fun x y => .tup [x, y]) xs ys
variable {elts : List Expr} {kk : Nat} {tpos : Pos}
def dIZip (t : TDA) : TDI := fun δ G R => t δ G fun vs G1 => (∃ xs ys, vs = [.tup xs, .tup ys] ∧ R (zipD xs ys) (fun _ => True) G1) ∨ ∃ p q xs ys, vs = [.ref p, .ref q] ∧ Ls G1 p xs ∧ Ls G1 q ys ∧ R (zipD xs ys) (fun G => Ls G p xs ∧ Ls G q ys) G1
end
end DD
namespace DD
open PySem PySem.W L2 SX Cm
section
variable {X : Cx} {i o : Expr} {ti td : TD} {pos : Pos}
theorem w_tupP {G : DG} {Q : DK} {p : Addr} {ds : List DV} (e : G p = some (.lst ds)) (h : ∀ r, G r = none → Q (.ref r) (dupd G r (.ptp ds))) : bTupP [.ref p] G Q := ⟨ds, .inl e, h⟩
theorem w_varT {δ : DSt} {G : DG} {Q : DK} {i : Nat} {p : Addr} {ds : List DV} (e : δ[i]? = some (some (.ref p))) (g : G p = some (.ptp ds)) (h : Q (.tup ds) G) : dVarT i δ G Q := ⟨p, ds, e, g, h⟩
theorem wi_zip {δ : DSt} {G : DG} {t : TDA} {R : List DV → (DG → Prop) → DG → Prop} (h : t δ G fun vs G1 => (∃ xs ys, vs = [.tup xs, .tup ys] ∧ R (zipD xs ys) (fun _ => True) G1) ∨ ∃ p q xs ys, vs = [.ref p, .ref q] ∧ Ls G1 p xs ∧ Ls G1 q ys ∧ R (zipD xs ys) (fun G => Ls G p xs ∧ Ls G q ys) G1) : dIZip t δ G R := h
end
end DD
/-! instances of a class over data: fields, methods, makers -/
namespace DD
open PySem PySem.W L2 SX Cm
def oputO (f : Str) (v : DV) : List (Str × DV) → List (Str × DV)
  | [] => [(f, v)]
  | (g, x) :: r => if g = f then (g, v) :: r else (g, x) :: oputO f v r
theorem look_cons {α : Type} (f g : Str) (x : α) (r : List (Str × α)) : List.lookup f ((g, x) :: r) = if f = g then some x else List.lookup f r := by
  rw [List.lookup_cons]
  by_cases h : f = g
  · rw [if_pos h, h, beq_self_eq_true]
  · rw [if_neg h, beq_eq_false_iff_ne.mpr h]
theorem FRV.len {K : Frag} {H : Hp} {vs : List (Str × V)} {ds : List (Str × DV)} (h : FRV K H vs ds) : vs.length = ds.length := by
  induction h with
  | nil => rfl
  | cons _ _ ih => rw [List.length_cons, List.length_cons, ih]
theorem FRV.look {K : Frag} {H : Hp} {f : Str} {vs : List (Str × V)} {ds : List (Str × DV)} (h : FRV K H vs ds) : ∀ {d : DV}, ds.lookup f = some d → ∃ v, vs.lookup f = some v ∧ RV K H v d := by
  induction h with
  | nil => intro d e; cases e
  | cons r _ ih =>
    intro d e
    rw [look_cons] at e ⊢
    split at e
    · cases e; rw [if_pos (by assumption)]; exact ⟨_, rfl, r⟩
    · rw [if_neg (by assumption)]; exact ih e
theorem FRV.none {K : Frag} {H : Hp} {f : Str} {vs : List (Str × V)} {ds : List (Str × DV)} (h : FRV K H vs ds) : ds.lookup f = Option.none → vs.lookup f = Option.none := by
  induction h with
  | nil => intro _; rfl
  | cons r _ ih =>
    intro e
    rw [look_cons] at e ⊢
    split at e
    · cases e
    · rw [if_neg (by assumption)]; exact ih e
theorem FRV.put {K : Frag} {H : Hp} {f : Str} {v : V} {d : DV} (r : RV K H v d) {vs : List (Str × V)} {ds : List (Str × DV)} (h : FRV K H vs ds) : FRV K H (putF f v vs) (oputO f d ds) := by
  induction h with
  | nil => exact .cons r .nil
  | cons q t ih =>
    unfold putF oputO
    split
    · exact .cons r t
    · exact .cons q ih
theorem wd_obj {K : Frag} {H : Hp} {G : DG} {p C : Addr} {fs : List (Str × DV)} (w : Wd K H G) (e : G p = some (.obj C fs)) : ∃ dx vs, H p = some (.ins C dx vs) ∧ FRV K H vs fs := by
  obtain ⟨O, w⟩ := w
  exact w.ob p _ e
theorem _root_.Cm.TKs.ins {K : Frag} {H : Hp} {p C dx : Addr} {fs : List (Str × V)} {u : HO} (h : H p = some (.ins C dx fs)) : TKs K H (upd H p u) := fun a xs g => by
  have ne : ∀ o, H a = some o → (∀ C dx fs, o ≠ .ins C dx fs) → a ≠ p := fun o e n z => by
    rw [z, h] at e
    exact n _ _ _ (Option.some.inj e).symm
  rcases g with (g | ⟨o, g⟩) | g
  · exact .inl (.inl (by rw [upd_ne (ne _ g fun _ _ _ z => by cases z)]; exact g))
  · exact .inl (.inr ⟨o, by rw [upd_ne (ne _ g fun _ _ _ z => by cases z)]; exact g⟩)
  · exact .inr g
section
variable {X : Cx}
def dFld (K : Frag) (t : TD) (f : Str) : TD := fun δ G Q => t δ G fun x G1 => ∃ a C fs d, x = .ref a ∧ G1 a = some (.obj C fs) ∧ Cls K C ∧ NoAttr K C f ∧ fs.lookup f = some d ∧ Q d G1
theorem de_fld {e : Expr} {f : Str} {pos : Pos} {t : TD} (he : DE X e t) (hb : attributeBase e f X.env (eval e X.env) = eval e X.env := by rfl) : DE X (.Attribute e f pos) (dFld X.K t f) :=
  PE_mono (pe_fld he hb) fun σ H Q ⟨δ, G, R, sl, w, q, fn⟩ => ⟨δ, G, _, sl, w, q, fun x G1 v H1 ⟨a, C, fs, d, e1, e2, c, n, l, q1⟩ t1 w1 r1 => by
    subst e1
    cases r1
    obtain ⟨dx, vs, h, r⟩ := wd_obj w1 e2
    obtain ⟨y, ly, ry⟩ := r.look l
    exact ⟨a, C, dx, vs, y, rfl, h, c, n, ly, fn _ _ _ _ q1 t1 w1 ry⟩⟩
def dFldS (K : Frag) (to tv : TD) (f : Str) : TDS := fun D δ G => tv δ G fun y G1 => to δ G1 fun x G2 => ∃ a C fs, x = .ref a ∧ G2 a = some (.obj C fs) ∧ Cls K C ∧ NoAttr K C f ∧ fs.length < 1000 ∧ D.nx δ (dupd G2 a (.obj C (oputO f y fs)))
theorem ds_fld {o value : Expr} {f : Str} {pos pos' : Pos} {to tv : TD} (ha : DE X o to) (hv : DE X value tv) (hs : swapsWith value (some (.Attribute o f pos')) pos.line X.env = pure false := by rfl) : DS X (.Assign [.Attribute o f pos'] value pos) (dFldS X.K to tv f) :=
  PS_mono (ps_fld ha hv hs) fun D σ H ⟨D', δ, G, sl, w, l, h⟩ => ⟨δ, G, _, sl, w, h, fun y G1 vy H1 q1 t1 w1 r1 => ⟨δ, G1, _, sl.mono t1, w1, q1, fun x G2 vx H2 ⟨a, C, fs, e1, e2, c, n, len, q2⟩ t2 w2 r2 => by
    subst e1
    cases r2
    obtain ⟨dx, vs, hh, r⟩ := wd_obj w2 e2
    have t3 : TKs X.K H2 (upd H2 a (.ins C dx (putF f vy vs))) := TKs.ins hh
    have w3 : Wd X.K (upd H2 a (.ins C dx (putF f vy vs))) (dupd G2 a (.obj C (oputO f y fs))) := w2.put ⟨_, e2, fun L φ z => by cases z⟩ t3 fun O => ⟨dx, _, upd_same, (r.put (r1.mono t2)).mono t3⟩
    exact ⟨a, C, dx, vs, rfl, hh, c, n, by rw [r.len]; exact len, l.nx _ _ _ _ q2 ((t1.trans t2).trans t3) w3 (sl.mono ((t1.trans t2).trans t3))⟩⟩⟩
end
/-- the method m of the class at C keeps a promise about data -/
def HasM (P : Program) (w : World) (K : Frag) (mg : Str → Option Value) (base : Heap) (k : Nat) (C : Addr) (m : Str) (ps : List Str) (dsp : DSp) : Prop :=
  ∃ f fd, FnOk P w K mg base CX0 k f fd ps (toSp K ps.length dsp) ∧ L2.Binds K fd ps [] ∧ Meth K C m f ∧ Cls K C
/-- its __init__, and that the class may be made by its name -/
def HasI (P : Program) (w : World) (K : Frag) (mg : Str → Option Value) (base : Heap) (k : Nat) (C : Addr) (nm : Str) (ps : List Str) (dsp : DSp) : Prop :=
  ∃ f fd, FnOk P w K mg base CX0 k f fd ps (toSp K ps.length dsp) ∧ L2.Binds K fd ps [] ∧ Mk K C f ∧ mg nm = some (.ref C)
/-- a method's def stands at its place -/
def AtM (K : Frag) (C : Addr) (m qual : Str) (st : Stmt) (ps : List Str) : Prop := ∃ f fd, Fun K m qual st f fd ∧ L2.Binds K fd ps [] ∧ Meth K C m f ∧ Cls K C
def AtI (K : Frag) (mg : Str → Option Value) (C : Addr) (nm qual : Str) (st : Stmt) (ps : List Str) : Prop := ∃ f fd, Fun K "__init__" qual st f fd ∧ L2.Binds K fd ps [] ∧ Mk K C f ∧ mg nm = some (.ref C)
section
variable {P : Program} {w : World} {K : Frag} {mg : Str → Option Value} {base : Heap}
theorem ok_body {m qual : Str} {st : Stmt} {f : Addr} {fd : FuncData} {N ps : List Str} {k : Nat} {dsp : DSp} (F : Fun K m qual st f fd) (S : FnScope N ps (defScope st))
    (body : ∀ (cdv : Value) (A : Around) (outer : List Env) (s : Shared) (H : Hp) (E : XK), Room k (A.deeper (PyProof.Rows.envOfC qual (defScope st) s.heap.objs.size f cdv)) → ∀ ds G R, ds.length = ps.length → dsp ds G R →
      ∃ t, DSs (cxOf CX0 P w K mg base N qual (defScope st) f cdv A outer s H E).nox (defBody st) t ∧ t { nx := fun _ G => Less R .non G, rt := Less R } (dstart N ds) G) : FnOk P w K mg base CX0 (k + 1) f fd ps (toSp K ps.length dsp) := by
  refine F.ok S (fun vs H Q E h => ?_) (fun cdv A outer s H vs Q E hr h => ?_)
  · obtain ⟨ds, G, R, r, w, l, _⟩ := h
    rw [r.len]; exact l
  · obtain ⟨ds, G, R, r, wd, l, h, fin⟩ := h
    obtain ⟨t, h1, h2⟩ := body cdv A outer s H E hr ds G R l h
    exact ⟨_, h1, _, _, G, sl_start r, wd, links_def fin, h2⟩
theorem atm_mk {C : Addr} {m qual : Str} {st : Stmt} {N ps : List Str} {k : Nat} {dsp : DSp} (a : AtM K C m qual st ps) (S : FnScope N ps (defScope st))
    (body : ∀ (f : Addr) (cdv : Value) (A : Around) (outer : List Env) (s : Shared) (H : Hp) (E : XK), Room k (A.deeper (PyProof.Rows.envOfC qual (defScope st) s.heap.objs.size f cdv)) → ∀ ds G R, ds.length = ps.length → dsp ds G R →
      ∃ t, DSs (cxOf CX0 P w K mg base N qual (defScope st) f cdv A outer s H E).nox (defBody st) t ∧ t { nx := fun _ G => Less R .non G, rt := Less R } (dstart N ds) G) : HasM P w K mg base (k + 1) C m ps dsp := by
  obtain ⟨f, fd, F, b, me, c⟩ := a
  exact ⟨f, fd, ok_body F S (body f), b, me, c⟩
theorem ati_mk {C : Addr} {nm qual : Str} {st : Stmt} {N ps : List Str} {k : Nat} {dsp : DSp} (a : AtI K mg C nm qual st ps) (S : FnScope N ps (defScope st))
    (body : ∀ (f : Addr) (cdv : Value) (A : Around) (outer : List Env) (s : Shared) (H : Hp) (E : XK), Room k (A.deeper (PyProof.Rows.envOfC qual (defScope st) s.heap.objs.size f cdv)) → ∀ ds G R, ds.length = ps.length → dsp ds G R →
      ∃ t, DSs (cxOf CX0 P w K mg base N qual (defScope st) f cdv A outer s H E).nox (defBody st) t ∧ t { nx := fun _ G => Less R .non G, rt := Less R } (dstart N ds) G) : HasI P w K mg base (k + 1) C nm ps dsp := by
  obtain ⟨f, fd, F, b, me, c⟩ := a
  exact ⟨f, fd, ok_body F S (body f), b, me, c⟩
end
section
variable {X : Cx} {k : Nat} {C : Addr} {m nm : Str} {ps : List Str} {dsp : DSp} {o e : Expr} {es : List Expr} {to : TD} {ts : TDA} {p apos pos : Pos}
def dMeth (C : Addr) (m : Str) (n : Nat) (dsp : DSp) (to : TD) (ts : TDA) : TD := fun δ G Q => to δ G fun x G1 => ∃ a fs, x = .ref a ∧ G1 a = some (.obj C fs) ∧ fs.lookup m = none ∧ ts δ G1 fun ds G2 => (x :: ds).length = n ∧ dsp (x :: ds) G2 Q
theorem de_meth0 (h : HasM X.prog X.w X.K X.mg X.base k C m ps dsp) (hr : Room k X.A) (ho : DE X o to) {pl : Sem Bool}
    (ht : eval (.Call (.Attribute o m apos) [] [] pos) X.env = (do
      let ov ← eval o X.env
      standAt apos.atName
      let (f, first) ← holding [ov] (getMethod ov m pl)
      callWith pos f first (backTo pos (starEach [] X.env)) (backToKw pos (keywordEach [] X.env))) := by rfl) : DE X (.Call (.Attribute o m apos) [] [] pos) (dMeth C m ps.length dsp to dNil) := by
  obtain ⟨f, fd, F, b, me, c⟩ := h
  refine PE_mono (pe_meth0 ho c me F hr b .nil (pass0 (X := X)) ht) fun σ H Q ⟨δ, G, R, sl, w, h, fn⟩ => ⟨δ, G, _, sl, w, h, fun x G1 vx H1 ⟨a, fs, e1, e2, l, q⟩ t1 w1 r1 => ?_⟩
  subst e1
  cases r1
  obtain ⟨dx, vs, hh, r⟩ := wd_obj w1 e2
  refine ⟨a, dx, vs, rfl, hh, r.none l, ?_⟩
  exact ⟨_, G1, R, .cons (.ref a) .nil, w1, q.1, q.2, fn.step t1⟩
def dMake (C : Addr) (n : Nat) (dsp : DSp) (ts : TDA) : TD := fun δ G Q => ts δ G fun ds G1 => ∀ x, G1 x = none → ds.length + 1 = n ∧ dsp (.ref x :: ds) (dupd G1 x (.obj C [])) fun d G2 => d = .non ∧ Q (.ref x) G2
theorem de_make (h : HasI X.prog X.w X.K X.mg X.base k C nm ps dsp) (hr : Room (k + 1) X.A) (hg : Gl X nm) (ha : DA X (e :: es) ts) (hdb : (nm == ("__debug__" : Str)) = false := by decide) (he : starEach (e :: es) X.env = (false, eval e X.env) :: starEach es X.env := by rfl) (hpl : (backTo pos (starEach es X.env)).any (·.1) = false := by rfl) :
    DE X (.Call (.Name nm p) (e :: es) [] pos) (dMake C ps.length dsp ts) := by
  obtain ⟨f, fd, F, b, mk, m⟩ := h
  refine PE_mono (pe_make mk F hr hg m b .nil (pass0 (X := X)) ha hdb he hpl) fun σ H Q ⟨δ, G, R, sl, w, h, fn⟩ => ⟨δ, G, _, sl, w, h, fun ds G1 vs H1 q t1 w1 r1 => ?_⟩
  intro x dx nx nd ne
  have s1 : Same H1 (upd H1 dx (.own x)) := same_new nd _
  have nx' : (upd H1 dx (.own x)) x = none := by rw [upd_ne (Ne.symm ne)]; exact nx
  have s2 := same_new nx' (HO.ins C dx [])
  have w2 : Wd X.K (upd (upd H1 dx (.own x)) x (.ins C dx [])) (dupd G1 x (.obj C [])) := (w1.same s1).new nx' fun O => ⟨dx, [], upd_same, .nil⟩
  have q' := q x (w1.free nx)
  rw [List.append_nil]
  have t2 : TKs X.K H1 (upd (upd H1 dx (.own x)) x (.ins C dx [])) := (TKs.of s1).trans (TKs.of s2)
  refine ⟨_, _, _, .cons (.ref x) (r1.mono t2), w2, q'.1, q'.2, fun d G3 v H3 ⟨e1, q3⟩ t3 w3 r3 => ?_⟩
  subst e1
  cases r3
  exact ⟨rfl, fn _ _ _ _ q3 ((t1.trans t2).trans t3) w3 (.ref x)⟩
end
/-! readings -/
theorem w_fld {K : Frag} {t : TD} {f : Str} {δ : DSt} {G : DG} {Q : DK} (h : t δ G fun x G1 => ∃ a C fs d, x = .ref a ∧ G1 a = some (.obj C fs) ∧ Cls K C ∧ NoAttr K C f ∧ fs.lookup f = some d ∧ Q d G1) : dFld K t f δ G Q := h
theorem w_fldS {K : Frag} {nx : DSt → DG → Prop} {rt : DK} {bk ct : DSt → DG → Prop} {δ : DSt} {G : DG} {to tv : TD} {f : Str} (h : tv δ G fun y G1 => to δ G1 fun x G2 => ∃ a C fs, x = .ref a ∧ G2 a = some (.obj C fs) ∧ Cls K C ∧ NoAttr K C f ∧ fs.length < 1000 ∧ nx δ (dupd G2 a (.obj C (oputO f y fs)))) : dFldS K to tv f ⟨nx, rt, bk, ct⟩ δ G := h
theorem w_meth {C : Addr} {m : Str} {n : Nat} {dsp : DSp} {to : TD} {ts : TDA} {δ : DSt} {G : DG} {Q : DK} (h : to δ G fun x G1 => ∃ a fs, x = .ref a ∧ G1 a = some (.obj C fs) ∧ fs.lookup m = none ∧ ts δ G1 fun ds G2 => (x :: ds).length = n ∧ dsp (x :: ds) G2 Q) : dMeth C m n dsp to ts δ G Q := h
theorem w_make {C : Addr} {n : Nat} {dsp : DSp} {ts : TDA} {δ : DSt} {G : DG} {Q : DK} (h : ts δ G fun ds G1 => ∀ x, G1 x = none → ds.length + 1 = n ∧ dsp (.ref x :: ds) (dupd G1 x (.obj C [])) fun d G2 => d = .non ∧ Q (.ref x) G2) : dMake C n dsp ts δ G Q := h
end DD
/-! names of open things and rests -/
namespace DD
open PySem PySem.W L2 SX Cm
def figs : List Nat := [48, 49, 50, 51, 52, 53, 54, 55, 56, 57]
def azs : List Nat := [97, 98, 99, 100, 101, 102, 103, 104, 105, 106, 107, 108, 109, 110, 111, 112, 113, 114, 115, 116, 117, 118, 119, 120, 121, 122]
def AZs : List Nat := [65, 66, 67, 68, 69, 70, 71, 72, 73, 74, 75, 76, 77, 78, 79, 80, 81, 82, 83, 84, 85, 86, 87, 88, 89, 90]
/-- figures, no nought ahead but in 0 itself -/
def figB (x : List Nat) : Bool := match x with
  | [] => false
  | c :: r => ((c :: r).all fun s => decide (s ∈ figs)) && (decide (c :: r = [48]) || !decide (c = 48))
/-- a letter of these, perhaps with figures behind -/
def nmB (ls : List Nat) (x : List Nat) : Bool := match x with
  | [] => false
  | c :: r => decide (c ∈ ls) && (decide (r = []) || (figB r && !decide (r = [48])))
def smB (z : Str) : Bool := nmB azs (TL.tl z)
def gtB (z : Str) : Bool := nmB AZs (TL.tl z)
def signD : DV → Nat
  | .str z => (TL.tl z).headD 0
  | _ => 0
theorem signs_S (x : List Nat) : signs (S x) = x.map fun c => .str ⟨#[c]⟩ := by
  unfold signs
  show (x.toArray.toList).map _ = _
  rw [List.toList_toArray]
theorem fm_signs (f : Nat → DV) : ∀ x : List Nat, (x.map fun c => DV.str ⟨#[c]⟩).filterMap (fun d => some (f (signD d))) = x.map f
  | [] => rfl
  | c :: r => by rw [List.map_cons, List.filterMap_cons_some (f := fun d => some (f (signD d))) (b := f c) rfl, fm_signs f r]; rfl
end DD
/-! a module's dict of texts: `in`, and what it holds -/
namespace DD
open PySem PySem.W L2 SX Cm
end DD
/-! more methods of texts over data: partition, startswith, index; a module's dict of texts with any number of keys -/
namespace DD
open PySem PySem.W L2 SX Cm
section
variable {X : Cx}
def bPartition : DM := fun x ds G Q => ∃ (a b : Str), x = .str a ∧ ds = [.str b] ∧ (b.length == 0) = false ∧ a.length ≤ sizeLine ∧ Q (.tup [.str (Txt.partition a b).1, .str (Txt.partition a b).2.1, .str (Txt.partition a b).2.2]) G
theorem md_partition : MtD X "str.partition" bPartition := by
  refine ⟨_, mt_partition, fun x ds vx vs H G R Q rx rs w h f => ?_⟩
  obtain ⟨a, b, rfl, rfl, hb, hl, q⟩ := h
  cases rx
  cases rs with
  | cons r rt =>
    cases rt
    cases r
    refine ⟨a, b, rfl, rfl, hb, hl, fun p np => ?_⟩
    have s' := same_new np (.tup [.str (Txt.partition a b).1, .str (Txt.partition a b).2.1, .str (Txt.partition a b).2.2])
    exact f _ _ _ _ q (TKs.of s') (w.same s') (.tup (SqT.of upd_same) (.cons (.str _) (.cons (.str _) (.cons (.str _) .nil))))
def bStartswith : DM := fun x ds G Q => ∃ (a b : Str), x = .str a ∧ ds = [.str b] ∧ Q (.bl (Txt.startswith a b)) G
theorem md_startswith : MtD X "str.startswith" bStartswith := by
  refine ⟨_, mt_startswith, fun x ds vx vs H G R Q rx rs w h f => ?_⟩
  obtain ⟨a, b, rfl, rfl, q⟩ := h
  cases rx
  cases rs with
  | cons r rt =>
    cases rt
    cases r
    exact ⟨a, b, rfl, rfl, f _ _ _ _ q (TKs.refl H) w (.bl _)⟩
def bSindex : DM := fun x ds G Q => ∃ (a b : Str) (i : Nat) (rest : List Nat), x = .str a ∧ ds = [.str b] ∧ Builtin.Str.occurrences a b 0 a.length 1 = i :: rest ∧ Q (.int (i : Nat)) G
theorem md_sindex : MtD X "str.index" bSindex := by
  refine ⟨_, mt_sindex, fun x ds vx vs H G R Q rx rs w h f => ?_⟩
  obtain ⟨a, b, i, rest, rfl, rfl, e, q⟩ := h
  cases rx
  cases rs with
  | cons r rt =>
    cases rt
    cases r
    exact ⟨a, b, i, rest, rfl, rfl, e, f _ _ _ _ q (TKs.refl H) w (.int _)⟩
end
section
theorem w_partition {a b : Str} {G : DG} {Q : DK} (hb : (b.length == 0) = false) (hl : a.length ≤ sizeLine) (h : Q (.tup [.str (Txt.partition a b).1, .str (Txt.partition a b).2.1, .str (Txt.partition a b).2.2]) G) : bPartition (.str a) [.str b] G Q := ⟨a, b, rfl, rfl, hb, hl, h⟩
theorem w_startswith {a b : Str} {G : DG} {Q : DK} (h : Q (.bl (Txt.startswith a b)) G) : bStartswith (.str a) [.str b] G Q := ⟨a, b, rfl, rfl, h⟩
theorem w_sindex {a b : Str} {i : Nat} {rest : List Nat} {G : DG} {Q : DK} (e : Builtin.Str.occurrences a b 0 a.length 1 = i :: rest) (h : Q (.int (i : Nat)) G) : bSindex (.str a) [.str b] G Q := ⟨a, b, i, rest, rfl, rfl, e, h⟩
end
end DD
/-! the pieces that kinds are written by -/
namespace DD
open PySem PySem.W L2 SX Cm
inductive MT where
  | mark (z : Str)
  | kind (k : Kd)
  | stack (s : Sk)
def eM : MT → DV
  | .mark z => .tup [.str "mark", .str z]
  | .kind k => .tup [.str "kind", eK k]
  | .stack s => .tup [.str "stack", eS s]
/-- a def that makes a new list -/
def MkL (G : DG) (R : DK) (xs : List DV) : Prop := ∀ r G', G r = none → Sub G G' → G' r = some (.lst xs) → R (.ref r) G'
theorem MkL.less {G G' : DG} {R : DK} {xs : List DV} {r : Addr} (h : MkL G R xs) (n : G r = none) (s : Sub G G') (e : G' r = some (.lst xs)) : Less R (.ref r) G' := Less.of (h r G' n s e)
end DD
/-! filling kinds by a table: the tasks -/
namespace DD
open PySem PySem.W L2 SX Cm
/-- all that is known but at p -/
def SubX (G : DG) (p : Addr) (G' : DG) : Prop := ∀ a o, a ≠ p → G a = some o → G' a = some o
theorem subx_get {G G' : DG} {a p : Addr} {o : DO} (u : SubX G p G') (h : G a = some o) (n : a ≠ p) : G' a = some o := u _ _ n h
theorem sub_ux {B G G' : DG} {p : Addr} (u : SubX G p G') (s : Sub B G) (n : B p = none) : Sub B G' := fun a o e => u a o (fun z => by rw [z, n] at e; cases e) (s a o e)
theorem SubX.refl (G : DG) (p : Addr) : SubX G p G := fun _ _ _ h => h
theorem subx_sub {B G G' : DG} {p : Addr} (s : Sub G G') (h : SubX B p G) : SubX B p G' := fun a o n e => s _ _ (h a o n e)
theorem subx_upd {B G G' : DG} {p : Addr} (u : Upd G p G') (h : SubX B p G) : SubX B p G' := fun a o n e => (u a n).trans (h a o n e)
theorem subx_tr {B G G' : DG} {p : Addr} (u : SubX G p G') (h : SubX B p G) : SubX B p G' := fun a o n e => u a o n (h a o n e)
structure TabOK (kvs : List (Key × DV)) (P R : Str → Prop) (f : Str → Kd) (g : Str → Sk) : Prop where
  k : ∀ z, P z → (valD kvs (keyD z)).getD (eK (.opn z)) = eK (f z)
  s : ∀ r, R r → (valD kvs (keyD r)).getD (.tup [.str r, .tup []]) = eS (g r)
  w : ∀ r, R r → (g r).ks.length ≤ 1000
inductive FT where
  | kind (k : Kd)
  | stack (s : Sk)
  | endl
  | endr
  | ends (r : Str) (n : Nat)
section
variable {P R : Str → Prop} {f : Str → Kd} {g : Str → Sk}
/-- what the tasks make of what is made so far -/
inductive RunF (P R : Str → Prop) (f : Str → Kd) (g : Str → Sk) : List FT → List DV → List DV → Prop
  | nil {m : List DV} : RunF P R f g [] m m
  | kind {k : Kd} {r : List FT} {m z : List DV} : NK P R k → RunF P R f g r (m ++ [eK (fK f g k)]) z → RunF P R f g (.kind k :: r) m z
  | stack {s : Sk} {r : List FT} {m z : List DV} : NS P R s → RunF P R f g r (m ++ [eS (fS f g s)]) z → RunF P R f g (.stack s :: r) m z
  | endl {r : List FT} {m z : List DV} {x : DV} : RunF P R f g r (m ++ [.tup [.str "list", x]]) z → RunF P R f g (.endl :: r) (m ++ [x]) z
  | endr {r : List FT} {m z : List DV} {x y : DV} : RunF P R f g r (m ++ [.tup [.str "row", x, y]]) z → RunF P R f g (.endr :: r) ((m ++ [x]) ++ [y]) z
  | ends {r : List FT} {m z ks : List DV} {q : Str} {n : Nat} : R q → ks.length = n → RunF P R f g r (m ++ [.tup [.str (g q).rest, .tup (eKs (g q).ks ++ ks)]]) z → RunF P R f g (.ends q n :: r) (m ++ ks) z
theorem RunF.lst {k : Kd} {r : List FT} {m z : List DV} (h : RunF P R f g (.kind (.lst k) :: r) m z) : RunF P R f g (.kind k :: .endl :: r) m z := by
  cases h with
  | kind n h => exact .kind n (.endl h)
theorem RunF.row {a b : Sk} {r : List FT} {m z : List DV} (h : RunF P R f g (.kind (.row a b) :: r) m z) : RunF P R f g (.stack a :: .stack b :: .endr :: r) m z := by
  cases h with
  | kind n h => exact .stack n.1 (.stack n.2 (.endr h))
end
end DD
/-! the open names of a kind, each once, and the told form -/
namespace DD
open PySem PySem.W L2 SX Cm
/-! names that are names -/
def vP (z : Str) : Prop := smB z = true ∧ (TL.tl z).length ≤ 1000
def vR (r : Str) : Prop := r = "" ∨ (gtB r = true ∧ (TL.tl r).length ≤ 1000)
/-! tables -/
/-! the letters -/
end DD
namespace DD
open PySem PySem.W L2 SX Cm
end DD
/-! kinds with other names -/
namespace DD
open PySem PySem.W L2 SX Cm
/-! ### names of letters and numbers -/
/-! names are texts -/
end DD
/-! names called by their order -/
namespace DD
open PySem PySem.W L2 SX Cm
end DD
/-! the marks of a told form against the pattern of the open names -/
namespace DD
open PySem PySem.W L2 SX Cm
/-! the other way: the told marks out of the pattern -/
end DD
/-! tables of fillings that grow by puts; how much a filling adds -/
namespace DD
open PySem PySem.W L2 SX Cm
/-- at most so many parts, so deep -/
structure GdK (m e : Nat) (k : Kd) : Prop where
  sz : szK k ≤ m
  dp : dpK k ≤ e
  nm : NK vP vR k
structure GdS (m e : Nat) (s : Sk) : Prop where
  sz : szS s ≤ m
  dp : dpS s ≤ e
  nm : NS vP vR s
/-- a table whose entries are so -/
def GTab (m e : Nat) (kvs : List (Key × DV)) : Prop := ∃ f g, TabOK kvs vP vR f g ∧ (∀ z, vP z → GdK m e (f z)) ∧ ∀ r, vR r → GdS m e (g r)
theorem GTab.nil {m e : Nat} (hm : 1 ≤ m) : GTab m e [] := ⟨.opn, fun r => .mk r [], ⟨fun z _ => rfl, fun r _ => rfl, fun r _ => Nat.zero_le _⟩, fun z h => ⟨hm, Nat.zero_le _, h⟩, fun r h => ⟨hm, Nat.zero_le _, h, trivial⟩⟩
/-! what a filling makes -/
/-! how many open names -/
end DD
/-! laying one kind on another one: what is found for each open name -/
namespace DD
open PySem PySem.W L2 SX Cm
abbrev Part := Kd ⊕ Sk
noncomputable instance : DecidableEq Part := fun a b => Classical.propDecidable (a = b)
abbrev Fnd := List (Str × Part)
def look : Fnd → Str → Option Part
  | [], _ => none
  | c :: r, z => if c.1 = z then some c.2 else look r z
theorem look_none : ∀ {F : Fnd} {z : Str}, look F z = none ↔ z ∉ F.map (·.1)
  | [], z => ⟨(fun _ h => nomatch h), fun _ => rfl⟩
  | c :: r, z => by
    unfold look
    rw [List.map_cons, List.mem_cons]
    by_cases e : c.1 = z
    · rw [if_pos e]; exact ⟨(fun h => nomatch h), fun h => absurd (Or.inl e.symm) h⟩
    · rw [if_neg e, look_none]
      exact ⟨fun h g => g.elim (fun q => e q.symm) h, fun h g => h (.inr g)⟩
theorem look_nodup : ∀ {F : Fnd} {c : Str × Part}, (F.map (·.1)).Nodup → c ∈ F → look F c.1 = some c.2
  | a :: r, c, nd, h => by
    rw [List.map_cons, List.nodup_cons] at nd
    unfold look
    rcases List.mem_cons.mp h with rfl | h
    · rw [if_pos rfl]
    · have : a.1 ≠ c.1 := fun e => nd.1 (by rw [e]; exact List.mem_map_of_mem h)
      rw [if_neg this, look_nodup nd.2 h]
/-! the steps -/
inductive WI where
  | k (a b : Kd)
  | s (a b : Sk)
def wtW : WI → Nat
  | .k a _ => szK a
  | .s a _ => szS a
def wtWs : List WI → Nat
  | [] => 0
  | t :: r => wtW t + wtWs r
theorem wtWs_app : ∀ a b, wtWs (a ++ b) = wtWs a + wtWs b
  | [], b => (Nat.zero_add _).symm
  | t :: r, b => by show wtW t + wtWs (r ++ b) = wtW t + wtWs r + wtWs b; rw [wtWs_app r b]; omega
theorem wtWs_rev : ∀ a, wtWs a.reverse = wtWs a
  | [] => rfl
  | t :: r => by rw [List.reverse_cons, wtWs_app, wtWs_rev r]; show _ + (wtW t + 0) = wtW t + _; omega
theorem wtW_pos (w : WI) : 1 ≤ wtW w := by
  cases w with
  | k a b => exact szK_pos a
  | s a b => exact szS_pos a
def zk (ks ks' : List Kd) : List WI := List.zipWith WI.k ks ks'
theorem zk_wt : ∀ ks ks', wtWs (zk ks ks') ≤ szKs ks
  | [], _ => Nat.zero_le _
  | _ :: _, [] => Nat.zero_le _
  | k :: r, k' :: r' => by have := zk_wt r r'; show szK k + wtWs (zk r r') ≤ szK k + szKs r; omega
def step : WI → Option (List WI × Option (Str × Part))
  | .s (.mk r ks) (.mk r' ks') =>
    if ks'.length < ks.length then none
    else if r = "" then (if r' = "" ∧ ks'.length = ks.length then some (zk ks (ks'.drop (ks'.length - ks.length)), none) else none)
    else some (zk ks (ks'.drop (ks'.length - ks.length)), some (r, .inr (.mk r' (ks'.take (ks'.length - ks.length)))))
  | .k (.opn z) b => some ([], some (z, .inl b))
  | .k .num .num => some ([], none)
  | .k (.lst a) (.lst b) => some ([.k a b], none)
  | .k (.row a b) (.row c d) => some ([.s a c, .s b d], none)
  | .k _ _ => none
theorem step_wt {w : WI} {x : List WI × Option (Str × Part)} (h : step w = some x) : wtWs x.1 < wtW w := by
  unfold step at h
  split at h
  · rename_i r ks r' ks'
    have := zk_wt ks (ks'.drop (ks'.length - ks.length))
    split at h
    · cases h
    · split at h
      · split at h
        · cases h; show wtWs (zk ks (ks'.drop (ks'.length - ks.length))) < 1 + szKs ks; omega
        · cases h
      · cases h; show wtWs (zk ks (ks'.drop (ks'.length - ks.length))) < 1 + szKs ks; omega
  · cases h; exact Nat.lt_succ_self 0
  · cases h; exact Nat.lt_succ_self 0
  · cases h; rename_i a b; show szK a + 0 < 1 + szK a; omega
  · cases h; rename_i a b c d; show szS a + (szS b + 0) < 1 + szS a + szS b; omega
  · cases h
noncomputable def putFn (F : Fnd) (c : Str × Part) : Option Fnd := match look F c.1 with
  | none => some (F ++ [c])
  | some p => if p = c.2 then some F else none
noncomputable def putO (F : Fnd) : Option (Str × Part) → Option Fnd
  | none => some F
  | some c => putFn F c
noncomputable def run : Nat → List WI → Fnd → Option Fnd
  | _, [], F => some F
  | 0, _ :: _, _ => none
  | n + 1, w :: l, F => (step w).bind fun x => (putO F x.2).bind fun F' => run n (x.1.reverse ++ l) F'
theorem run_any : ∀ (n m : Nat) (l : List WI) (F : Fnd), wtWs l ≤ n → wtWs l ≤ m → run n l F = run m l F
  | n, m, [], F, _, _ => by cases n <;> cases m <;> rfl
  | 0, _, w :: l, F, h, _ => absurd h (by have := wtW_pos w; show ¬ wtW w + _ ≤ 0; omega)
  | _, 0, w :: l, F, _, h => absurd h (by have := wtW_pos w; show ¬ wtW w + _ ≤ 0; omega)
  | n + 1, m + 1, w :: l, F, h1, h2 => by
    show ((step w).bind fun x => (putO F x.2).bind fun F' => run n (x.1.reverse ++ l) F') = (step w).bind fun x => (putO F x.2).bind fun F' => run m (x.1.reverse ++ l) F'
    cases hs : step w with
    | none => rfl
    | some x =>
      have lt := step_wt hs
      show ((putO F x.2).bind fun F' => run n (x.1.reverse ++ l) F') = (putO F x.2).bind fun F' => run m (x.1.reverse ++ l) F'
      cases putO F x.2 with
      | none => rfl
      | some F' =>
        have e : wtWs (x.1.reverse ++ l) < wtWs (w :: l) := by rw [wtWs_app, wtWs_rev]; show _ < wtW w + wtWs l; omega
        exact run_any n m _ F' (by omega) (by omega)
/-! what is found fills the one to the other -/
/-! where there is a filling, one is found -/
def hP (f : Str → Kd) (g : Str → Sk) (z : Str) : Part := if smB z = true then .inl (f z) else .inr (g z)
/-- a part as its name asks -/
def okC (c : Str × Part) : Prop := match c.2 with
  | .inl k => vP c.1 ∧ NK vP vR k
  | .inr s => gtB c.1 = true ∧ (TL.tl c.1).length ≤ 1000 ∧ NS vP vR s
end DD
/-! names found; marks tell the kind; sorted names -/
namespace DD
open PySem PySem.W L2 SX Cm
/-! marks tell the kind -/
/-! names -/
/-! what is found -/
structure FOk (B D : Nat) (F : Fnd) : Prop where
  nd : (F.map (·.1)).Nodup
  ok : ∀ c ∈ F, okC c
  bd : ∀ c ∈ F, match c.2 with | .inl k => szK k ≤ B ∧ dpK k ≤ D | .inr s => szS s ≤ B ∧ dpS s ≤ D
/-! sorted names -/
open PyProof.Rows (sortedS risingS ltCps_eq)
open PySem.Spec (ltCps)
def leS (a b : Str) : Prop := ¬ (b.cps.toList < a.cps.toList)
theorem rise_pair : ∀ (p : Str) (l : List Str), risingS p l = true → (p :: l).Pairwise leS
  | p, [], _ => List.pairwise_singleton _ _
  | p, x :: r, h => by
    have h' : (!ltCps x.cps.toList p.cps.toList && risingS x r) = true := h
    rw [Bool.and_eq_true, ltCps_eq] at h'
    have h1 : leS p x := fun q => by rw [decide_eq_true q] at h'; cases h'.1
    have ih := rise_pair x r h'.2
    refine List.pairwise_cons.mpr ⟨fun y hy => ?_, ih⟩
    rcases List.mem_cons.mp hy with rfl | hy
    · exact h1
    · have h2 : leS x y := List.rel_of_pairwise_cons ih hy
      intro q
      have a1 : p.cps.toList ≤ x.cps.toList := List.not_lt.mp h1
      have a2 : x.cps.toList ≤ y.cps.toList := List.not_lt.mp h2
      exact List.not_lt.mpr (List.le_trans a1 a2) q
theorem sorted_pair {l : List Str} (h : sortedS l = true) : l.Pairwise leS := by
  cases l with
  | nil => exact List.Pairwise.nil
  | cons x r => exact rise_pair x r h
theorem str_ext {a b : Str} (h : a.cps.toList = b.cps.toList) : a = b := by
  obtain ⟨x⟩ := a
  obtain ⟨y⟩ := b
  congr 1
  exact Array.toList_inj.mp h
theorem sorted_eq {a b : List Str} (ha : sortedS a = true) (hb : sortedS b = true) (p : a.Perm b) : a = b :=
  List.Perm.eq_of_pairwise (le := leS) (fun x y _ _ h1 h2 => str_ext (List.le_antisymm (List.not_lt.mp h1) (List.not_lt.mp h2))) (sorted_pair ha) (sorted_pair hb) p
end DD
/-! data as plain values of any sort -/
namespace DD
open PySem PySem.W L2 SX Cm
end DD
/-! tables of fillings over names of any sort (as CmFit) -/
namespace DD
open PySem PySem.W L2 SX Cm
/-- at most so many parts, so deep -/
structure GnK (P R : Str → Prop) (m e : Nat) (k : Kd) : Prop where
  sz : szK k ≤ m
  dp : dpK k ≤ e
  nm : NK P R k
structure GnS (P R : Str → Prop) (m e : Nat) (s : Sk) : Prop where
  sz : szS s ≤ m
  dp : dpS s ≤ e
  nm : NS P R s
/-- a table whose entries are so -/
def GnTab (P R : Str → Prop) (m e : Nat) (kvs : List (Key × DV)) : Prop := ∃ f g, TabOK kvs P R f g ∧ (∀ z, P z → GnK P R m e (f z)) ∧ (∀ r, R r → GnS P R m e (g r)) ∧ g "" = .mk "" []
section
variable {P R : Str → Prop}
theorem GnTab.nil {m e : Nat} (hm : 1 ≤ m) : GnTab P R m e [] := ⟨.opn, fun r => .mk r [], ⟨fun z _ => rfl, fun r _ => rfl, fun r _ => Nat.zero_le _⟩, fun z h => ⟨hm, Nat.zero_le _, h⟩, fun r h => ⟨hm, Nat.zero_le _, h, trivial⟩, rfl⟩
end
/-! what a filling makes -/
end DD
namespace Cm
open PySem PySem.W L2 SX PySem.Spec PyProof.Rows
end Cm
/-! fillings as kept tuples of pairs; one filling and then another one -/
namespace DD
open PySem PySem.W L2 SX Cm
section
variable {X : Cx}
/-- a display that is kept -/
def dTupP (t : TDA) : TD := fun δ G Q => t δ G fun ds G1 => ds.length ≤ sizeLine ∧ ∀ p, G1 p = none → Q (.ref p) (dupd G1 p (.ptp ds))
theorem w_tupPd {δ : DSt} {G : DG} {Q : DK} {ts : TDA} (h : ts δ G fun ds G1 => ds.length ≤ sizeLine ∧ ∀ p, G1 p = none → Q (.ref p) (dupd G1 p (.ptp ds))) : dTupP ts δ G Q := h
/-- (a, b, ..) = a list -/
def gLs (n : Nat) (t : TDGs) : TDG := fun d δ G Q => ∃ p ds, d = .ref p ∧ Ls G p ds ∧ ds.length = n ∧ t ds δ G Q
theorem dg_lst {es : List Expr} {k : Nat} {t : TDGs} {n : Nat} {pos : Pos} (hc : X.calm = true) (h : DGs X es t)
    (hn : (assignEach es X.env).length = n := by rfl) (hst : (assignEach es X.env).findIdx? (·.1) = none := by rfl) : DGt X (.Tuple es k pos) (gLs n t) := PG_mono (pg_lst hc h hn hst) fun v σ H Q ⟨d, δ, G, R, r, sl, w, ⟨p, ds, e, ls, l, h⟩, f⟩ => by
  subst e
  cases r
  obtain ⟨us, hs, r⟩ := wd_seq w ls
  exact ⟨p, us, rfl, hs, by rw [r.len]; exact l, ds, δ, G, R, r, sl, w, h, f⟩
theorem w_asgL {nx : DSt → DG → Prop} {rt : DK} {bk ct : DSt → DG → Prop} {δ : DSt} {G : DG} {te : TD} {n : Nat} {t : TDGs} (h : te δ G fun d G1 => gLs n t d δ G1 nx) : dAsg te (gLs n t) ⟨nx, rt, bk, ct⟩ δ G := h
theorem g_L {δ : DSt} {G : DG} {k : DSt → DG → Prop} {n : Nat} {t : TDGs} {p : Addr} {ds : List DV} (e : G p = some (.lst ds)) (h : t ds δ G k) (l : ds.length = n := by rfl) : gLs n t (.ref p) δ G k := ⟨p, ds, rfl, .inl e, l, h⟩
/-- a call without arguments -/
def dCall0 (dsp : DSp) : TD := fun _ G Q => dsp [] G Q
theorem de_call0 {k : Nat} {nm : Str} {dsp : DSp} {p pos : Pos} (h : Has X.prog X.w X.K X.mg X.base k nm [] dsp) (hr : Room k X.A) (hg : Gl X nm) (hdb : (nm == ("__debug__" : Str)) = false := by decide) :
    DE X (.Call (.Name nm p) [] [] pos) (dCall0 dsp) := by
  obtain ⟨f, fd, F, b, kp, m, _⟩ := h
  refine PE_mono (pe_call0 F hr hg m kp b .nil (pass0 (X := X)) hdb) fun σ H Q ⟨δ, G, R, sl, w, h, f⟩ => ?_
  exact ⟨[], G, R, .nil, w, rfl, h, f⟩
theorem w_call0 {δ : DSt} {G : DG} {Q : DK} {dsp : DSp} (h : dsp [] G Q) : dCall0 dsp δ G Q := h
end
/-! fillings -/
/-! what a found filling makes of names -/
/-- a sorted filling -/
structure FG (B D : Nat) (F : Fnd) : Prop where
  fo : FOk B D F
  so : PyProof.Rows.sortedS (F.map (·.1)) = true
theorem pairs_look {F : Fnd} (nd : (F.map (·.1)).Nodup) : F = (F.map (·.1)).map fun z => (z, (look F z).getD (.inl .num)) := by
  rw [List.map_map]
  conv => lhs; rw [← List.map_id F]
  refine List.map_congr_left fun c hc => ?_
  show c = (c.1, (look F c.1).getD _)
  rw [look_nodup nd hc]; rfl
/-- told by what stands for each name -/
theorem FG.ext {B D B' D' : Nat} {F F' : Fnd} (h : FG B D F) (h' : FG B' D' F') (e : ∀ z, look F z = look F' z) : F = F' := by
  have mem : ∀ {F : Fnd} (z : Str), z ∈ F.map (·.1) ↔ look F z ≠ none := fun z => ⟨fun q r => look_none.mp r q, fun q => Decidable.byContradiction fun r => q (look_none.mpr r)⟩
  have en : F.map (·.1) = F'.map (·.1) := sorted_eq h.so h'.so ((List.perm_ext_iff_of_nodup h.fo.nd h'.fo.nd).mpr fun z => by rw [mem z, mem z, e z])
  rw [pairs_look h.fo.nd, pairs_look h'.fo.nd, en]
  refine List.map_congr_left fun z _ => ?_
  rw [e z]
end DD
/-! shuffles as texts -/
namespace DD
open PySem PySem.W L2 SX Cm
def shL (n : Nat) : List Nat := (List.range n).map (97 + ·)
def shP (ps : List Nat) : List Nat := ps.map (97 + ·)
def shT (n : Nat) (ps : List Nat) : Str := S (shL n) ++ "-" ++ S (shP ps)
structure ShOk (n : Nat) (ps : List Nat) : Prop where
  hn : n ≤ 8
  hp : ∀ p ∈ ps, p < n
  hl : ps.length ≤ 12
theorem no45 : ∀ {xs : List Nat} {p : Nat}, p ∈ xs.map (97 + ·) → p ≠ 45 := by
  intro xs p h e
  obtain ⟨q, _, rfl⟩ := List.mem_map.mp h
  omega
theorem tl_S' (x : List Nat) : TL.tl (S x) = x := by show x.toArray.toList = x; rw [List.toList_toArray]
theorem sh_part (n : Nat) (ps : List Nat) : Txt.partition (shT n ps) "-" = (S (shL n), ("-" : Str), S (shP ps)) := by
  unfold shT
  exact TL.partition_app (y := ("-" : Str)) (s := 45) (S := []) (by decide +kernel) (by rw [tl_S']; exact fun h => no45 h rfl)
theorem sh_split (n : Nat) (ps : List Nat) : Txt.split (shT n ps) "-" = [S (shL n), S (shP ps)] := by
  have h := TL.split_join (y := ("-" : Str)) (s := 45) (S := []) (by decide +kernel) (by decide +kernel) (parts := [S (shL n), S (shP ps)]) (by simp) (fun p hp => by
    rcases List.mem_cons.mp hp with rfl | hp
    · rw [tl_S']; exact fun h => no45 h rfl
    · rw [List.mem_singleton.mp hp, tl_S']; exact fun h => no45 h rfl)
  rw [TL.join_eq] at h
  exact h
theorem sh_start : ∀ n, n < 9 → Txt.startswith "abcdefgh" (S (shL n)) = true := by decide +kernel
theorem sh_index : ∀ p, p < 8 → Builtin.Str.occurrences "abcdefgh" ⟨#[97 + p]⟩ 0 ("abcdefgh" : Str).length 1 = [p] := by decide +kernel
theorem sh_in {n p : Nat} (h : p < n) : 97 + p ∈ (S (shL n)).cps.toList := by
  show 97 + p ∈ (shL n).toArray.toList
  rw [List.toList_toArray]
  exact List.mem_map.mpr ⟨p, List.mem_range.mpr h, rfl⟩
theorem sh_len {n : Nat} {ps : List Nat} (h : ShOk n ps) : (shT n ps).length ≤ 30 := by
  have h1 := h.hn
  have h2 := h.hl
  have e1 : (shL n).toArray.size = n := by rw [List.size_toArray, shL, List.length_map, List.length_range]
  have e2 : (shP ps).toArray.size = ps.length := by rw [List.size_toArray, shP, List.length_map]
  have e3 : ("-" : Str).cps.size = 1 := by decide +kernel
  show (((shL n).toArray ++ ("-" : Str).cps) ++ (shP ps).toArray).size ≤ 30
  rw [Array.size_append, Array.size_append, e1, e2, e3]
  omega
end DD
namespace Cm
open PySem PySem.W L2 SX
/-! ### shuffles by their signs -/
/-- the first n letters -/
def abc (n : Nat) : List Nat := abc8.take n
structure Shuf (n : Nat) (l : List Nat) : Prop where
  n8 : n ≤ 8
  l12 : l.length ≤ 12
  inn : ∀ c ∈ l, c ∈ abc n
theorem no45 {c : Nat} (h : c ∈ abc8) : c ≠ 45 := by
  intro e; subst e; revert h; decide
theorem abc_at : ∀ n ≤ 8, ∀ c ∈ abc n, c - 97 < n := by decide +kernel
/-! ### a row of shuffles as a map -/
/-- a word: how many letters are taken, and the signs that are left -/
abbrev Wd := Nat × List Nat
def pk (x : Wd) : List Nat := x.2.map fun c => c - 97
def Good (ws : List Wd) : Prop := ∀ x ∈ ws, Shuf x.1 x.2
theorem pk_lt {x : Wd} (h : Shuf x.1 x.2) {p : Nat} (hp : p ∈ pk x) : p < x.1 := by
  obtain ⟨c, hc, rfl⟩ := List.mem_map.mp hp
  exact abc_at x.1 h.n8 c (h.inn c hc)
theorem pk_len {x : Wd} (h : Shuf x.1 x.2) : (pk x).length ≤ 12 := by unfold pk; rw [List.length_map]; exact h.l12
theorem getD_at {l : List Int} {i : Nat} (h : i < l.length) : l.getD i 0 = l[i] := by
  rw [List.getD_eq_getElem?_getD, List.getElem?_eq_getElem h]; rfl
/-- k things more from beneath -/
def up (need : Nat) : Nat → List Int → List Int
  | 0, ts => ts
  | k + 1, ts => ((need + k : Nat) : Int) :: up need k ts
theorem up_len (need : Nat) : ∀ (k : Nat) (ts : List Int), (up need k ts).length = ts.length + k
  | 0, ts => rfl
  | k + 1, ts => by
    show (up need k ts).length + 1 = _
    rw [up_len need k ts]; omega
theorem up_add (need : Nat) : ∀ (j k : Nat) (ts : List Int), up (need + k) j (up need k ts) = up need (k + j) ts
  | 0, k, ts => rfl
  | j + 1, k, ts => by
    show ((need + k + j : Nat) : Int) :: up (need + k) j (up need k ts) = ((need + (k + j) : Nat) : Int) :: up need (k + j) ts
    rw [up_add need j k ts, Nat.add_assoc]
theorem up_mem {need : Nat} : ∀ {k : Nat} {ts : List Int}, (∀ t ∈ ts, 0 ≤ t ∧ t < need) → ∀ t ∈ up need k ts, 0 ≤ t ∧ t < ((need + k : Nat) : Int)
  | 0, ts, h, t, ht => h t ht
  | k + 1, ts, h, t, ht => by
    rcases List.mem_cons.mp ht with z | z
    · omega
    · have := up_mem h t z; omega
theorem up_take (need m : Nat) : ∀ (k : Nat) (ts : List Int), (up need k ts).take (m + k) = up need k (ts.take m)
  | 0, ts => rfl
  | k + 1, ts => by
    show List.take (m + k + 1) (((need + k : Nat) : Int) :: up need k ts) = ((need + k : Nat) : Int) :: up need k (ts.take m)
    rw [List.take_succ_cons, up_take need m k ts]
theorem up_drop (need m : Nat) : ∀ (k : Nat) (ts : List Int), (up need k ts).drop (m + k) = ts.drop m
  | 0, ts => rfl
  | k + 1, ts => by
    show List.drop (m + k + 1) (((need + k : Nat) : Int) :: up need k ts) = _
    rw [List.drop_succ_cons, up_drop need m k ts]
theorem up_append (need : Nat) : ∀ (k : Nat) (ts us : List Int), up need k (ts ++ us) = up need k ts ++ us
  | 0, ts, us => rfl
  | k + 1, ts, us => by
    show ((need + k : Nat) : Int) :: up need k (ts ++ us) = (((need + k : Nat) : Int) :: up need k ts) ++ us
    rw [up_append need k ts us]; rfl
/-- what a word leaves: taken from the last n -/
def left (n : Nat) (ps : List Nat) (us : List Int) : List Int := us.take (us.length - n) ++ ps.map fun p => (us.drop (us.length - n)).getD p 0
def wstep (st : Nat × List Int) (x : Wd) : Nat × List Int := (st.1 + (x.1 - st.2.length), left x.1 (pk x) (up st.1 (x.1 - st.2.length) st.2))
def wrun (st : Nat × List Int) (ws : List Wd) : Nat × List Int := ws.foldl wstep st
def wmap (ws : List Wd) : Nat × List Int := ((wrun (0, []) ws).1, (wrun (0, []) ws).2.map fun t => ((wrun (0, []) ws).1 : Int) - 1 - t)
theorem left_len (n : Nat) (ps : List Nat) (us : List Int) : (left n ps us).length = us.length - n + ps.length := by
  unfold left
  rw [List.length_append, List.length_map, List.length_take]; omega
theorem left_mem {n : Nat} {ps : List Nat} {us : List Int} (hn : n ≤ us.length) (hp : ∀ p ∈ ps, p < n) {t : Int} (h : t ∈ left n ps us) : t ∈ us := by
  unfold left at h
  rcases List.mem_append.mp h with z | z
  · exact List.mem_of_mem_take z
  · obtain ⟨p, hp', rfl⟩ := List.mem_map.mp z
    have hl : p < (us.drop (us.length - n)).length := by rw [List.length_drop]; have := hp p hp'; omega
    rw [getD_at hl]
    exact List.mem_of_mem_drop (List.getElem_mem hl)
/-- a state: as many as need, each thing one of these -/
structure Stt (st : Nat × List Int) (m : Nat) : Prop where
  need : st.1 ≤ 8 * m
  len : st.2.length ≤ 12 * m
  inn : ∀ t ∈ st.2, 0 ≤ t ∧ t < st.1
theorem Stt.step {st : Nat × List Int} {m : Nat} (h : Stt st m) {x : Wd} (hx : Shuf x.1 x.2) : Stt (wstep st x) (m + 1) := by
  have n8 := hx.n8
  have l12 := pk_len hx
  have hl := up_len st.1 (x.1 - st.2.length) st.2
  refine ⟨?_, ?_, ?_⟩
  · show st.1 + (x.1 - st.2.length) ≤ _
    have := h.need; omega
  · show (left x.1 (pk x) _).length ≤ _
    rw [left_len, hl]; have := h.len; omega
  · intro t ht
    exact up_mem h.inn t (left_mem (by rw [hl]; omega) (fun p hp => pk_lt hx hp) ht)
theorem Stt.run : ∀ {ws : List Wd} {st : Nat × List Int} {m : Nat}, Stt st m → Good ws → Stt (wrun st ws) (m + ws.length)
  | [], st, m, h, _ => h
  | x :: r, st, m, h, g => by
    have := Stt.run (h.step (g x (List.mem_cons_self ..))) (fun y hy => g y (List.mem_cons_of_mem _ hy))
    rw [show m + (x :: r).length = m + 1 + r.length by rw [List.length_cons]; omega]
    exact this
theorem stt0 : Stt (0, []) 0 := ⟨Nat.le_refl _, Nat.le_refl _, fun t h => nomatch h⟩
theorem wmap_ok {ws : List Wd} (g : Good ws) : (wmap ws).1 ≤ 8 * ws.length ∧ (wmap ws).2.length ≤ 12 * ws.length ∧ ∀ p ∈ (wmap ws).2, 0 ≤ p ∧ p < (wmap ws).1 := by
  have h := stt0.run g
  rw [Nat.zero_add] at h
  refine ⟨h.need, ?_, ?_⟩
  · show ((wrun (0, []) ws).2.map _).length ≤ _
    rw [List.length_map]; exact h.len
  · intro p hp
    obtain ⟨t, ht, rfl⟩ := List.mem_map.mp hp
    have := h.inn t ht
    show 0 ≤ ((wrun (0, []) ws).1 : Int) - 1 - t ∧ ((wrun (0, []) ws).1 : Int) - 1 - t < ((wrun (0, []) ws).1 : Int)
    omega
theorem wrun_append (st : Nat × List Int) (a b : List Wd) : wrun st (a ++ b) = wrun (wrun st a) b := List.foldl_append ..
end Cm
/-! lists read from the front; dicts of texts -/
namespace DD
open PySem PySem.W L2 SX Cm
theorem SubX.of {G G' : DG} {p : Addr} (s : Sub G G') : SubX G p G' := fun a o _ e => s a o e
/-! dicts of texts -/
end DD
set_option maxHeartbeats 1000000
/-! lists: things put in and taken out at a place -/
namespace DD
open PySem PySem.W L2 SX Cm
section
variable {X : Cx}
def bInsert : DM := fun x ds G Q => ∃ (p : Addr) (xs : List DV) (i : Nat) (y : DV), x = .ref p ∧ ds = [.int (i : Int), y] ∧ G p = some (.lst xs) ∧ xs.length < 900000 ∧ i < 900000 ∧ Q .non (dupd G p (.lst (xs.take i ++ [y] ++ xs.drop i)))
theorem md_insert : MtD X "list.insert" bInsert := by
  refine ⟨_, mt_insert, fun x ds vx vs H G R Q rx rs w h f => ?_⟩
  obtain ⟨p, xs, i, y, rfl, rfl, e, l1, l2, q⟩ := h
  cases rx
  cases rs with
  | cons r1 r2 =>
  cases r1
  cases r2 with
  | cons ry rt =>
  cases rt
  obtain ⟨us, hu, r⟩ := wd_list w e
  obtain ⟨t, w'⟩ := put_lst (es := xs.take i ++ [y] ++ xs.drop i) w e hu (((r.take i).append (.cons ry .nil)).append (r.drop i))
  refine ⟨p, us, i, _, rfl, rfl, hu, ?_, by omega, by omega, f _ _ _ _ q t w' .non⟩
  rw [r.len]; exact midlt (by omega)
end
theorem w_insert {p : Addr} {xs : List DV} {i : Nat} {y : DV} {G : DG} {Q : DK} (e : G p = some (.lst xs)) (l : xs.length < 900000) (l' : i < 900000) (h : Q .non (dupd G p (.lst (xs.take i ++ [y] ++ xs.drop i)))) : bInsert (.ref p) [.int (i : Int), y] G Q := ⟨p, xs, i, y, rfl, rfl, e, l, l', h⟩
end DD
set_option maxHeartbeats 4000000
/-! xs[a:] = ys over data, ys another list -/
namespace DD
open PySem PySem.W L2 SX Cm
section
variable {X : Cx} {o lo : Expr} {to tl : TD} {p2 pos : Pos}
def gTl (to tl : TD) : TDG := fun d δ G Q => to δ G fun x G1 => tl δ G1 fun y G2 => ∃ (p b : Addr) (a : Nat) (xs ys : List DV), x = .ref p ∧ d = .ref b ∧ y = .int a ∧ G2 p = some (.lst xs) ∧ G2 b = some (.lst ys) ∧ p ≠ b ∧ a ≤ xs.length ∧ xs.length + ys.length ≤ sizeLine ∧ Q δ (dupd G2 p (.lst (xs.take a ++ ys)))
theorem dg_tail (ho : DE X o to) (hi : DE X lo tl) : DGt X (.Subscript o (.Slice (some lo) none none p2) pos) (gTl to tl) := PG_mono (pg_tail ho hi) fun v σ H Q ⟨d, δ, G, R, r, sl, w, h, f⟩ => by
  refine ⟨δ, G, _, sl, w, h, fun o G1 vo H1 h1 t1 w1 r1 => ⟨δ, G1, _, sl.mono t1, w1, h1, fun i G2 vi H2 ⟨p, b, a, xs, ys, e1, e2, e3, hp, hb, ne, ha, hz, q⟩ t2 w2 r2 => ?_⟩⟩
  subst e1 e2 e3
  cases r
  cases r1
  cases r2
  obtain ⟨us, hu, ru⟩ := wd_list w2 hp
  obtain ⟨vs, hv, rv⟩ := wd_list w2 hb
  obtain ⟨t3, w3⟩ := put_lst w2 hp hu ((ru.take a).append rv)
  exact ⟨p, b, a, us, vs, rfl, rfl, rfl, hu, hv, ne, Int.natCast_nonneg a, by rw [ru.len]; exact Int.ofNat_le.mpr ha, by rw [ru.len, rv.len]; exact hz, by rw [Int.toNat_natCast]; exact f _ _ _ _ q ((t1.trans t2).trans t3) w3 (sl.mono ((t1.trans t2).trans t3))⟩
end
theorem w_tl {to tl : TD} {d : DV} {δ : DSt} {G : DG} {Q : DSt → DG → Prop} (h : to δ G fun x G1 => tl δ G1 fun y G2 => ∃ (p b : Addr) (a : Nat) (xs ys : List DV), x = .ref p ∧ d = .ref b ∧ y = .int a ∧ G2 p = some (.lst xs) ∧ G2 b = some (.lst ys) ∧ p ≠ b ∧ a ≤ xs.length ∧ xs.length + ys.length ≤ sizeLine ∧ Q δ (dupd G2 p (.lst (xs.take a ++ ys)))) : gTl to tl d δ G Q := h
end DD
/-! name += number; a module's tuple of texts -/
namespace DD
open PySem PySem.W L2 SX Cm
section
variable {X : Cx}
theorem ds_augI {i : Nat} {x : Str} {e : Expr} {te : TD} {pos' pos : Pos} (hN : X.N.Nodup) (hi : X.N[i]? = some x) (hx : Loc X.env.scope x) (he : DE X e te) (hf : X.fn x = true ∨ X.env.scope.names.lookup x = some .local := by first | exact .inl rfl | exact .inr rfl | assumption) :
    DS X (.AugAssign (.Name x pos') .Add e pos) (fun D δ G => ∃ a : Int, δ[i]? = some (some (.int a)) ∧ te δ G fun y G1 => ∃ b : Int, y = .int b ∧ D.nx (δ.set i (some (.int (a + b)))) G1) :=
  PS_mono (ps_aug (ti := rI0 fun i j => .int (i + j)) hN hi hx he (fun pins s σ H x y u w Q I r r1 q => iop_add pins s σ H x y u w Q I r r1 q) hf) fun D σ H ⟨D', δ, G, sl, w, l, a, ea, h⟩ => by
    obtain ⟨v, e1, r1⟩ := sl.get ea
    cases r1
    refine ⟨.int a, e1, δ, G, _, sl, w, h, fun d G1 vd H1 q t1 w1 r2 => ?_⟩
    obtain ⟨b, rfl, q⟩ := q
    cases r2
    exact ⟨a, b, rfl, rfl, l.nx _ _ G1 H1 q t1 w1 ((sl.mono t1).set (.int (a + b)) i)⟩
theorem w_augI {i : Nat} {te : TD} {D : DEnds} {δ : DSt} {G : DG} {a : Int} (ea : δ[i]? = some (some (.int a))) (h : te δ G fun y G1 => ∃ b : Int, y = .int b ∧ D.nx (δ.set i (some (.int (a + b)))) G1) :
    (fun (D : DEnds) (δ : DSt) (G : DG) => ∃ a : Int, δ[i]? = some (some (.int a)) ∧ te δ G fun y G1 => ∃ b : Int, y = .int b ∧ D.nx (δ.set i (some (.int (a + b)))) G1) D δ G := ⟨a, ea, h⟩
end
end DD
/-! a number and a tuple of numbers, as one tuple, as a key of a dict -/
namespace PySem
open Sem (wp)
abbrev MK := Int × List Int
section
variable {prog : Program} {w : World} (knd : KeyKind prog w Int)
def IsMapKey (h : Heap) (k : MK) (a : Addr) : Prop := ∃ o u b n, h.get? a = some o ∧ o.cls = .type "tuple" ∧ o.data = .seq #[u, .ref b] n ∧ knd.is k.1 u = true ∧ IsTupleKey knd h k.2 b
def mapKeyHash (k : MK) : Int := reduceHash (Builtin.Tuple.tupleHashOf [knd.hash k.1, tupleKeyHash knd k.2])
variable {knd}
theorem IsMapKey.typeIs {s : Shared} {k : MK} {a : Addr} (x : IsMapKey knd s.heap k a) : s.TypeIs (.ref a) "tuple" := let ⟨o, _, _, _, ho, hc, _⟩ := x; ⟨o, ho, hc⟩
theorem IsMapKey.inj {h : Heap} {a : Addr} {x y : MK} (hx : IsMapKey knd h x a) (hy : IsMapKey knd h y a) : x = y := by
  obtain ⟨o, u, b, n, ho, _, hd, h1, h2⟩ := hx
  obtain ⟨o', u', b', n', ho', _, hd', h1', h2'⟩ := hy
  obtain rfl : o = o' := Option.some.inj (ho.symm.trans ho')
  rw [hd] at hd'
  injection hd' with e1 _
  injection e1 with e1
  injection e1 with eu e1
  injection e1 with eb _
  injection eb with eb
  subst eu
  subst eb
  exact Prod.ext (knd.inj _ _ _ h1 h1') (h2.inj h2')
theorem IsMapKey.keeps {h h' : Heap} {k : MK} {a d : Addr} {o : Obj} {es ep} (x : IsMapKey knd h k a) (ho : h.get? d = some o) (hd : o.data = .dict es ep) (hs : Heap.SameBut d h h') : IsMapKey knd h' k a := by
  obtain ⟨o', u, b, n, ho', hc, hd', h1, h2⟩ := x
  have hne : a ≠ d := by
    rintro rfl
    obtain rfl : o' = o := Option.some.inj (ho'.symm.trans ho)
    rw [hd] at hd'; exact nomatch hd'
  exact ⟨o', u, b, n, (hs.2 a hne).trans ho', hc, hd', h1, h2.keeps ho hd hs⟩
variable {A : Around} {E : Value → Shared → Prop} {s : Shared}
theorem wpAny_pyHash_map {k : MK} {a : Addr} {Q : Int → Shared → Prop} (hu : A.units + 1 < cLine) (hk : IsMapKey knd s.heap k a) (h : Q (mapKeyHash knd k) { s with toks := s.toks + (k.2.length + 3) }) :
    wpAny (model prog w) A (pyHash (.ref a)) Q E s := by
  have hT := hk.typeIs
  obtain ⟨o, u, b, n, ho, _, hd, h1, h2⟩ := hk
  unfold pyHash
  first | unfold pyHashByItsType | skip
  first | refine wpAny_bind (wpAny_cRoomFor_or (.inr (by omega)) ?_) | skip
  refine wpAny_bind (wpAny_specialOf hT F.slot_tuple_hash.lookup ?_)
  show wpAny _ _ (if (some (Value.builtin "tuple.__hash__") == some Value.none) = true then _ else _) Q E s
  rw [if_neg (by rw [beq_builtin_none]; exact Bool.false_ne_true)]
  refine wpAny_bind (wpAny_specialOf hT F.slot_tuple_hash.lookup ?_)
  show wpAny _ _ (callSpecialIfBoundUnlessNone? (.ref a) "__hash__" _ >>= _) Q E s
  refine wpAny_bind (wpAny_callSpecialIfBoundUnlessNone?_slot hT F.slot_tuple_hash (wpAny_call_entry F.slot_tuple_hash hT F.entry_tuple_hash ?_ (F.args_tuple_hash_1 _)))
  show wpAny _ _ (Builtin.Tuple.tupleItemsOf (.ref a) >>= _) _ _ s
  refine wpAny_bind (wpAny_tupleItemsOf ho hd ?_)
  refine wpAny_bind ?_
  rw [← Array.forIn_toList]
  refine wpAny_forIn_list _
    (fun rest (c : Array Int) s' => (rest = [u, .ref b] ∧ c = #[] ∧ s' = s) ∨ (rest = [.ref b] ∧ c = #[knd.hash k.1] ∧ s' = { s with toks := s.toks + 1 }) ∨ (rest = [] ∧ c = #[knd.hash k.1, tupleKeyHash knd k.2] ∧ s' = { s with toks := s.toks + 1 + (k.2.length + 1) }))
    _ ?_ ?_ _ _ (.inl ⟨rfl, rfl, rfl⟩)
  · rintro x rest c s' (⟨e, rfl, rfl⟩ | ⟨e, rfl, rfl⟩ | ⟨e, rfl, rfl⟩)
    · injection e with e1 e2
      subst e1 e2
      refine wpAny_bind (knd.pyHash h1 ?_)
      first
        | exact wpAny_pure (.inr (.inl ⟨rfl, rfl, rfl⟩))
        | exact wpAny_bind (wpAny_pure (wpAny_pure (.inr (.inl ⟨rfl, rfl, rfl⟩))))
    · injection e with e1 e2
      subst e1 e2
      refine wpAny_bind (wpAny_pyHash_tuple (s := { s with toks := s.toks + 1 }) hu h2 ?_)
      first
        | exact wpAny_pure (.inr (.inr ⟨rfl, rfl, rfl⟩))
        | exact wpAny_bind (wpAny_pure (wpAny_pure (.inr (.inr ⟨rfl, rfl, rfl⟩))))
    · cases e
  · rintro c s' (⟨e, rfl, rfl⟩ | ⟨e, rfl, rfl⟩ | ⟨e, rfl, rfl⟩)
    · cases e
    · cases e
    show wpAny _ _ (retInt (Builtin.Tuple.tupleHashOf [knd.hash k.1, tupleKeyHash knd k.2])) _ _ _
    refine wpAny_ret_mkInt ?_
    show wpAny _ _ (if (decide (-(2 : Int) ^ 63 ≤ Builtin.Tuple.tupleHashOf [knd.hash k.1, tupleKeyHash knd k.2]) && decide (Builtin.Tuple.tupleHashOf [knd.hash k.1, tupleKeyHash knd k.2] < 2 ^ 63)) = true then _ else _) Q E _
    unfold mapKeyHash reduceHash at h
    have et : s.toks + 1 + (k.2.length + 1) + 1 = s.toks + (k.2.length + 3) := by omega
    by_cases hr : (decide (-(2 : Int) ^ 63 ≤ Builtin.Tuple.tupleHashOf [knd.hash k.1, tupleKeyHash knd k.2]) && decide (Builtin.Tuple.tupleHashOf [knd.hash k.1, tupleKeyHash knd k.2] < 2 ^ 63)) = true
    · rw [if_pos hr]
      rw [if_pos hr] at h
      exact wpAny_pure (by simpa [et] using h)
    · rw [if_neg hr]
      rw [if_neg hr] at h
      exact wpAny_bind (wpAny_rule (wpAny_pure (by simpa [et] using h)))
theorem map_eq_tree {x y : MK} {a b : Addr} {P : Fin → Shared → Prop} (hu : A.units < cLine) (hx : IsMapKey knd s.heap x a) (hy : IsMapKey knd s.heap y b) (h : P (.done (.ret (.bool (decide (x = y))))) s) :
    wpAny (model prog w) A (Builtin.«tuple.__eq__» ⟨[.ref a, .ref b], []⟩) P E s := by
  have hTb := hy.typeIs
  obtain ⟨oa, u, c, na, hoa, _, hda, h1, h2⟩ := hx
  obtain ⟨ob, v, d, nb, hob, _, hdb, g1, g2⟩ := hy
  have e1 : decide (x = y) = (decide (x.1 = y.1) && decide (x.2 = y.2)) := by
    by_cases h : x = y
    · subst h; simp
    · rw [decide_eq_false h]
      by_cases h3 : x.1 = y.1
      · have : ¬ x.2 = y.2 := fun h4 => h (Prod.ext h3 h4)
        rw [decide_eq_false this, Bool.and_false]
      · rw [decide_eq_false h3, Bool.false_and]
  show wpAny _ _ (isInstance (.ref b) (.type "tuple") >>= _) _ _ s
  refine wpAny_bind (wpAny_isInstance hTb isSubtype_tuple_tuple ?_)
  simp only [Bool.not_true, Bool.false_eq_true, if_false]
  refine wpAny_bind (wpAny_tupleItemsOf hoa hda ?_)
  refine wpAny_bind (wpAny_tupleItemsOf hob hdb ?_)
  refine wpAny_bind ?_
  refine wpAny_forIn_list _
    (fun rest r s' => r.1 = none ∧ s' = s ∧ ((rest = [(u, v), (.ref c, .ref d)]) ∨ (rest = [(.ref c, .ref d)] ∧ x.1 = y.1) ∨ (rest = [] ∧ x.1 = y.1 ∧ x.2 = y.2)))
    _ ?_ ?_ _ _ ⟨rfl, rfl, .inl rfl⟩
  · rintro ⟨u', v'⟩ rest r s' ⟨hr, rfl, e | ⟨e, ex⟩ | ⟨e, _⟩⟩
    · injection e with e2 e3
      injection e2 with e2 e4
      subst e2 e3 e4
      refine wpAny_bind (knd.eqBool (a := x.1) (b := y.1) h1 g1 ?_)
      by_cases hk : x.1 = y.1
      · rw [decide_eq_true hk]
        simp only [Bool.not_true, Bool.false_eq_true, if_false]
        exact wpAny_pure ⟨rfl, rfl, .inr (.inl ⟨by first | rfl | trivial, hk⟩)⟩
      · rw [decide_eq_false hk]
        simp only [Bool.not_false, if_true]
        rw [e1, decide_eq_false hk, Bool.false_and] at h
        exact wpAny_bind (wpAny_pure (wpAny_pure (wpAny_pure h)))
    · injection e with e2 e3
      injection e2 with e2 e4
      subst e2 e3 e4
      refine wpAny_bind (wpAny_eqBool_tuple hu h2 g2 ?_)
      by_cases hk : x.2 = y.2
      · rw [decide_eq_true hk]
        simp only [Bool.not_true, Bool.false_eq_true, if_false]
        exact wpAny_pure ⟨rfl, rfl, .inr (.inr ⟨by first | rfl | trivial, ex, hk⟩)⟩
      · rw [decide_eq_false hk]
        simp only [Bool.not_false, if_true]
        rw [e1, decide_eq_false hk, Bool.and_false] at h
        exact wpAny_bind (wpAny_pure (wpAny_pure (wpAny_pure h)))
    · cases e
  · rintro ⟨r1, r2⟩ s' ⟨hr, rfl, e | ⟨e, _⟩ | ⟨_, ex, ey⟩⟩
    · cases e
    · cases e
    simp only at hr
    subst hr
    refine wpAny_pure ?_
    show P (.done (.ret (.bool ((#[u, Value.ref c] : Array Value).size == (#[v, Value.ref d] : Array Value).size)))) s'
    rw [e1, decide_eq_true ex, decide_eq_true ey] at h
    exact h
theorem wpAny_eqBool_map {x y : MK} {a b : Addr} {Q : Bool → Shared → Prop} (hu : A.units + 1 < cLine) (hx : IsMapKey knd s.heap x a) (hy : IsMapKey knd s.heap y b) (h : Q (decide (x = y)) s) :
    wpAny (model prog w) A (eqBool (.ref a) (.ref b)) Q E s := by
  unfold eqBool
  try with_reducible refine wpAny_holding ?_
  show wpAny _ _ (if (Value.ref a == Value.ref b) = true then _ else _) Q E s
  by_cases hab : (Value.ref a == Value.ref b) = true
  · rw [if_pos hab]
    have e : a = b := by have := eq_of_beq hab; injection this
    subst e
    obtain rfl := hx.inj hy
    exact wpAny_bind (wpAny_rule (wpAny_pure (by simpa using h)))
  · rw [if_neg hab]
    exact wpAny_bind (wpAny_richCompare_same_room (op := .Eq) hx.typeIs hy.typeIs F.slot_tuple_eq
      (wpAny_call_entry F.slot_tuple_eq hx.typeIs F.entry_tuple_eq (map_eq_tree hu hx hy ⟨_, rfl, (fun e => nomatch e), wpAny_truthy_bool h⟩) (F.args_tuple_eq_2 _ _)) (by omega))
theorem wpAny_eqIsQuiet_tuple7 {ks : List Int} {a : Addr} {Q : Bool → Shared → Prop} (hk : IsTupleKey knd s.heap ks a) (h : Q true s) : wpAny (model prog w) A (eqIsQuiet 7 (.ref a)) Q E s := by
  have hT := hk.typeIs
  obtain ⟨o, items, n, ho, _, hd, hi⟩ := hk
  unfold eqIsQuiet
  refine wpAny_bind (wpAny_specialOf hT F.slot_tuple_eq.lookup ?_)
  show wpAny _ _ (isInstance (.ref a) (.type "tuple") >>= _) _ _ s
  refine wpAny_bind (wpAny_isInstance hT isSubtype_tuple_tuple ?_)
  simp only [Bool.not_true, Bool.false_eq_true, if_false]
  refine wpAny_bind (wpAny_seqItems ho hd ?_)
  refine wpAny_bind ?_
  show wpAny _ _ (forIn items _ _) _ _ s
  rw [← Array.forIn_toList]
  refine wpAny_forIn_list _ (fun rest r s' => r.1 = none ∧ s' = s ∧ ∀ v ∈ rest, carriedByValue v = true) _ ?_ ?_ _ _ ⟨rfl, rfl, hi.byValue⟩
  · rintro v rest r s' ⟨hr, rfl, hall⟩
    rw [eqIsQuiet_byValue _ (hall v List.mem_cons_self)]
    refine wpAny_bind (wpAny_pure ?_)
    simp only [Bool.not_true, Bool.false_eq_true, if_false]
    exact wpAny_pure ⟨rfl, rfl, fun u hu' => hall u (List.mem_cons_of_mem _ hu')⟩
  · rintro ⟨r1, r2⟩ s' ⟨hr, rfl, _⟩
    simp only at hr
    subst hr
    exact wpAny_pure h
theorem wpAny_eqIsQuiet_map {k : MK} {a : Addr} {Q : Bool → Shared → Prop} (hk : IsMapKey knd s.heap k a) (h : Q true s) : wpAny (model prog w) A (eqIsQuiet 8 (.ref a)) Q E s := by
  have hT := hk.typeIs
  obtain ⟨o, u, b, n, ho, _, hd, h1, h2⟩ := hk
  unfold eqIsQuiet
  refine wpAny_bind (wpAny_specialOf hT F.slot_tuple_eq.lookup ?_)
  show wpAny _ _ (isInstance (.ref a) (.type "tuple") >>= _) _ _ s
  refine wpAny_bind (wpAny_isInstance hT isSubtype_tuple_tuple ?_)
  simp only [Bool.not_true, Bool.false_eq_true, if_false]
  refine wpAny_bind (wpAny_seqItems ho hd ?_)
  refine wpAny_bind ?_
  show wpAny _ _ (forIn (#[u, Value.ref b] : Array Value) _ _) _ _ s
  rw [← Array.forIn_toList]
  refine wpAny_forIn_list _ (fun rest r s' => r.1 = none ∧ s' = s ∧ ∀ v ∈ rest, v = u ∨ v = .ref b) _ ?_ ?_ _ _ ⟨rfl, rfl, fun v hv => by simpa using hv⟩
  · rintro v rest r s' ⟨hr, rfl, hall⟩
    have fin : ∀ v, (v = u ∨ v = .ref b) → ∀ {P : Bool → Shared → Prop}, P true s' → wpAny (model prog w) A (eqIsQuiet 7 v) P E s' := fun v hv P hp => by
      rcases hv with rfl | rfl
      · rw [eqIsQuiet_byValue _ (knd.byValue _ _ h1)]; exact wpAny_pure hp
      · exact wpAny_eqIsQuiet_tuple7 h2 hp
    refine wpAny_bind (fin v (hall v List.mem_cons_self) ?_)
    simp only [Bool.not_true, Bool.false_eq_true, if_false]
    exact wpAny_pure ⟨rfl, rfl, fun u hu' => hall u (List.mem_cons_of_mem _ hu')⟩
  · rintro ⟨r1, r2⟩ s' ⟨hr, rfl, _⟩
    simp only at hr
    subst hr
    exact wpAny_pure h
end
def mapKind {prog : Program} {w : World} (knd : KeyKind prog w Int) : HeapKind prog w MK where
  is := IsMapKey knd
  hash := mapKeyHash knd
  draws := fun k => k.2.length + 3
  room := fun A => A.units + 1 < cLine
  inj := fun hx hy => hx.inj hy
  keeps := fun x ho hd hs => x.keeps ho hd hs
  pyHash := fun hu hk h => wpAny_pyHash_map hu hk h
  eqBool := fun hu hx hy h => wpAny_eqBool_map hu hx hy h
  quiet := fun hk h => wpAny_eqIsQuiet_map hk h
end PySem
/-! dicts whose keys are maps (a number and a tuple of numbers) and whose values are tuples -/
namespace Cm
open PySem PySem.W L2 SX
abbrev MX := List (MK × Addr × Value)
abbrev mkd (P : Program) (w : World) : HeapKind P w MK := mapKind (intKind P w)
def mdO (P : Program) (w : World) (a : Addr) (o : Obj) (xs : MX) : HO := .ext fun h => xs.length ≤ sizeLine ∧ (a == sysModules) = false ∧ h.get? a = some o ∧ o.ExactDict ∧ ∃ es ep, o.data = .dict es ep ∧ es.toList = xs.map (entryOfKey (mkd P w)) ∧ (xs.map (·.1)).Nodup
/-- the tuple at b is the map k -/
def IsMK (K : Frag) (H : Hp) (k : MK) (b : Addr) : Prop := ∃ c, SqT K H b [.int k.1, .ref c] ∧ SqT K H c (k.2.map V.int)
theorem IsMK.mono {K : Frag} {H H' : Hp} {k : MK} {b : Addr} (h : IsMK K H k b) (t : TKs K H H') : IsMK K H' k b := let ⟨c, h1, h2⟩ := h; ⟨c, t _ _ h1, t _ _ h2⟩
theorem mdO_new {P : Program} {w : World} {h : Heap} {a : Addr} {xs : MX} (z : xs.length ≤ sizeLine) (hd : (a == sysModules) = false) (dd : h.DictOfH (mkd P w) a xs) : ∃ o, ∀ H, ObjOk P w H h a (mdO P w a o xs) := by
  obtain ⟨o, es, ep, h1, h2, h3, h4, _, h5⟩ := dd
  exact ⟨o, fun H => ⟨⟨z, hd, h1, h2, es, ep, h3, h4, h5⟩, ⟨o, h1⟩, fun _ _ ⟨a1, a2, g1, g⟩ k => ⟨a1, a2, k o g1, g⟩⟩⟩
section
variable {X : Cx} {pins : List (Addr × Obj)} {σ : L2.St} {H : Hp} {s : Shared} {a b : Addr} {xs : MX} {k : MK} {o : Obj} {A : Around} {E : Value → Shared → Prop}
theorem _root_.L2.Inv.isMK (I : Inv X pins σ H s) (h : IsMK X.K H k b) : (mkd X.prog X.w).is s.heap k b := by
  obtain ⟨c, h1, h2⟩ := h
  obtain ⟨its, r, ⟨o, ho, hc, n, hd⟩, _⟩ := I.tuple h1
  obtain ⟨its2, r2, ⟨o2, ho2, hc2, n2, hd2⟩, _⟩ := I.tuple h2
  cases r with
  | cons ra rr =>
    cases rr with
    | cons rb rr =>
      cases rr
      obtain ⟨tk, rfl⟩ := ra
      cases rb
      have ia : ∀ {ns : List Int} {us : List Value}, Vals (ns.map V.int) us → ItemsAre (intKind X.prog X.w) ns us := by
        intro ns
        induction ns with
        | nil => intro us r; cases r; exact .nil
        | cons n ns ih =>
          intro us r
          cases r with
          | cons r t => obtain ⟨tk, rfl⟩ := r; exact .cons (intKind_is X.prog X.w n tk) (ih t)
      exact ⟨o, _, c, n, ho, hc, hd, intKind_is X.prog X.w k.1 tk, o2, its2.toArray, n2, ho2, hc2, hd2, by simpa using ia r2⟩
theorem md_of (I : Inv X pins σ H s) (e : H a = some (mdO X.prog X.w a o xs)) (hk : ∀ x ∈ xs, IsMK X.K H x.1 x.2.1) : xs.length ≤ sizeLine ∧ (a == sysModules) = false ∧ s.heap.DictOfH (mkd X.prog X.w) a xs := by
  obtain ⟨⟨z, hd, h1, h2, es, ep, h3, h4, h5⟩, _⟩ := I.hok a _ e
  exact ⟨z, hd, o, es, ep, h1, h2, h3, h4, fun x hx => I.isMK (hk x hx), h5⟩
theorem md_getItem {p : Addr × Value} {Q : Value → Shared → Prop} (hu : A.units + 2 < cLine) (I : Inv X pins σ H s) (e : H a = some (mdO X.prog X.w a o xs)) (hk : ∀ x ∈ xs, IsMK X.K H x.1 x.2.1) (hb : IsMK X.K H k b) (l : atKey xs k = some p) (h : ∀ s', Inv X pins σ H s' → Q p.2 s') :
    wpAny (model X.prog X.w) A (getItem (.ref a) (.ref b)) Q E s := by
  obtain ⟨z, hd, dd⟩ := md_of I e hk
  exact wpAny_getItem_heap (by exact hu) (I.isMK hb) dd l (h _ (I.tok _))
theorem md_in {Q : Value → Shared → Prop} (hu : A.units + 2 < cLine) (I : Inv X pins σ H s) (e : H a = some (mdO X.prog X.w a o xs)) (hk : ∀ x ∈ xs, IsMK X.K H x.1 x.2.1) (hb : IsMK X.K H k b) (h : ∀ s', Inv X pins σ H s' → Q (.bool (atKey xs k).isSome) s') :
    wpAny (model X.prog X.w) A (compareOp .In (.ref b) (.ref a)) Q E s := by
  obtain ⟨z, hd, dd⟩ := md_of I e hk
  exact wpAny_in_heap (by exact hu) (I.isMK hb) hd dd (h _ (I.tok _))
theorem md_notIn {Q : Value → Shared → Prop} (hu : A.units + 2 < cLine) (I : Inv X pins σ H s) (e : H a = some (mdO X.prog X.w a o xs)) (hk : ∀ x ∈ xs, IsMK X.K H x.1 x.2.1) (hb : IsMK X.K H k b) (h : ∀ s', Inv X pins σ H s' → Q (.bool (!(atKey xs k).isSome)) s') :
    wpAny (model X.prog X.w) A (compareOp .NotIn (.ref b) (.ref a)) Q E s := by
  obtain ⟨z, hd, dd⟩ := md_of I e hk
  exact PyProof.Rows.wpAny_notIn_heap (by exact hu) (I.isMK hb) hd dd (h _ (I.tok _))
theorem md_get1 {Q : Value → Shared → Prop} (hu : A.units + 2 < cLine) (I : Inv X pins σ H s) (e : H a = some (mdO X.prog X.w a o xs)) (hk : ∀ x ∈ xs, IsMK X.K H x.1 x.2.1) (hb : IsMK X.K H k b) (h : ∀ s', Inv X pins σ H s' → Q (((atKey xs k).map (·.2)).getD .none) s') :
    wpAny (model X.prog X.w) A (call (.builtin "dict.get") [.ref a, .ref b]) Q E s := by
  obtain ⟨z, hd, dd⟩ := md_of I e hk
  exact call_meetsIn PySem.F.slot_dict_get dd.typeIs PySem.F.entry_dict_get (PySem.F.args_dict_get_2 _ _) (meetsH_dict_get (mkd X.prog X.w) a b hd) ⟨by exact hu, k, xs, I.isMK hb, dd, h _ (I.tok _)⟩
theorem md_set {c : Value} {Q : Unit → Shared → Prop} (hu : A.units + 2 < cLine) (I : Inv X pins σ H s) (e : H a = some (mdO X.prog X.w a o xs)) (hk : ∀ x ∈ xs, IsMK X.K H x.1 x.2.1) (hb : IsMK X.K H k b) (hl : xs.length < sizeLine) (h : ∀ o' s', Inv X pins σ (upd H a (mdO X.prog X.w a o' (storedH xs k b c))) s' → Q () s') :
    wpAny (model X.prog X.w) A (setItem (.ref a) (.ref b) c) Q E s := by
  obtain ⟨z, hd, dd⟩ := md_of I e hk
  refine wpAny_setItem_heap (hsz := z) (by exact hu) (I.isMK hb) dd fun h' dd' hs => ?_
  have lz : (storedH xs k b c).length ≤ sizeLine := by
    unfold storedH
    split
    · rw [List.length_map]; exact z
    · rw [List.length_append, List.length_singleton]; omega
  have he : ∃ q, h'.get? a = some q := let ⟨q, _, _, hq, _⟩ := dd'; ⟨q, hq⟩
  obtain ⟨o', ok⟩ := mdO_new lz hd dd'
  exact h o' _ (d_write I (by rw [e]; exact True.intro) hs he (ok _))
theorem md_type (I : Inv X pins σ H s) (e : H a = some (mdO X.prog X.w a o xs)) : s.TypeIs (.ref a) "dict" ∧ (∀ b, Value.ref a = .ref b → ∃ ob, s.heap.get? b = some ob ∧ ob.dict = none) := by
  obtain ⟨⟨z, hd, h1, h2, _⟩, _⟩ := I.hok a _ e
  exact ⟨⟨o, h1, h2.1⟩, fun b q => by cases q; exact ⟨o, h1, h2.2.1⟩⟩
end
end Cm
/-! over data: dicts whose keys are maps (a number and a tuple of numbers) and whose values are tuples -/
namespace DD
open PySem PySem.W L2 SX Cm
def mkD (k : MK) : DV := .tup [.int k.1, .tup (k.2.map .int)]
inductive MRV (K : Frag) (H : Hp) : MX → List (MK × DV) → Prop
  | nil : MRV K H [] []
  | cons {k : MK} {b c : Addr} {d : DV} {xs : MX} {kvs : List (MK × DV)} : IsMK K H k b → RV K H (.ref c) d → MRV K H xs kvs → MRV K H ((k, b, .ref c) :: xs) ((k, d) :: kvs)
section
variable {K : Frag} {H H' : Hp} {xs : MX} {kvs : List (MK × DV)}
theorem MRV.mono (t : TKs K H H') (h : MRV K H xs kvs) : MRV K H' xs kvs := by
  induction h with
  | nil => exact .nil
  | cons h r _ ih => exact .cons (h.mono t) (r.mono t) ih
theorem MRV.keys (h : MRV K H xs kvs) : ∀ x ∈ xs, IsMK K H x.1 x.2.1 := by
  induction h with
  | nil => intro x hx; cases hx
  | cons h r _ ih =>
    intro x hx
    rcases List.mem_cons.mp hx with e | hx
    · rw [e]; exact h
    · exact ih x hx
theorem MRV.len (h : MRV K H xs kvs) : xs.length = kvs.length := by
  induction h with
  | nil => rfl
  | cons _ _ _ ih => rw [List.length_cons, List.length_cons, ih]
theorem MRV.names (h : MRV K H xs kvs) : xs.map (·.1) = kvs.map (·.1) := by
  induction h with
  | nil => rfl
  | cons _ _ _ ih => rw [List.map_cons, List.map_cons, ih]
theorem MRV.app {xs' : MX} {kvs' : List (MK × DV)} (h : MRV K H xs kvs) (g : MRV K H xs' kvs') : MRV K H (xs ++ xs') (kvs ++ kvs') := by
  induction h with
  | nil => exact g
  | cons a b _ ih => exact .cons a b ih
end
def valM (kvs : List (MK × DV)) (k : MK) : Option DV := (kvs.find? fun kv => decide (kv.1 = k)).map (·.2)
def putM (kvs : List (MK × DV)) (k : MK) (d : DV) : List (MK × DV) := if (valM kvs k).isSome = true then kvs.map (fun kv => if kv.1 = k then (kv.1, d) else kv) else kvs ++ [(k, d)]
section
variable {K : Frag} {H H' : Hp} {xs : MX} {kvs : List (MK × DV)} {k : MK}
theorem MRV.val (h : MRV K H xs kvs) (k : MK) : (atKey xs k = none ∧ valM kvs k = none) ∨ ∃ b c d, atKey xs k = some (b, .ref c) ∧ valM kvs k = some d ∧ RV K H (.ref c) d := by
  induction h with
  | nil => exact .inl ⟨rfl, rfl⟩
  | @cons k' b c d xs kvs h r t ih =>
    by_cases e : k' = k
    · refine .inr ⟨b, c, d, ?_, ?_, r⟩
      · unfold atKey; rw [List.find?_cons, decide_eq_true e]; rfl
      · unfold valM; rw [List.find?_cons, decide_eq_true e]; rfl
    · have e1 : atKey ((k', b, .ref c) :: xs) k = atKey xs k := by unfold atKey; rw [List.find?_cons, decide_eq_false e]
      have e2 : valM ((k', d) :: kvs) k = valM kvs k := by unfold valM; rw [List.find?_cons, decide_eq_false e]
      rw [e1, e2]; exact ih
theorem MRV.some (h : MRV K H xs kvs) (k : MK) : (atKey xs k).isSome = (valM kvs k).isSome := by
  rcases h.val k with ⟨a, b⟩ | ⟨_, _, _, a, b, _⟩ <;> rw [a, b] <;> rfl
theorem MRV.map {c : Addr} {d : DV} (r : RV K H (.ref c) d) (h : MRV K H xs kvs) : MRV K H (xs.map (putAt k (.ref c))) (kvs.map fun kv => if kv.1 = k then (kv.1, d) else kv) := by
  induction h with
  | nil => exact .nil
  | @cons k' b c' d' xs kvs a b' _ ih =>
    rw [List.map_cons, List.map_cons]
    unfold putAt
    by_cases e : k' = k
    · rw [if_pos e, if_pos e]; exact .cons a r ih
    · rw [if_neg e, if_neg e]; exact .cons a b' ih
theorem MRV.put {b c : Addr} {d : DV} (hb : IsMK K H k b) (r : RV K H (.ref c) d) (h : MRV K H xs kvs) : MRV K H (storedH xs k b (.ref c)) (putM kvs k d) := by
  unfold storedH putM
  rw [h.some k]
  split
  · exact h.map r
  · exact h.app (.cons hb r .nil)
theorem RV.mk {v : V} (h : RV K H v (mkD k)) : ∃ b, v = .ref b ∧ IsMK K H k b := by
  obtain ⟨b, ys, e, hs, r⟩ := RV.tupD h
  cases r with
  | cons r1 r2 =>
    cases r2 with
    | cons r2 r3 =>
      cases r3
      cases r1
      obtain ⟨c, zs, e2, hs2, r3⟩ := RV.tupD r2
      subst e2
      have ei : ∀ {ns : List Int} {xs : List V}, RVs K H xs (ns.map .int) → xs = ns.map V.int := by
        intro ns
        induction ns with
        | nil => intro xs r; cases r; rfl
        | cons n ns ih =>
          intro xs r
          cases r with
          | cons r t => cases r; rw [ih t]; rfl
      rw [ei r3] at hs2
      exact ⟨b, e, c, hs, hs2⟩
theorem IsMK.rv {b : Addr} (h : IsMK K H k b) : RV K H (.ref b) (mkD k) := let ⟨c, h1, h2⟩ := h; .tup h1 (.cons (.int _) (.cons (.tup h2 (RVs.ints _)) .nil))
end
/-- a dict with maps as keys -/
def mdG (P : Program) (w : World) (ob : Obj) (kvs : List (MK × DV)) : DO := .gen fun K H a => ∃ xs : MX, H a = some (mdO P w a ob xs) ∧ MRV K H xs kvs
theorem or_md {P : Program} {w : World} {K : Frag} {H : Hp} {O : Addr → Option Addr} {a : Addr} {xs : MX} {ob : Obj} {kvs : List (MK × DV)} (e : H a = some (mdO P w a ob xs)) (r : MRV K H xs kvs) : OR K H O a (mdG P w ob kvs) := ⟨⟨_, e⟩, ⟨xs, e, r⟩, fun H1 H2 t k ⟨xs, h, r⟩ => ⟨xs, k.trans h, r.mono t⟩⟩
theorem wd_md {P : Program} {w : World} {K : Frag} {H : Hp} {G : DG} {a : Addr} {ob : Obj} {kvs : List (MK × DV)} (wd : Wd K H G) (e : G a = some (mdG P w ob kvs)) : ∃ xs, H a = some (mdO P w a ob xs) ∧ MRV K H xs kvs := by
  obtain ⟨O, wo⟩ := wd
  exact (wo.ob a _ e).2.1
theorem tks_md {P : Program} {w : World} {K : Frag} {H : Hp} {d : Addr} {ob : Obj} {xs : MX} {u : HO} (h : H d = some (mdO P w d ob xs)) : TKs K H (upd H d u) := fun a zs e => by
  have no : ∀ {o : HO}, H a = some o → (∀ φ, o ≠ .ext φ) → a ≠ d := fun {o} ho n z => by
    rw [z, h] at ho
    exact n _ (Option.some.inj ho).symm
  rcases e with (e | ⟨o, e⟩) | e
  · exact .inl (.inl (by rw [upd_ne (no e fun φ z => by cases z)]; exact e))
  · exact .inl (.inr ⟨o, by rw [upd_ne (no e fun φ z => by cases z)]; exact e⟩)
  · exact .inr e
section
variable {X : Cx} {o i e value : Expr} {pos pos' apos cpos : Pos} {td ti tv : TD}
theorem hu2_of {k : Nat} {A : Around} (h : Room k A) : A.units + 2 < cLine := by have := h.units; omega
/-- d[k] -/
def dMGet (P : Program) (w : World) (td ti : TD) : TD := fun δ G Q => td δ G fun x G1 => ti δ G1 fun y G2 => ∃ p ob kvs k v, x = .ref p ∧ y = mkD k ∧ G2 p = some (mdG P w ob kvs) ∧ valM kvs k = some v ∧ Q v G2
theorem de_mget (hu : X.A.units + 2 < cLine) (ho : DE X o td) (hi : DE X i ti) (hs : NoSl i := by rfl) : DE X (.Subscript o i pos) (dMGet X.prog X.w td ti) := by
  refine ⟨fun pins s σ H Q I ⟨δ, G, R, sl, w, h, f⟩ => ?_⟩
  refine subD_of PySem.F.slot_dict_getitem.lookup hs (thn (ho.run pins s σ H (fun x H1 => ∃ x' G1, RV X.K H1 x x' ∧ Wd X.K H1 G1 ∧ TKs X.K H H1 ∧ ti δ G1 fun y G2 => ∃ p ob kvs k v, x' = .ref p ∧ y = mkD k ∧ G2 p = some (mdG X.prog X.w ob kvs) ∧ valM kvs k = some v ∧ R v G2) I ⟨δ, G, _, sl, w, h, fun d G1 v H1 h1 t1 w1 r1 => ⟨d, G1, r1, w1, t1, h1⟩⟩) fun u s1 ⟨x, H1, I1, rx, x', G1, rx', w1, t1, h1⟩ => thn (hi.run pins s1 σ H1 (fun y H2 => ∃ y' G2, RV X.K H2 y y' ∧ Wd X.K H2 G2 ∧ TKs X.K H1 H2 ∧ ∃ p ob kvs k v, x' = .ref p ∧ y' = mkD k ∧ G2 p = some (mdG X.prog X.w ob kvs) ∧ valM kvs k = some v ∧ R v G2) I1 ⟨δ, G1, _, sl.mono t1, w1, h1, fun d G2 v H2 h2 t2 w2 r2 => ⟨d, G2, r2, w2, t2, h2⟩⟩) fun iv s2 ⟨y, H2, I2, ry, y', G2, ry', w2, t2, p, ob, kvs, k, v, ex, ey, eG, ev, q⟩ => ?_)
  subst ex ey
  cases rx'
  obtain rfl : u = Value.ref p := rx
  obtain ⟨b, eb, hb⟩ := RV.mk ry'
  subst eb
  obtain rfl : iv = Value.ref b := ry
  obtain ⟨xs, hx, mr⟩ := wd_md w2 eG
  rcases mr.val k with ⟨_, e2⟩ | ⟨b', c, d', e1, e2, rv⟩
  · rw [ev] at e2; cases e2
  · rw [ev] at e2
    cases e2
    exact ⟨(md_type I2 hx).1, md_getItem hu I2 hx mr.keys hb e1 fun s3 I3 => ⟨.ref c, H2, I3, rfl, f _ _ _ _ q (t1.trans t2) w2 rv⟩⟩
/-- k in d, k not in d -/
def dMIn (P : Program) (w : World) (n : Bool) (ti td : TD) : TD := fun δ G Q => ti δ G fun y G1 => td δ G1 fun x G2 => ∃ p ob kvs k, x = .ref p ∧ y = mkD k ∧ G2 p = some (mdG P w ob kvs) ∧ Q (.bl (ng n (valM kvs k).isSome)) G2
theorem pc_min (hu : X.A.units + 2 < cLine) (hi : DE X i ti) (ho : DE X o td) : PC X .In i o (up X.K (dMIn X.prog X.w false ti td)) ∧ PC X .NotIn i o (up X.K (dMIn X.prog X.w true ti td)) := by
  have key : ∀ (op : CmpOp) (n : Bool), (op = .In ∧ n = false ∨ op = .NotIn ∧ n = true) → PC X op i o (up X.K (dMIn X.prog X.w n ti td)) := by
    intro op n hop
    refine ⟨fun pins s σ H Q I ⟨δ, G, R, sl, w, h, f⟩ => ?_⟩
    refine thn (hi.run pins s σ H (fun y H1 => ∃ y' G1, RV X.K H1 y y' ∧ Wd X.K H1 G1 ∧ TKs X.K H H1 ∧ td δ G1 fun x G2 => ∃ p ob kvs k, x = .ref p ∧ y' = mkD k ∧ G2 p = some (mdG X.prog X.w ob kvs) ∧ R (.bl (ng n (valM kvs k).isSome)) G2) I ⟨δ, G, _, sl, w, h, fun d G1 v H1 h1 t1 w1 r1 => ⟨d, G1, r1, w1, t1, h1⟩⟩) fun iv s1 ⟨y, H1, I1, ry, y', G1, ry', w1, t1, h1⟩ => thn (ho.run pins s1 σ H1 (fun x H2 => ∃ x' G2, RV X.K H2 x x' ∧ Wd X.K H2 G2 ∧ TKs X.K H1 H2 ∧ ∃ p ob kvs k, x' = .ref p ∧ y' = mkD k ∧ G2 p = some (mdG X.prog X.w ob kvs) ∧ R (.bl (ng n (valM kvs k).isSome)) G2) I1 ⟨δ, G1, _, sl.mono t1, w1, h1, fun d G2 v H2 h2 t2 w2 r2 => ⟨d, G2, r2, w2, t2, h2⟩⟩) fun u s2 ⟨x, H2, I2, rx, x', G2, rx', w2, t2, p, ob, kvs, k, ex, ey, eG, q⟩ => ?_
    subst ex ey
    cases rx'
    obtain rfl : u = Value.ref p := rx
    obtain ⟨b, eb, hb⟩ := RV.mk (ry'.mono t2)
    subst eb
    obtain rfl : iv = Value.ref b := ry
    obtain ⟨xs, hx, mr⟩ := wd_md w2 eG
    have es := mr.some k
    rcases hop with ⟨rfl, rfl⟩ | ⟨rfl, rfl⟩
    · exact md_in hu I2 hx mr.keys hb fun s3 I3 => ⟨.bl _, H2, I3, rfl, by rw [es]; exact f _ _ _ _ q (t1.trans t2) w2 (.bl _)⟩
    · exact md_notIn hu I2 hx mr.keys hb fun s3 I3 => ⟨.bl _, H2, I3, rfl, by rw [es]; exact f _ _ _ _ q (t1.trans t2) w2 (.bl _)⟩
  exact ⟨key _ _ (.inl ⟨rfl, rfl⟩), key _ _ (.inr ⟨rfl, rfl⟩)⟩
theorem dt_min (hu : X.A.units + 2 < cLine) (hi : DE X i ti) (ho : DE X o td) (hb : behindInMarks .In o = false := by rfl) : DT X (.Compare i [.In] [o] pos) (dTest (dMIn X.prog X.w false ti td)) :=
  PT_mono (pt_cmp (pc_min hu hi ho).1 hb) fun σ H Q h => test_up h
theorem dt_mnotin (hu : X.A.units + 2 < cLine) (hi : DE X i ti) (ho : DE X o td) (hb : behindInMarks .NotIn o = false := by rfl) : DT X (.Compare i [.NotIn] [o] pos) (dTest (dMIn X.prog X.w true ti td)) :=
  PT_mono (pt_cmp (pc_min hu hi ho).2 hb) fun σ H Q h => test_up h
/-- d.get(k) -/
def dMGet1 (P : Program) (w : World) (td ti : TD) : TD := fun δ G Q => td δ G fun x G1 => ∃ p, x = .ref p ∧ (∃ ob kvs, G1 p = some (mdG P w ob kvs)) ∧ ti δ G1 fun y G2 => ∃ ob kvs k, y = mkD k ∧ G2 p = some (mdG P w ob kvs) ∧ Q ((valM kvs k).getD .non) G2
theorem de_mget1 (hu : X.A.units + 2 < cLine) (ho : DE X o td) (he : DE X e ti) (m : M1 X o "get" apos e cpos := by exact ⟨rfl, rfl, rfl, rfl⟩) : DE X (.Call (.Attribute o "get" apos) [e] [] cpos) (dMGet1 X.prog X.w td ti) := by
  refine ⟨fun pins s σ H Q I ⟨δ, G, R, sl, w, h, f⟩ => ?_⟩
  refine wpAny_Call_method m.base m.few m.line PySem.F.plainAttrs_dict PySem.F.slot_dict_get PySem.F.type_dict_get (thn (ho.run pins s σ H (fun x H1 => ∃ x' G1, RV X.K H1 x x' ∧ Wd X.K H1 G1 ∧ TKs X.K H H1 ∧ ∃ p, x' = .ref p ∧ (∃ ob kvs, G1 p = some (mdG X.prog X.w ob kvs)) ∧ ti δ G1 fun y G2 => ∃ ob kvs k, y = mkD k ∧ G2 p = some (mdG X.prog X.w ob kvs) ∧ R ((valM kvs k).getD .non) G2) I ⟨δ, G, _, sl, w, h, fun d G1 v H1 h1 t1 w1 r1 => ⟨d, G1, r1, w1, t1, h1⟩⟩) fun u s1 ⟨x, H1, I1, rx, x', G1, rx', w1, t1, p, ex, ⟨ob1, kvs1, eG1⟩, h1⟩ => ?_)
  subst ex
  cases rx'
  obtain rfl : u = Value.ref p := rx
  obtain ⟨xs1, hx1, _⟩ := wd_md w1 eG1
  obtain ⟨y1, y2⟩ := md_type I1 hx1
  refine ⟨y1, y2, ?_⟩
  rw [m.trees]
  refine Calls.callWith_builtin rfl (Calls.evalArgs_plain (Calls.spliced_cons (thn (he.run pins s1 σ H1 (fun y H2 => ∃ y' G2, RV X.K H2 y y' ∧ Wd X.K H2 G2 ∧ TKs X.K H1 H2 ∧ ∃ ob kvs k, y' = mkD k ∧ G2 p = some (mdG X.prog X.w ob kvs) ∧ R ((valM kvs k).getD .non) G2) I1 ⟨δ, G1, _, sl.mono t1, w1, h1, fun d G2 v H2 h2 t2 w2 r2 => ⟨d, G2, r2, w2, t2, h2⟩⟩) fun iv s2 ⟨y, H2, I2, ry, y', G2, ry', w2, t2, ob, kvs, k, ey, eG, q⟩ => Calls.spliced_nil ?_)))
  subst ey
  obtain ⟨b, eb, hb⟩ := RV.mk ry'
  subst eb
  obtain rfl : iv = Value.ref b := ry
  obtain ⟨xs, hx, mr⟩ := wd_md w2 eG
  refine md_get1 hu I2 hx mr.keys hb fun s3 I3 => ?_
  rcases mr.val k with ⟨e1, e2⟩ | ⟨b', c, d', e1, e2, rv⟩
  · rw [e2] at q
    rw [e1]
    exact ⟨.non, H2, I3, rfl, f _ _ _ _ q (t1.trans t2) w2 .non⟩
  · rw [e2] at q
    rw [e1]
    exact ⟨.ref c, H2, I3, rfl, f _ _ _ _ q (t1.trans t2) w2 rv⟩
/-- d[k] = v -/
def dMPut (P : Program) (w : World) (td ti tv : TD) : TDS := fun D δ G => tv δ G fun v G1 => td δ G1 fun x G2 => ti δ G2 fun y G3 => ∃ p ob kvs k ds, x = .ref p ∧ y = mkD k ∧ v = .tup ds ∧ G3 p = some (mdG P w ob kvs) ∧ kvs.length < sizeLine ∧ ∀ ob', D.nx δ (dupd G3 p (mdG P w ob' (putM kvs k v)))
theorem ds_mput (hu : X.A.units + 2 < cLine) (ho : DE X o td) (hi : DE X i ti) (hv : DE X value tv) (hs : swapsWith value (some (.Subscript o i pos')) pos.line X.env = pure false := by rfl) : DS X (.Assign [.Subscript o i pos'] value pos) (dMPut X.prog X.w td ti tv) := by
  refine ⟨fun pins s σ H D I ⟨D', δ, G, sl, w, l, h⟩ => ?_⟩
  refine wpAny_Assign_Subscript (thn (hv.run pins s σ H (fun v H1 => ∃ v' G1, RV X.K H1 v v' ∧ Wd X.K H1 G1 ∧ TKs X.K H H1 ∧ td δ G1 fun x G2 => ti δ G2 fun y G3 => ∃ p ob kvs k ds, x = .ref p ∧ y = mkD k ∧ v' = .tup ds ∧ G3 p = some (mdG X.prog X.w ob kvs) ∧ kvs.length < sizeLine ∧ ∀ ob', D'.nx δ (dupd G3 p (mdG X.prog X.w ob' (putM kvs k v')))) I ⟨δ, G, _, sl, w, h, fun d G1 v H1 h1 t1 w1 r1 => ⟨d, G1, r1, w1, t1, h1⟩⟩) fun r s1 ⟨v, H1, I1, rv, v', G1, rv', w1, t1, h1⟩ => thn (ho.run pins s1 σ H1 (fun x H2 => ∃ x' G2, RV X.K H2 x x' ∧ Wd X.K H2 G2 ∧ TKs X.K H1 H2 ∧ ti δ G2 fun y G3 => ∃ p ob kvs k ds, x' = .ref p ∧ y = mkD k ∧ v' = .tup ds ∧ G3 p = some (mdG X.prog X.w ob kvs) ∧ kvs.length < sizeLine ∧ ∀ ob', D'.nx δ (dupd G3 p (mdG X.prog X.w ob' (putM kvs k v')))) I1 ⟨δ, G1, _, sl.mono t1, w1, h1, fun d G2 v H2 h2 t2 w2 r2 => ⟨d, G2, r2, w2, t2, h2⟩⟩) fun u s2 ⟨x, H2, I2, rx, x', G2, rx', w2, t2, h2⟩ => thn (hi.run pins s2 σ H2 (fun y H3 => ∃ y' G3, RV X.K H3 y y' ∧ Wd X.K H3 G3 ∧ TKs X.K H2 H3 ∧ ∃ p ob kvs k ds, x' = .ref p ∧ y' = mkD k ∧ v' = .tup ds ∧ G3 p = some (mdG X.prog X.w ob kvs) ∧ kvs.length < sizeLine ∧ ∀ ob', D'.nx δ (dupd G3 p (mdG X.prog X.w ob' (putM kvs k v')))) I2 ⟨δ, G2, _, sl.mono (t1.trans t2), w2, h2, fun d G3 v H3 h3 t3 w3 r3 => ⟨d, G3, r3, w3, t3, h3⟩⟩) fun iv s3 ⟨y, H3, I3, ry, y', G3, ry', w3, t3, p, ob, kvs, k, ds, ex, ey, ev, eG, hl, q⟩ => ?_) hs
  subst ex ey ev
  cases rx'
  obtain rfl : u = Value.ref p := rx
  obtain ⟨b, eb, hb⟩ := RV.mk ry'
  subst eb
  obtain rfl : iv = Value.ref b := ry
  obtain ⟨c, ys, ec, hs', rr⟩ := RV.tupD rv'
  subst ec
  obtain rfl : r = Value.ref c := rv
  obtain ⟨xs, hx, mr⟩ := wd_md w3 eG
  have t13 := (t1.trans t2).trans t3
  refine md_set hu I3 hx mr.keys hb (by rw [mr.len]; exact hl) fun ob' s4 I4 => ⟨σ, _, I4, ?_⟩
  have t4 : TKs X.K H3 (upd H3 p (mdO X.prog X.w p ob' (storedH xs k b (.ref c)))) := tks_md hx
  have r4 := rv'.mono (t2.trans t3)
  exact l.nx _ _ _ _ (q ob') (t13.trans t4) (w3.put ⟨_, eG, fun L φ z => by cases z⟩ t4 fun O => or_md upd_same ((mr.put hb r4).mono t4)) (sl.mono (t13.trans t4))
end
end DD
/-! a tuple's method: how often a number stands in a tuple that was made -/
namespace DD
open PySem PySem.W L2 SX Cm
section
variable {X : Cx}
def dBMT (b : DM) (to : TD) (t : TDA) : TD := fun δ G Q => to δ G fun x G1 => (∃ p ds, x = .ref p ∧ G1 p = some (.ptp ds)) ∧ t δ G1 fun ds G2 => b x ds G2 Q
variable {o e : Expr} {es : List Expr} {to : TD} {t : TDA} {name : Str} {apos cpos : Pos} {id : String} {b : DM}
theorem de_bmT (slot : Slot "tuple" name id) (hty : typeOf (.builtin id) = pure (.type "method_descriptor")) (hm : MtD X id b) (ho : DE X o to) (ha : DA X (e :: es) t)
    (hbase : attributeBase o name X.env (eval o X.env) = eval o X.env := by rfl)
    (hfew : ((backTo cpos (starEach (e :: es) X.env)).all (fun x => !x.1) && (backToKw cpos (keywordEach [] X.env)).all (fun x => x.1.isSome)
      && decide ((e :: es).length + ([] : List Keyword).length + (if ([] : List Keyword).isEmpty then 0 else 1) < 30)) = true := by rfl)
    (hline : (apos.endLine == cpos.line) = true := by rfl) (hs : starEach (e :: es) X.env = (false, eval e X.env) :: starEach es X.env := by rfl) (hplain : (backTo cpos (starEach es X.env)).any (·.1) = false := by rfl) :
    DE X (.Call (.Attribute o name apos) (e :: es) [] cpos) (dBMT b to t) := by
  obtain ⟨r, hr, ok⟩ := hm
  refine PE_mono (pe_bmT slot hty hr ho ha hbase hfew hline hs hplain) fun σ H Q ⟨δ, G, R, sl, w, q, f⟩ => ⟨δ, G, _, sl, w, q, fun x G1 vx H1 h1 t1 w1 r1 => ⟨?_, δ, G1, _, sl.mono t1, w1, h1.2, fun ds G2 vs H2 h2 t2 w2 r2 => ?_⟩⟩
  · obtain ⟨⟨p, ds, rfl, e⟩, _⟩ := h1
    cases r1
    obtain ⟨o, xs, hd, hp, _⟩ := wd_ptp w1 e
    exact ⟨p, xs, rfl, o, hd, hp⟩
  · exact ok x ds vx vs H2 G2 R Q (r1.mono t2) r2 w2 h2 (f.step (t1.trans t2))
theorem rvs_ints {K : Frag} {H : Hp} : ∀ {is : List Int} {xs : List V}, RVs K H xs (is.map .int) → xs = is.map V.int
  | [], _, h => by cases h; rfl
  | i :: r, _, h => by
    cases h with
    | cons a b =>
      cases a
      rw [rvs_ints b]; rfl
def bCntT : DM := fun x ds G Q => ∃ (p : Addr) (is : List Int) (k : Int), x = .ref p ∧ ds = [.int k] ∧ G p = some (.ptp (is.map .int)) ∧ Q (.int ((is.count k : Nat) : Int)) G
theorem md_cntT : MtD X "tuple.count" bCntT := by
  refine ⟨_, mt_tcount, fun x ds vx vs H G R Q rx rs w h f => ?_⟩
  obtain ⟨p, is, k, rfl, rfl, e, q⟩ := h
  cases rx
  cases rs with
  | cons ry rt =>
    cases rt
    cases ry
    obtain ⟨o, xs, hd, hp, r⟩ := wd_ptp w e
    rw [rvs_ints r] at hp
    exact ⟨p, is, k, rfl, rfl, .inl (.inr ⟨o, hp⟩), f _ _ _ _ q (TKs.refl H) w (.int _)⟩
theorem w_tcnt {δ : DSt} {G : DG} {Q : DK} {i j : Nat} {p : Addr} {is : List Int} {k : Int} (ei : δ[i]? = some (some (.ref p))) (ej : δ[j]? = some (some (.int k))) (e : G p = some (.ptp (is.map .int)))
    (h : Q (.int ((is.count k : Nat) : Int)) G) : dBMT bCntT (dVar i) (dCons (dVar j) dNil) δ G Q :=
  ⟨_, ei, ⟨p, _, rfl, e⟩, _, ej, p, is, k, rfl, rfl, e, h⟩
end
end DD
/-! rows with one least map stay so behind a word more -/
namespace Cm
open PySem PySem.W L2 SX
/-- a state's picks -/
def pks (s : Nat × List Int) : List Int := s.2.map fun t => (s.1 : Int) - 1 - t
/-- the state with k things more from beneath -/
def ext (k : Nat) (s : Nat × List Int) : Nat × List Int := (s.1 + k, up s.1 k s.2)
def Okk (s : Nat × List Int) : Prop := ∀ t ∈ s.2, 0 ≤ t ∧ t < s.1
def extP (k : Nat) (ps : List Int) : List Int := ((List.range k).map fun j : Nat => (j : Int)) ++ ps.map fun p => p + (k : Int)
theorem pks_up (n : Nat) (ts : List Int) : ∀ k, (up n k ts).map (fun t => ((n + k : Nat) : Int) - 1 - t) = extP k (ts.map fun t => (n : Int) - 1 - t)
  | 0 => by
    show ts.map _ = [] ++ (ts.map _).map _
    rw [List.nil_append, List.map_map]
    exact List.map_congr_left fun t _ => by show ((n + 0 : Nat) : Int) - 1 - t = (n : Int) - 1 - t + ((0 : Nat) : Int); omega
  | k + 1 => by
    have ih := pks_up n ts k
    have e : (up n k ts).map (fun t => ((n + (k + 1) : Nat) : Int) - 1 - t) = ((up n k ts).map fun t => ((n + k : Nat) : Int) - 1 - t).map (fun p => p + 1) := by
      rw [List.map_map]
      exact List.map_congr_left fun t _ => by show ((n + (k + 1) : Nat) : Int) - 1 - t = ((n + k : Nat) : Int) - 1 - t + 1; omega
    show (((n + (k + 1) : Nat) : Int) - 1 - ((n + k : Nat) : Int)) :: (up n k ts).map _ = _
    rw [e, ih]
    unfold extP
    rw [List.range_succ_eq_map, List.map_cons, List.map_append, List.map_map, List.map_map, List.map_map, List.map_map, List.cons_append]
    refine congr (congrArg List.cons (by show ((n + (k + 1) : Nat) : Int) - 1 - ((n + k : Nat) : Int) = ((0 : Nat) : Int); omega)) (congr (congrArg HAppend.hAppend ?_) ?_)
    · exact List.map_congr_left fun j _ => rfl
    · rw [List.map_map]
      exact List.map_congr_left fun t _ => by show (n : Int) - 1 - t + (k : Int) + 1 = (n : Int) - 1 - t + ((k + 1 : Nat) : Int); omega
theorem pks_ext (k : Nat) (s : Nat × List Int) : pks (ext k s) = extP k (pks s) := pks_up s.1 s.2 k
theorem extP_low {k j : Nat} (ps : List Int) (h : j < k) : (extP k ps)[j]? = some (j : Int) := by
  unfold extP
  rw [List.getElem?_append_left (by rw [List.length_map, List.length_range]; exact h), List.getElem?_map, List.getElem?_range h]; rfl
theorem extP_high (k c : Nat) (ps : List Int) : (extP k ps)[k + c]? = ps[c]?.map fun p => p + (k : Int) := by
  unfold extP
  rw [List.getElem?_append_right (by rw [List.length_map, List.length_range]; omega), List.length_map, List.length_range, Nat.add_sub_cancel_left, List.getElem?_map]
theorem extP_drop (k c : Nat) (ps : List Int) : (extP k ps).drop (k + c) = (ps.drop c).map fun p => p + (k : Int) := by
  unfold extP
  rw [List.drop_append, List.length_map, List.length_range, Nat.add_sub_cancel_left, List.map_drop]
  rw [List.drop_eq_nil_of_le (by rw [List.length_map, List.length_range]; omega), List.nil_append]
theorem stays_low {k j : Nat} {ps : List Int} (h0 : ∀ p ∈ ps, 0 ≤ p) (h : j < k) : Stays (extP k ps) j := by
  refine ⟨extP_low ps h, fun m => ?_⟩
  obtain ⟨i, hi⟩ := List.mem_iff_getElem?.mp m
  rw [List.getElem?_drop] at hi
  by_cases hk : j + 1 + i < k
  · rw [extP_low ps hk] at hi
    have := Option.some.inj hi
    omega
  · obtain ⟨c, hc⟩ : ∃ c, j + 1 + i = k + c := ⟨j + 1 + i - k, by omega⟩
    rw [hc, extP_high] at hi
    obtain ⟨p, hp, e⟩ := Option.map_eq_some_iff.mp hi
    have := h0 p (List.mem_of_getElem? hp)
    omega
theorem stays_high {k c : Nat} {ps : List Int} : Stays (extP k ps) (k + c) ↔ Stays ps c := by
  have mm : ((k + c : Nat) : Int) ∈ (extP k ps).drop (k + c + 1) ↔ (c : Int) ∈ ps.drop (c + 1) := by
    rw [Nat.add_assoc, extP_drop]
    constructor
    · intro m
      obtain ⟨p, hp, e⟩ := List.mem_map.mp m
      obtain rfl : p = (c : Int) := by omega
      exact hp
    · intro m
      exact List.mem_map.mpr ⟨_, m, by omega⟩
  have gg : (extP k ps)[k + c]? = some ((k + c : Nat) : Int) ↔ ps[c]? = some (c : Int) := by
    rw [extP_high]
    constructor
    · intro h
      obtain ⟨p, hp, e⟩ := Option.map_eq_some_iff.mp h
      obtain rfl : p = (c : Int) := by omega
      exact hp
    · intro h
      rw [h]
      exact congrArg some (by show (c : Int) + (k : Int) = _; omega)
  exact ⟨fun ⟨a, b⟩ => ⟨gg.mp a, fun m => b (mm.mpr m)⟩, fun ⟨a, b⟩ => ⟨gg.mpr a, fun m => b (mm.mp m)⟩⟩
theorem cut_of_ext {k c : Nat} {ps : List Int} (h0 : ∀ p ∈ ps, 0 ≤ p) (h : IsCut ps c) : IsCut (extP k ps) (k + c) := by
  refine ⟨fun j hj => ?_, fun s => h.2 (stays_high.mp s)⟩
  by_cases hk : j < k
  · exact stays_low h0 hk
  · obtain ⟨d, rfl⟩ : ∃ d, j = k + d := ⟨j - k, by omega⟩
    exact stays_high.mpr (h.1 d (by omega))
theorem cutM_ext (k c : Nat) (ps : List Int) : cutM (k + c) (extP k ps) = cutM c ps := by
  unfold cutM
  rw [extP_drop, List.map_map]
  exact List.map_congr_left fun p _ => by show p + (k : Int) - ((k + c : Nat) : Int) = p - (c : Int); omega
theorem okk_pks {s : Nat × List Int} (h : Okk s) : ∀ p ∈ pks s, 0 ≤ p ∧ p < s.1 := by
  intro p hp
  obtain ⟨t, ht, rfl⟩ := List.mem_map.mp hp
  have := h t ht
  show 0 ≤ (s.1 : Int) - 1 - t ∧ (s.1 : Int) - 1 - t < s.1
  omega
theorem pks_inj {s t : Nat × List Int} (h1 : s.1 = t.1) (h : pks s = pks t) : s = t := by
  obtain ⟨n, a⟩ := s
  obtain ⟨m, b⟩ := t
  obtain rfl : n = m := h1
  have := congrArg (List.map fun p : Int => (n : Int) - 1 - p) h
  unfold pks at this
  rw [List.map_map, List.map_map] at this
  have e : ∀ l : List Int, l.map ((fun p : Int => (n : Int) - 1 - p) ∘ fun t => (n : Int) - 1 - t) = l := fun l => by
    refine (List.map_congr_left (g := id) fun t _ => ?_).trans (List.map_id l)
    show (n : Int) - 1 - ((n : Int) - 1 - t) = t
    omega
  rw [e, e] at this
  exact Prod.ext rfl this
/-- a state is one without what may be cut, with so many things more -/
theorem core_of {s : Nat × List Int} (h : Okk s) {c : Nat} (hc : IsCut (pks s) c) : ∃ s0, s = ext c s0 ∧ Okk s0 ∧ pks s0 = cutM c (pks s) ∧ s.1 = s0.1 + c := by
  have hp := okk_pks h
  have cn : c ≤ s.1 := by
    rcases c with _ | c
    · exact Nat.zero_le _
    · have := (hp _ (List.mem_of_getElem? (hc.1 c (Nat.lt_succ_self c)).1)).2; omega
  have low : ∀ x ∈ (pks s).drop c, (c : Int) ≤ x := by
    intro x hx
    have x0 := (hp x (List.mem_of_mem_drop hx)).1
    rcases Int.lt_or_le x c with z | z
    · obtain ⟨j, rfl⟩ : ∃ j : Nat, x = (j : Int) := ⟨x.toNat, by omega⟩
      have jc : j < c := by omega
      refine absurd ?_ (hc.1 j jc).2
      have : (pks s).drop c = ((pks s).drop (j + 1)).drop (c - (j + 1)) := by rw [List.drop_drop]; congr 1; omega
      rw [this] at hx
      exact List.mem_of_mem_drop hx
    · exact z
  have e : pks s = extP c (cutM c (pks s)) := by
    refine List.ext_getElem? fun i => ?_
    by_cases hi : i < c
    · rw [extP_low _ hi]; exact (hc.1 i hi).1
    · obtain ⟨d, rfl⟩ : ∃ d, i = c + d := ⟨i - c, by omega⟩
      rw [extP_high]
      unfold cutM
      rw [List.getElem?_map, List.getElem?_drop]
      cases (pks s)[c + d]? with
      | none => rfl
      | some x => exact congrArg some (by show x = x - (c : Int) + (c : Int); omega)
  let s0 : Nat × List Int := (s.1 - c, (cutM c (pks s)).map fun p => ((s.1 - c : Nat) : Int) - 1 - p)
  have p0 : pks s0 = cutM c (pks s) := by
    show List.map _ (List.map _ _) = _
    rw [List.map_map]
    refine (List.map_congr_left (g := id) fun t _ => ?_).trans (List.map_id _)
    show ((s.1 - c : Nat) : Int) - 1 - (((s.1 - c : Nat) : Int) - 1 - t) = t
    omega
  have n0 : s.1 = s0.1 + c := by show s.1 = s.1 - c + c; omega
  refine ⟨s0, pks_inj n0 (by rw [pks_ext, p0]; exact e), ?_, p0, n0⟩
  intro t ht
  obtain ⟨p, hp', rfl⟩ := List.mem_map.mp ht
  unfold cutM at hp'
  obtain ⟨x, hx, rfl⟩ := List.mem_map.mp hp'
  have l := low x hx
  have u := (hp x (List.mem_of_mem_drop hx)).2
  show 0 ≤ ((s.1 - c : Nat) : Int) - 1 - (x - c) ∧ ((s.1 - c : Nat) : Int) - 1 - (x - c) < ((s.1 - c : Nat) : Int)
  omega
/-- a word behind a state with things more -/
theorem step_ext (k : Nat) (s : Nat × List Int) (x : Wd) : ∃ k', wstep (ext k s) x = ext k' (wstep s x) := by
  have l1 := up_len s.1 k s.2
  refine ⟨k + (x.1 - (s.2.length + k)) - (x.1 - s.2.length), ?_⟩
  generalize hk : k + (x.1 - (s.2.length + k)) - (x.1 - s.2.length) = k'
  have e : k + (x.1 - (s.2.length + k)) = (x.1 - s.2.length) + k' := by omega
  have l2 := up_len s.1 (x.1 - s.2.length) s.2
  unfold wstep ext
  show (s.1 + k + (x.1 - (up s.1 k s.2).length), left x.1 (pk x) (up (s.1 + k) (x.1 - (up s.1 k s.2).length) (up s.1 k s.2))) = _
  rw [l1, up_add, e, ← up_add]
  refine Prod.ext (by show s.1 + k + _ = s.1 + _ + k'; omega) ?_
  show left x.1 (pk x) (up (s.1 + (x.1 - s.2.length)) k' (up s.1 (x.1 - s.2.length) s.2)) = up (s.1 + (x.1 - s.2.length)) k' (left x.1 (pk x) (up s.1 (x.1 - s.2.length) s.2))
  generalize up s.1 (x.1 - s.2.length) s.2 = us at l2
  unfold left
  rw [up_len, show us.length + k' - x.1 = us.length - x.1 + k' by omega, up_take, up_drop, up_append]
theorem okk_step {s : Nat × List Int} (h : Okk s) {x : Wd} (hx : Shuf x.1 x.2) : Okk (wstep s x) := by
  intro t ht
  exact up_mem h t (left_mem (by rw [up_len]; omega) (fun p hp => pk_lt hx hp) ht)
/-- what two states do alike, they do alike behind a word more -/
theorem step_cong {s t : Nat × List Int} (hs : Okk s) (ht : Okk t) {c d : Nat} (hc : IsCut (pks s) c) (hd : IsCut (pks t) d) (en : (s.1 : Int) - (c : Int) = (t.1 : Int) - (d : Int)) (em : cutM c (pks s) = cutM d (pks t)) {x : Wd} (hx : Shuf x.1 x.2)
    {a b : Nat} (ha : IsCut (pks (wstep s x)) a) (hb : IsCut (pks (wstep t x)) b) : ((wstep s x).1 : Int) - (a : Int) = ((wstep t x).1 : Int) - (b : Int) ∧ cutM a (pks (wstep s x)) = cutM b (pks (wstep t x)) := by
  obtain ⟨s0, e1, o1, p1, n1⟩ := core_of hs hc
  obtain ⟨t0, e2, o2, p2, n2⟩ := core_of ht hd
  obtain rfl : s0 = t0 := pks_inj (by omega) (by rw [p1, p2, em])
  obtain ⟨k1, f1⟩ := step_ext c s0 x
  obtain ⟨k2, f2⟩ := step_ext d s0 x
  rw [← e1] at f1
  rw [← e2] at f2
  have o := okk_step o1 hx
  have p0 : ∀ p ∈ pks (wstep s0 x), 0 ≤ p := fun p hp => (okk_pks o p hp).1
  generalize wstep s0 x = r at *
  rw [f1, pks_ext] at ha
  rw [f2, pks_ext] at hb
  rw [f1, f2, pks_ext, pks_ext]
  -- the cut of what both have
  obtain ⟨e, he⟩ : ∃ e, IsCut (pks r) e := by
    have hk : ∀ j, j < k1 → Stays (extP k1 (pks r)) j := fun j hj => stays_low p0 hj
    have ak : k1 ≤ a := Nat.le_of_not_lt fun z => ha.2 (hk a z)
    refine ⟨a - k1, fun j hj => stays_high.mp (ha.1 (k1 + j) (by omega)), fun z => ha.2 ?_⟩
    have := (stays_high (k := k1)).mpr z
    rw [show k1 + (a - k1) = a by omega] at this
    exact this
  have ea := IsCut.uniq ha (cut_of_ext p0 he)
  have eb := IsCut.uniq hb (cut_of_ext p0 he)
  subst ea
  subst eb
  rw [cutM_ext, cutM_ext]
  refine ⟨?_, rfl⟩
  show ((r.1 + k1 : Nat) : Int) - _ = ((r.1 + k2 : Nat) : Int) - _
  omega
end Cm
/-! maps found length by length: of all rows in their order the first that has the map -/
namespace Cm.Bfs
variable {α β : Type} [DecidableEq β] (m : List α → β) (few : List α)
def more (r : List α) : List (List α) := few.map fun w => r ++ [w]
/-- all rows of one length, in their order -/
def gen : Nat → List (List α)
  | 0 => [[]]
  | n + 1 => (gen n).flatMap (more few)
def upto : Nat → List (List α)
  | 0 => gen few 0
  | n + 1 => upto n ++ gen few (n + 1)
/-- a row is set down if its map is new -/
def add (st : List (List α) × List (List α)) (r : List α) : List (List α) × List (List α) := if m r ∈ st.1.map m then st else (st.1 ++ [r], st.2 ++ [r])
def run (st : List (List α) × List (List α)) (rs : List (List α)) : List (List α) × List (List α) := rs.foldl (add m) st
def bfs : Nat → List (List α) × List (List α)
  | 0 => ([[]], [[]])
  | n + 1 => run m ((bfs n).1, []) ((bfs n).2.flatMap (more few))
theorem run_append (st : List (List α) × List (List α)) (a b : List (List α)) : run m st (a ++ b) = run m (run m st a) b := List.foldl_append
theorem run_fst : ∀ (rs : List (List α)) (b l l' : List (List α)), (run m (b, l) rs).1 = (run m (b, l') rs).1
  | [], _, _, _ => rfl
  | r :: rs, b, l, l' => by
    show (run m (add m (b, l) r) rs).1 = (run m (add m (b, l') r) rs).1
    unfold add
    by_cases h : m r ∈ b.map m
    · rw [if_pos h, if_pos h]; exact run_fst rs b l l'
    · rw [if_neg h, if_neg h]; exact run_fst rs _ _ _
theorem run_known : ∀ (rs : List (List α)) (st : List (List α) × List (List α)), (∀ r ∈ rs, m r ∈ st.1.map m) → run m st rs = st
  | [], _, _ => rfl
  | r :: rs, st, h => by
    show run m (add m st r) rs = st
    have e : add m st r = st := by unfold add; rw [if_pos (h r (List.mem_cons_self ..))]
    rw [e]
    exact run_known rs st fun x hx => h x (List.mem_cons_of_mem _ hx)
theorem add_keeps (st : List (List α) × List (List α)) (r : List α) : ∀ k ∈ st.1.map m, k ∈ (add m st r).1.map m := by
  intro k hk
  unfold add
  split
  · exact hk
  · rw [List.map_append]; exact List.mem_append_left _ hk
theorem add_has (st : List (List α) × List (List α)) (r : List α) : m r ∈ (add m st r).1.map m := by
  unfold add
  split
  · assumption
  · rw [List.map_append]; exact List.mem_append_right _ (List.mem_singleton.mpr rfl)
theorem run_keeps : ∀ (rs : List (List α)) (st : List (List α) × List (List α)), ∀ k ∈ st.1.map m, k ∈ (run m st rs).1.map m
  | [], _, _, h => h
  | r :: rs, st, k, h => run_keeps rs (add m st r) k (add_keeps m st r k h)
theorem run_has : ∀ (rs : List (List α)) (st : List (List α) × List (List α)), ∀ r ∈ rs, m r ∈ (run m st rs).1.map m
  | r :: rs, st, x, h => by
    rcases List.mem_cons.mp h with rfl | z
    · exact run_keeps m rs _ _ (add_has m st x)
    · exact run_has rs (add m st r) x z
/-- what is set down, is one of these -/
theorem run_mem : ∀ (rs : List (List α)) (st : List (List α) × List (List α)), ∀ r ∈ (run m st rs).1, r ∈ st.1 ∨ r ∈ rs
  | [], _, _, h => .inl h
  | r :: rs, st, x, h => by
    rcases run_mem rs (add m st r) x h with z | z
    · unfold add at z
      split at z
      · exact .inl z
      · rcases List.mem_append.mp z with y | y
        · exact .inl y
        · exact .inr (List.mem_singleton.mp y ▸ List.mem_cons_self ..)
    · exact .inr (List.mem_cons_of_mem _ z)
theorem run_nodup : ∀ (rs : List (List α)) (st : List (List α) × List (List α)), (st.1.map m).Nodup → ((run m st rs).1.map m).Nodup
  | [], _, h => h
  | r :: rs, st, h => by
    refine run_nodup rs (add m st r) ?_
    unfold add
    split
    · exact h
    · rename_i n
      rw [List.map_append]
      refine List.nodup_append.mpr ⟨h, by simp, ?_⟩
      intro a ha b hb e
      rw [List.map_singleton, List.mem_singleton] at hb
      subst e
      subst hb
      exact n ha
/-- and the first of its map -/
theorem run_find (k : β) : ∀ (rs : List (List α)) (st : List (List α) × List (List α)), (run m st rs).1.find? (fun r => decide (m r = k)) = (st.1 ++ rs).find? fun r => decide (m r = k)
  | [], st => by rw [List.append_nil]; rfl
  | r :: rs, st => by
    show (run m (add m st r) rs).1.find? _ = _
    rw [run_find k rs (add m st r)]
    unfold add
    split
    · rename_i h
      rw [List.find?_append, List.find?_append]
      by_cases e : m r = k
      · obtain ⟨x, hx, ex⟩ := List.mem_map.mp h
        have : (st.1.find? fun r => decide (m r = k)).isSome := List.find?_isSome.mpr ⟨x, hx, decide_eq_true (ex.trans e)⟩
        obtain ⟨y, hy⟩ := Option.isSome_iff_exists.mp this
        rw [hy]; rfl
      · rw [List.find?_cons_of_neg (by simpa using e)]
    · rw [List.append_assoc]; rfl
variable (cong : ∀ (r r' : List α) (w : α), (∀ x ∈ r, x ∈ few) → (∀ x ∈ r', x ∈ few) → w ∈ few → m r = m r' → m (r ++ [w]) = m (r' ++ [w]))
include cong
/-- every row is gone on with, or only those that were set down: alike -/
theorem level : ∀ (rs : List (List α)) (K l B : List (List α)), (∀ r ∈ rs, ∀ x ∈ r, x ∈ few) → (∀ r, (∀ x ∈ r, x ∈ few) → m r ∈ K.map m → ∀ w ∈ few, m (r ++ [w]) ∈ B.map m) →
    ∃ l', (run m (K, l) rs).2 = l ++ l' ∧ ∀ z, run m (B, z) (rs.flatMap (more few)) = run m (B, z) (l'.flatMap (more few)) ∧
      ∀ r, (∀ x ∈ r, x ∈ few) → m r ∈ (run m (K, l) rs).1.map m → ∀ w ∈ few, m (r ++ [w]) ∈ (run m (B, z) (rs.flatMap (more few))).1.map m
  | [], K, l, B, _, h => ⟨[], (List.append_nil _).symm, fun z => ⟨rfl, h⟩⟩
  | r :: rs, K, l, B, hf, h => by
    have hr := hf r (List.mem_cons_self ..)
    have hf' : ∀ r ∈ rs, ∀ x ∈ r, x ∈ few := fun x hx => hf x (List.mem_cons_of_mem _ hx)
    show ∃ l', (run m (add m (K, l) r) rs).2 = l ++ l' ∧ _
    by_cases e : m r ∈ K.map m
    · have ea : add m (K, l) r = (K, l) := by unfold add; rw [if_pos e]
      obtain ⟨l', e1, h1⟩ := level rs K l B hf' h
      refine ⟨l', by rw [ea]; exact e1, fun z => ?_⟩
      have kn : run m (B, z) (more few r) = (B, z) := run_known m _ _ fun x hx => by
        obtain ⟨w, hw, rfl⟩ := List.mem_map.mp hx
        exact h r hr e w hw
      rw [List.flatMap_cons, run_append, kn]
      refine ⟨(h1 z).1, ?_⟩
      show ∀ r', _ → m r' ∈ (run m (add m (K, l) r) rs).1.map m → _
      rw [ea]
      exact (h1 z).2
    · have ea : add m (K, l) r = (K ++ [r], l ++ [r]) := by unfold add; rw [if_neg e]
      have key : ∀ z r', (∀ x ∈ r', x ∈ few) → m r' ∈ (K ++ [r]).map m → ∀ w ∈ few, m (r' ++ [w]) ∈ (run m (B, z) (more few r)).1.map m := by
        intro z r' hr' hk w hw
        rw [List.map_append] at hk
        rcases List.mem_append.mp hk with y | y
        · exact run_keeps m _ _ _ (h r' hr' y w hw)
        · rw [List.map_singleton, List.mem_singleton] at y
          rw [cong r' r w hr' hr hw y]
          exact run_has m _ _ _ (List.mem_map.mpr ⟨w, hw, rfl⟩)
      obtain ⟨l', e1, h1⟩ := level rs (K ++ [r]) (l ++ [r]) (run m (B, []) (more few r)).1 hf' (key [])
      refine ⟨r :: l', by rw [ea, e1, List.append_assoc]; rfl, fun z => ?_⟩
      have eb : (run m (B, z) (more few r)).1 = (run m (B, []) (more few r)).1 := run_fst m _ _ _ _
      rw [List.flatMap_cons, List.flatMap_cons, run_append, run_append]
      have es : run m (B, z) (more few r) = ((run m (B, []) (more few r)).1, (run m (B, z) (more few r)).2) := Prod.ext eb rfl
      rw [es]
      refine ⟨(h1 _).1, ?_⟩
      show ∀ r', _ → m r' ∈ (run m (add m (K, l) r) rs).1.map m → _
      rw [ea]
      exact (h1 _).2
omit cong in
theorem gen_few : ∀ (n : Nat) (r : List α), r ∈ gen few n → r.length = n ∧ ∀ x ∈ r, x ∈ few
  | 0, r, h => by
    rw [List.mem_singleton.mp h]; exact ⟨rfl, fun x hx => nomatch hx⟩
  | n + 1, r, h => by
    obtain ⟨s, hs, hr⟩ := List.mem_flatMap.mp h
    obtain ⟨w, hw, rfl⟩ := List.mem_map.mp hr
    obtain ⟨l, f⟩ := gen_few n s hs
    refine ⟨by rw [List.length_append, l]; rfl, fun x hx => ?_⟩
    rcases List.mem_append.mp hx with z | z
    · exact f x z
    · rw [List.mem_singleton.mp z]; exact hw
omit cong in
theorem upto_few : ∀ (n : Nat) (r : List α), r ∈ upto few n → r.length ≤ n ∧ ∀ x ∈ r, x ∈ few
  | 0, r, h => by
    obtain ⟨l, f⟩ := gen_few few 0 r h
    exact ⟨Nat.le_of_eq l, f⟩
  | n + 1, r, h => by
    rcases List.mem_append.mp h with z | z
    · obtain ⟨l, f⟩ := upto_few n r z
      exact ⟨by omega, f⟩
    · obtain ⟨l, f⟩ := gen_few few (n + 1) r z
      exact ⟨Nat.le_of_eq l, f⟩
theorem bfs_inv : ∀ n, ∃ K, bfs m few n = run m (K, []) (gen few n) ∧ (∀ r, (∀ x ∈ r, x ∈ few) → m r ∈ K.map m → ∀ w ∈ few, m (r ++ [w]) ∈ (bfs m few n).1.map m) ∧
    bfs m few (n + 1) = run m ((bfs m few n).1, []) (gen few (n + 1)) ∧ (∀ r, (∀ x ∈ r, x ∈ few) → m r ∈ (bfs m few n).1.map m → ∀ w ∈ few, m (r ++ [w]) ∈ (bfs m few (n + 1)).1.map m) := by
  have step : ∀ n K, bfs m few n = run m (K, []) (gen few n) → (∀ r, (∀ x ∈ r, x ∈ few) → m r ∈ K.map m → ∀ w ∈ few, m (r ++ [w]) ∈ (bfs m few n).1.map m) →
      bfs m few (n + 1) = run m ((bfs m few n).1, []) (gen few (n + 1)) ∧ (∀ r, (∀ x ∈ r, x ∈ few) → m r ∈ (bfs m few n).1.map m → ∀ w ∈ few, m (r ++ [w]) ∈ (bfs m few (n + 1)).1.map m) := by
    intro n K e h
    obtain ⟨l', e1, h1⟩ := level m few cong (gen few n) K [] (bfs m few n).1 (fun r hr => (gen_few few n r hr).2) h
    rw [List.nil_append] at e1
    obtain ⟨h2, h3⟩ := h1 []
    rw [← e] at e1 h3
    have e2 : bfs m few (n + 1) = run m ((bfs m few n).1, []) (gen few (n + 1)) := by
      show run m ((bfs m few n).1, []) ((bfs m few n).2.flatMap (more few)) = run m ((bfs m few n).1, []) ((gen few n).flatMap (more few))
      rw [h2, e1]
    exact ⟨e2, by rw [e2]; exact h3⟩
  intro n
  induction n with
  | zero =>
    have a : bfs m few 0 = run m ([], []) (gen few 0) := by
      show ([[]], [[]]) = add m ([], []) []
      unfold add; rw [if_neg (by intro h; cases h)]; rfl
    have b : ∀ r, (∀ x ∈ r, x ∈ few) → m r ∈ ([] : List (List α)).map m → ∀ w ∈ few, m (r ++ [w]) ∈ (bfs m few 0).1.map m := fun r _ h => by cases h
    exact ⟨[], a, b, step 0 [] a b⟩
  | succ n ih =>
    obtain ⟨K, a, b, c, d⟩ := ih
    exact ⟨_, c, d, step (n + 1) _ c d⟩
theorem bfs_upto : ∀ n, (bfs m few n).1 = (run m ([], []) (upto few n)).1
  | 0 => by
    show [[]] = (add m ([], []) []).1
    unfold add; rw [if_neg (by intro h; cases h)]; rfl
  | n + 1 => by
    obtain ⟨K, a, b, c, d⟩ := bfs_inv m few cong n
    show _ = (run m ([], []) (upto few n ++ gen few (n + 1))).1
    rw [c, run_append, bfs_upto n]
    exact run_fst m _ _ _ _
/-- the row of a map is the first of all -/
theorem bfs_find (n : Nat) (k : β) : (bfs m few n).1.find? (fun r => decide (m r = k)) = (upto few n).find? fun r => decide (m r = k) := by
  rw [bfs_upto m few cong, run_find]; rfl
theorem bfs_nodup (n : Nat) : ((bfs m few n).1.map m).Nodup := by
  rw [bfs_upto m few cong]
  exact run_nodup m _ _ List.nodup_nil
theorem bfs_mem (n : Nat) (r : List α) (h : r ∈ (bfs m few n).1) : r ∈ upto few n := by
  rw [bfs_upto m few cong] at h
  rcases run_mem m _ _ r h with z | z
  · cases z
  · exact z
omit cong in
theorem upto_mono {a b : Nat} (h : a ≤ b) : ∃ l, upto few b = upto few a ++ l := by
  induction b with
  | zero => obtain rfl : a = 0 := by omega
            exact ⟨[], (List.append_nil _).symm⟩
  | succ b ih =>
    by_cases e : a = b + 1
    · subst e; exact ⟨[], (List.append_nil _).symm⟩
    · obtain ⟨l, hl⟩ := ih (by omega)
      exact ⟨l ++ gen few (b + 1), by show upto few b ++ _ = _; rw [hl, List.append_assoc]⟩
omit cong in
theorem mem_gen : ∀ {r : List α}, (∀ x ∈ r, x ∈ few) → r ∈ gen few r.length := by
  intro r
  have go : ∀ (s : List α), (∀ x ∈ s, x ∈ few) → s.reverse ∈ gen few s.length := by
    intro s
    induction s with
    | nil => intro _; exact List.mem_singleton.mpr rfl
    | cons a s ih =>
      intro h
      rw [List.reverse_cons, List.length_cons]
      exact List.mem_flatMap.mpr ⟨s.reverse, ih (fun x hx => h x (List.mem_cons_of_mem _ hx)), List.mem_map.mpr ⟨a, h a (List.mem_cons_self ..), rfl⟩⟩
  intro h
  have := go r.reverse (fun x hx => h x (List.mem_reverse.mp hx))
  rw [List.reverse_reverse, List.length_reverse] at this
  exact this
omit cong in
theorem mem_upto {r : List α} {n : Nat} (h : ∀ x ∈ r, x ∈ few) (l : r.length ≤ n) : r ∈ upto few n := by
  obtain ⟨t, ht⟩ := upto_mono few l
  rw [ht]
  refine List.mem_append_left _ ?_
  have := mem_gen few h
  cases e : r.length with
  | zero => rw [e] at this; exact this
  | succ k => rw [e] at this; exact List.mem_append_right _ this
/-- the book is closed: a word more is there too, with a row that is not longer -/
theorem bfs_closed {n : Nat} {r : List α} {w : α} (hr : r ∈ (bfs m few n).1) (l : r.length < n) (hw : w ∈ few) : ∃ s, (bfs m few n).1.find? (fun x => decide (m x = m (r ++ [w]))) = some s ∧ m s = m (r ++ [w]) ∧ s.length ≤ r.length + 1 := by
  have hf := (upto_few few n r (bfs_mem m few cong n r hr)).2
  have hf' : ∀ x ∈ r ++ [w], x ∈ few := fun x hx => by
    rcases List.mem_append.mp hx with z | z
    · exact hf x z
    · rw [List.mem_singleton.mp z]; exact hw
  have hm : r ++ [w] ∈ upto few (r.length + 1) := mem_upto few hf' (by rw [List.length_append]; exact Nat.le_refl _)
  obtain ⟨s, hs⟩ := Option.isSome_iff_exists.mp (List.find?_isSome (p := fun x => decide (m x = m (r ++ [w])))|>.mpr ⟨_, hm, decide_eq_true rfl⟩)
  obtain ⟨t, ht⟩ := upto_mono few (show r.length + 1 ≤ n by omega)
  refine ⟨s, ?_, ?_, ?_⟩
  · rw [bfs_find m few cong, ht, List.find?_append, hs]; rfl
  · have := List.find?_some (p := fun x => decide (m x = m (r ++ [w]))) hs
    exact of_decide_eq_true this
  · exact (upto_few few _ s (List.mem_of_find?_eq_some hs)).1
end Cm.Bfs
/-! dicts with maps as keys: new ones, displays of one pair, their length, tuple(d.items()) -/
namespace DD
open PySem PySem.Spec PyProof.Rows PySem.W
section
variable {prog : Program} {w : World} {A : Around} {E : Value → Shared → Prop} {s : Shared} {r d : Addr} {es : Array DictEntry} {ep : Nat}
theorem cmi_code {Q₁ : Value → Shared → Prop} (hh : A.handled = none) (hv : s.heap.IsItemsView r d) (hm : DT.Raw s.heap d es ep) (hn : es.size ≤ sizeLine)
    (h : ∀ (h' : Heap) (tk : Nat) (as : List Addr), (∀ b o, s.heap.get? b = some o → h'.get? b = some o) → as.length = es.size → DT.Made es s.heap.objs.size h' as →
      Q₁ (.ref h'.objs.size) { s with heap := h'.push { cls := .type "tuple", data := .seq (as.map Value.ref).toArray }, toks := tk }) :
    codeAny (model prog w) A (.call (.builtin "tuple.__new__") ⟨[.type "tuple", .ref r], []⟩) (wants Q₁ E) s := by
  refine codeAny_of_tree ?_
  show wpAny _ A.in1 (do checkBuiltinCall "tuple.__new__" ⟨[.type "tuple", .ref r], []⟩; again (.builtin "tuple.__new__" ⟨[.type "tuple", .ref r], []⟩)) _ _ s
  refine wpAny_bind (wpAny_of_eq (F.newCall_tuple_1 _) (wpAny_pure ⟨plainId_quiet F.plain_tuple_new _, codeAny_builtin F.entry_tuple_new ?_⟩))
  rw [Around.under_plainId F.plain_tuple_new _]
  have hsub := sub_tuple_self
  have hinit := init_tuple_lookup
  have hmh := madeHere_tuple
  have hTI : s.TypeIs (.ref r) "dict_items" := let ⟨o, ho, hx⟩ := hv; ⟨o, ho, by first | exact hx.1 | exact hx⟩
  have hh1 : A.in1.handled = none := hh
  wp_walk using wpAny_typeOf hTI, DT.collectI (A := A.in1) hh1 hv hm hn
  intro h' tk as hk hlt hl hG
  show wpAny _ _ (Builtin.Tuple.tupleExact (as.map Value.ref).toArray >>= fun v => ret v) _ _ _
  unfold Builtin.Tuple.tupleExact
  refine wpAny_bind (wpAny_newObj_type ?_ (by show (as.map Value.ref).toArray.size ≤ sizeLine; rw [List.size_toArray, List.length_map, hl]; exact hn))
  refine wpAny_pure ?_
  exact h h' tk as hk hl hG
theorem cmi_call {Q : Value → Shared → Prop} (hh : A.handled = none) (hv : s.heap.IsItemsView r d) (hm : DT.Raw s.heap d es ep) (hn : es.size ≤ sizeLine)
    (hQ : ∀ (h' : Heap) (tk : Nat) (as : List Addr), (∀ b o, s.heap.get? b = some o → h'.get? b = some o) → as.length = es.size → DT.Made es s.heap.objs.size h' as →
      Q (.ref h'.objs.size) { s with heap := h'.push { cls := .type "tuple", data := .seq (as.map Value.ref).toArray }, toks := tk }) :
    wpAny (model prog w) A (call (.type "tuple") [.ref r]) Q E s := by
  refine callType_codes (Q₁ := fun obj s₁ => s₁.TypeIs obj "tuple" ∧ Q obj s₁) F.called_tuple (F.typeCall_tuple_1 _) F.entry_object_init
    (cmi_code (A := A.in1) hh hv hm hn fun h' tk as hk hl hG => ⟨⟨_, Heap.get?_push_size _ rfl, rfl⟩, hQ h' tk as hk hl hG⟩) fun obj s₁ h₁ => ?_
  exact ⟨h₁.1, F.args_object_init_2 obj _, object_init_meets F.called_tuple.init.lookup F.called_tuple.made (by decide) prog w A.in1 _ s₁ ⟨h₁.1, rfl, h₁.2⟩⟩
end
end DD
namespace Cm
open PySem PySem.W L2 SX
open L2.DX (itemsO itemsO_ok takeT)
section
variable {X : Cx}
def tMItems (P : Program) (w : World) (to : TE) : TE := fun σ H Q => to σ H fun x H1 => ∃ a ob xs, x = .ref a ∧ H1 a = some (mdO P w a ob xs) ∧ ∀ p, H1 p = none → Q (.ref p) (upd H1 p (itemsO p a))
theorem pe_mitems {o : Expr} {to : TE} {apos cpos : Pos} (ho : PE X o to) (hbase : attributeBase o "items" X.env (eval o X.env) = eval o X.env := by rfl) (hline : (apos.endLine == cpos.line) = true := by rfl) : PE X (.Call (.Attribute o "items" apos) [] [] cpos) (tMItems X.prog X.w to) := by
  refine ⟨fun pins s σ H Q I h => ?_⟩
  refine wpAny_Call_method0_late hbase hline (thn (ho.run pins s σ H _ I h) fun v s1 ⟨x, H1, I1, r1, a, ob, xs, ex, ha, q1⟩ => ?_)
  subst ex
  obtain rfl : v = Value.ref a := r1
  obtain ⟨y1, y2⟩ := md_type I1 ha
  obtain ⟨⟨z, hd, h1, h2, es, ep, h3, h4, h5⟩, _⟩ := I1.hok a _ ha
  refine ⟨"dict", "dict.items", PySem.F.plainAttrs_dict, PySem.F.slot_dict_items, PySem.F.type_dict_items, y1, y2, Calls.callWith_builtin rfl (PySem.evalArgs_none ?_)⟩
  refine DT.callItems (es := es) (ep := ep) hd ⟨ob, h1, h2, h3⟩ ?_
  have hf : H1 s1.heap.objs.size = none := I1.hok.fresh (Nat.le_refl _)
  exact ⟨.ref s1.heap.objs.size, upd H1 s1.heap.objs.size (itemsO s1.heap.objs.size a), I1.laid (t' := s1.toks) (fun b u e => Heap.get?_push_of_some _ e) (Nat.le_refl _) (itemsO_ok (Heap.get?_push_size _ rfl)), rfl, q1 _ hf⟩
/-- tuple(items of a dict with maps as keys) -/
def rTupM (P : Program) (w : World) : List V → Hp → VK → Prop := fun vs H Q => ∃ (p a : Addr) (ob : Obj) (xs : MX), vs = [.ref p] ∧ H p = some (itemsO p a) ∧ H a = some (mdO P w a ob xs) ∧ (∀ x ∈ xs, ∃ c, x.2.2 = .ref c) ∧
  ∀ (H' : Hp) (t : Addr) (as : List Addr), (∀ b o, H b = some o → H' b = some o) → as.length = xs.length → (∀ (j : Nat) (b : Addr) (x : MK × Addr × Value), as[j]? = some b → xs[j]? = some x → ∃ c, x.2.2 = .ref c ∧ H' b = some (.tup [.ref x.2.1, .ref c])) → H' t = some (.tup (as.map V.ref)) → Q (.ref t) H'
theorem cr_tupM (hc : X.calm = true) : CallR X (.type "tuple") (rTupM X.prog X.w) := by
  intro pins s σ H vs us Q I r h
  obtain ⟨p, a, ob, xs, rfl, hp, ha, hv, q⟩ := h
  obtain rfl := Vals.ref1 r
  have view : s.heap.IsItemsView p a := (show ObjOk X.prog X.w H s.heap p (itemsO p a) from I.hok p _ hp).1
  obtain ⟨⟨z, hd, h1, h2, es, ep, h3, h4, h5⟩, _⟩ := I.hok a _ ha
  have l2 : es.size = xs.length := size_of_entries h4
  refine DD.cmi_call (I.ok.hd hc) view ⟨ob, h1, h2, h3⟩ (by rw [l2]; exact z) fun h' tk as hk hl hG => ?_
  have I1 : Inv X pins σ H { s with heap := h', toks := tk } := I.kept (t' := tk) hk
  have nd : as.Nodup := List.Pairwise.imp (fun h => Nat.ne_of_lt h) hG.rise
  obtain ⟨H2, I2, g, pr⟩ := takeT (P := fun b vs => ∃ (j : Nat) (x : MK × Addr × Value) (c : Addr), as[j]? = some b ∧ xs[j]? = some x ∧ x.2.2 = .ref c ∧ vs = [.ref x.2.1, .ref c]) I as H I1 nd fun b hb => by
    have hb2 : s.heap.objs.size ≤ b := Nat.le_of_lt (hG.above b hb)
    obtain ⟨j, hj⟩ := List.mem_iff_getElem?.mp hb
    obtain ⟨e, he, hg⟩ := hG.pairs j b hj
    rw [entry_at h4 j] at he
    cases hx : xs[j]? with
    | none => rw [hx] at he; cases he
    | some x =>
      rw [hx] at he
      have ee : entryOfKey (mkd X.prog X.w) x = e := Option.some.inj he
      obtain ⟨c, hc'⟩ := hv x (List.mem_of_getElem? hx)
      refine ⟨hb2, I.hok.fresh hb2, _, ⟨j, x, c, hj, hx, hc', rfl⟩, fun H2 => ?_⟩
      refine ⟨by show 2 ≤ sizeLine; rw [sizeLine_eq]; omega, [.ref x.2.1, .ref c], .cons rfl (.cons rfl .nil), ?_⟩
      have hg2 : h'.get? b = some { cls := .type "tuple", data := .seq #[.ref x.2.1, .ref c] } := by
        rw [hg, ← ee, ← hc']
        rfl
      exact ⟨_, hg2, rfl, 0, rfl⟩
  have hn2 : H2 h'.objs.size = none := I2.hok.fresh (Nat.le_refl _)
  have lz : (as.map V.ref).length ≤ sizeLine := by rw [List.length_map, hl, l2]; exact z
  have vr : ∀ l : List Addr, Vals (l.map V.ref) (l.map Value.ref) := fun l => by
    induction l with
    | nil => exact .nil
    | cons x l ih => exact .cons rfl ih
  have I3 : Inv X pins σ (upd H2 h'.objs.size (.tup (as.map V.ref))) { s with heap := h'.push { cls := .type "tuple", data := .seq (as.map Value.ref).toArray }, toks := tk } :=
    I2.laid (t' := tk) (fun b u e => Heap.get?_push_of_some _ e) (Nat.le_refl _) (show ObjOk X.prog X.w _ _ _ (.tup (as.map V.ref)) from ⟨lz, as.map Value.ref, vr as, PyProof.Rows.IsTup.new h' (as.map Value.ref).toArray⟩)
  refine ⟨.ref h'.objs.size, _, I3, rfl, q _ _ as (fun b o e => ?_) (by rw [hl, l2]) (fun j b x hj hx => ?_) upd_same⟩
  · rw [upd_ne (ne_of_none (g b o e) hn2)]
    exact g b o e
  · obtain ⟨vs, ⟨j', x', c, hj', hx', hc', ev⟩, hb⟩ := pr b (List.mem_of_getElem? hj)
    have ej : j = j' := (List.getElem?_inj (List.getElem?_eq_some_iff.mp hj).1 nd).mp (hj.trans hj'.symm)
    subst ej
    obtain rfl : x = x' := Option.some.inj (hx.symm.trans hx')
    subst ev
    exact ⟨c, hc', by rw [upd_ne (ne_of_none hb hn2)]; exact hb⟩
end
end Cm
namespace DD
open PySem PySem.W L2 SX Cm
open L2.DX (itemsO itemsO_ok takeT)
section
variable {X : Cx} {o : Expr} {to : TD} {p1 p2 p3 p4 : Pos}
def dMItems (P : Program) (w : World) (to : TD) : TD := fun δ G Q => to δ G fun x G1 => ∃ p ob kvs, x = .ref p ∧ G1 p = some (mdG P w ob kvs) ∧ Q (.tup (kvs.map fun kv => .tup [mkD kv.1, kv.2])) G1
theorem MRV.vals {K : Frag} {H : Hp} {xs : MX} {kvs : List (MK × DV)} (h : MRV K H xs kvs) : ∀ x ∈ xs, ∃ c, x.2.2 = .ref c := by
  induction h with
  | nil => intro x hx; cases hx
  | cons h r _ ih =>
    intro x hx
    rcases List.mem_cons.mp hx with e | hx
    · rw [e]; exact ⟨_, rfl⟩
    · exact ih x hx
theorem MRV.pairs {K : Frag} {H : Hp} {xs : MX} {kvs : List (MK × DV)} (h : MRV K H xs kvs) : ∀ (as : List Addr), as.length = xs.length → (∀ (j : Nat) (b : Addr) (x : MK × Addr × Value), as[j]? = Option.some b → xs[j]? = Option.some x → ∃ c, x.2.2 = .ref c ∧ H b = Option.some (.tup [.ref x.2.1, .ref c])) → RVs K H (as.map V.ref) (kvs.map fun kv => .tup [mkD kv.1, kv.2]) := by
  induction h with
  | nil =>
    intro as l _
    cases as with
    | nil => exact .nil
    | cons _ _ => cases l
  | @cons k b c d xs kvs hk r _ ih =>
    intro as l h
    cases as with
    | nil => cases l
    | cons a as =>
      obtain ⟨c', e1, e2⟩ := h 0 a _ rfl rfl
      cases e1
      exact .cons (.tup (SqT.of e2) (.cons (IsMK.rv hk) (.cons r .nil))) (ih as (by simpa using l) fun j b x hj hx => h (j + 1) b x (by simpa using hj) (by simpa using hx))
theorem de_mitems (hc : X.calm = true) (hm : X.mg "tuple" = none) (hg : Gl X "tuple") (ho : DE X o to) (hbase : attributeBase o "items" X.env (eval o X.env) = eval o X.env := by rfl) (hline : (p2.endLine == p3.line) = true := by rfl)
    (hs : starEach [.Call (.Attribute o "items" p2) [] [] p3] X.env = (false, eval (.Call (.Attribute o "items" p2) [] [] p3) X.env) :: starEach [] X.env := by rfl) :
    DE X (.Call (.Name "tuple" p1) [.Call (.Attribute o "items" p2) [] [] p3] [] p4) (dMItems X.prog X.w to) := by
  refine PE_mono (pe_callTy (cr_tupM hc) hg hm PyProof.Rows.Boot.«tuple» (pa_cons (pe_mitems ho hbase hline) pa_nil hs) (he := hs)) fun σ H Q ⟨δ, G, R, sl, w, h, f⟩ => ⟨δ, G, _, sl, w, h, fun x G1 v H1 ⟨p, ob, kvs, ex, hp, q⟩ t1 w1 r1 => ?_⟩
  subst ex
  cases r1
  obtain ⟨xs, hx, mr⟩ := wd_md w1 hp
  refine ⟨p, ob, xs, rfl, hx, fun v nv => ?_⟩
  have ne : p ≠ v := fun z => by rw [z, nv] at hx; cases hx
  refine ⟨v, p, ob, xs, rfl, upd_same, by rw [upd_ne ne]; exact hx, mr.vals, fun H' t as sm la hp' ht => ?_⟩
  have s1 := same_new nv (itemsO v p)
  have sm' : Same H1 H' := fun b o e => sm b o (s1 b o e)
  have t' := TKs.of (K := X.K) sm'
  exact f _ _ _ _ q (t1.trans t') (w1.same sm') (.tup (SqT.of ht) ((mr.mono t').pairs as la hp'))
end
end DD
/-! dicts with maps as keys: {}, {k: v}, len(d) -/
namespace Cm
open PySem PySem.W L2 SX
section
variable {prog : Program} {w : World} {K : Type} [DecidableEq K] {knd : HeapKind prog w K} {A : Around} {E : Value → Shared → Prop} {s : Shared}
theorem len_raw {d : Addr} {xs : List (K × Addr × Value)} {Q : Value → Shared → Prop} (hd : (d == sysModules) = false) (hm : s.heap.DictOfH knd d xs) (hfit : xs.length ≤ sizeLine)
    (h : ∀ tk t, Q (.int xs.length t) { s with toks := tk }) : wpAny (model prog w) A (call (.builtin "len") [.ref d]) Q E s := by
  have hf : (xs.length : Int) < 2 ^ 63 := by
    have : sizeLine < 2 ^ 63 := by rw [sizeLine_eq]; decide
    omega
  refine Calls.call_function_entry kind_len plain_len entry_len (args_len1 _) ?_
  unfold Builtin.«len»
  refine wpAny_bind (m := oneArg "len" _) (wpAny_pure ?_)
  have hM : MeetsIn prog w (Builtin.«dict.__len__» ⟨[.ref d], []⟩) (fun _ R s => s.heap.DictOfH knd d xs ∧ R (.ok (.ret (.int xs.length s.toks))) { s with toks := s.toks + 1 }) := .of_wp fun A R s ⟨hm, h⟩ => by
    obtain ⟨o, es, ep, ho, hc, hdat, hk, hp, hn⟩ := hm
    show wpAny _ _ (dictSize d >>= _) _ _ s
    unfold dictSize
    refine wpAny_bind (wpAny_bind (wpAny_dictEntries ho hdat (wpAny_pure ?_)))
    show wpAny _ _ (Builtin.Dict.pendingCount d >>= _) _ _ s
    refine wpAny_bind (wpAny_pendingCount_other hd ?_)
    refine wpAny_ret_mkInt ?_
    have : es.size = xs.length := size_of_entries hk
    simpa [this] using h
  refine wpAny_bind (m := callSpecial? (.ref d) (Str.ofString "__len__")) (wpAny_callSpecial?_slot (name := Str.ofString "__len__") hm.typeIs PySem.F.slot_dict_len
    (call_meetsIn PySem.F.slot_dict_len hm.typeIs PySem.F.entry_dict_len (PySem.F.args_dict_len_1 _) hM ⟨hm, ?_⟩))
  show wpAny _ _ _ _ _ { s with toks := s.toks + 1 }
  refine wpAny_bind (wpAny_holding (wpAny_pure ?_))
  refine wpAny_bind (wpAny_letGo ?_)
  show wpAny _ _ (if ((xs.length : Nat) : Int) < 0 then _ else _) _ _ _
  rw [if_neg (by omega)]
  show wpAny _ _ (if ((xs.length : Nat) : Int) ≥ 2 ^ 63 then _ else _) _ _ _
  rw [if_neg (by omega)]
  exact wpAny_bind (wpAny_mkInt (wpAny_pure ⟨_, rfl, h _ _⟩))
end
/-- a new dict's object -/
abbrev ob0 : Obj := { cls := .type "dict", data := .dict #[] }
theorem md_empty {P : Program} {w : World} {H : Hp} (h : Heap) (hb : sysModules < h.objs.size) : ObjOk P w H (h.push { cls := .type "dict", data := .dict #[] }) h.objs.size (mdO P w h.objs.size ob0 []) :=
  ⟨⟨Nat.zero_le _, beq_eq_false_iff_ne.mpr (Ne.symm (Nat.ne_of_lt hb)), Heap.get?_push_size _ rfl, ⟨rfl, rfl, rfl⟩, #[], 0, rfl, rfl, List.nodup_nil⟩, ⟨_, Heap.get?_push_size _ rfl⟩, fun _ _ ⟨a1, a2, g1, g⟩ k => ⟨a1, a2, k _ g1, g⟩⟩
end Cm
namespace DD
open PySem PySem.W L2 SX Cm
section
variable {X : Cx} {k v : Expr} {pos : Pos} {tk tv : TD}
/-- {}, to be a dict with maps as keys -/
def dMNew (P : Program) (w : World) : TD := fun _ G Q => ∀ p, G p = none → Q (.ref p) (dupd G p (mdG P w ob0 []))
/-- {k: v} -/
def dMDisp (P : Program) (w : World) (tk tv : TD) : TD := fun δ G Q => ∀ p, G p = none → tk δ (dupd G p (mdG P w ob0 [])) fun y G1 => tv δ G1 fun d G2 => ∃ k ds, y = mkD k ∧ d = .tup ds ∧ G2 p = some (mdG P w ob0 []) ∧ ∀ ob, Q (.ref p) (dupd G2 p (mdG P w ob [(k, d)]))
theorem de_mdisp (hu : X.A.units + 2 < cLine) (hk : DE X k tk) (hv : DE X v tv) : DE X (.Dict [some k] [v] pos) (dMDisp X.prog X.w tk tv) := by
  refine ⟨fun pins s σ H Q I ⟨δ, G, R, sl, wd, h, f⟩ => ?_⟩
  have n : H s.heap.objs.size = none := I.hok.fresh (Nat.le_refl _)
  have s' := same_new n (mdO X.prog X.w s.heap.objs.size ob0 [])
  have t' := TKs.of (K := X.K) s'
  have I0 := I.laid (a := s.heap.objs.size) (o := mdO X.prog X.w s.heap.objs.size ob0 []) (h' := s.heap.push { cls := .type "dict", data := .dict #[] }) (t' := s.toks) (fun _ _ q => Heap.get?_push_of_some _ q) (Nat.le_refl _) (md_empty s.heap I.big)
  have w0 := wd.new (o := mdG X.prog X.w ob0 []) n fun O => or_md upd_same .nil
  have h0 := h _ (wd.free n)
  have hall : ([some k] : List (Option Expr)).all (·.isSome) = true := rfl
  rw [arm_eval_Dict, zip_pairTrees [some k] [v] X.env pos hall rfl, dictDisplay_pairs (pairTrees [some k] [v] X.env pos) (fun e => by have := congrArg List.length e; rw [pairTrees_length _ _ _ _ hall rfl] at this; cases this) (by rw [pairTrees_length _ _ _ _ hall rfl]; exact Nat.le_of_ble_eq_true rfl)]
  refine wpAny_bind (wpAny_standAt (wpAny_bind (wpAny_subDictH (knd := mkd X.prog X.w) (Q := fun d s' => wpAny (model X.prog X.w) X.A (pure (Value.ref d)) _ X.xe s') (by show X.A.units + 1 < cLine; omega) (by rw [pairTrees_length _ _ _ _ hall rfl]; exact Nat.le_of_ble_eq_true rfl) (pairTrees_cons_walk ?_))))
  refine thn (hk.run pins _ σ _ (fun y H1 => ∃ y' G1, RV X.K H1 y y' ∧ Wd X.K H1 G1 ∧ TKs X.K (upd H s.heap.objs.size (mdO X.prog X.w s.heap.objs.size ob0 [])) H1 ∧ tv δ G1 fun d G2 => ∃ k ds, y' = mkD k ∧ d = .tup ds ∧ G2 s.heap.objs.size = some (mdG X.prog X.w ob0 []) ∧ ∀ ob, R (.ref s.heap.objs.size) (dupd G2 s.heap.objs.size (mdG X.prog X.w ob [(k, d)]))) I0 ⟨δ, _, _, sl.mono t', w0, h0, fun d G1 v H1 h1 t1 w1 r1 => ⟨d, G1, r1, w1, t1, h1⟩⟩) fun kv s1 ⟨y, H1, I1, ry, y', G1, ry', w1, t1, h1⟩ => thn (hv.run pins s1 σ H1 (fun d H2 => ∃ d' G2, RV X.K H2 d d' ∧ Wd X.K H2 G2 ∧ TKs X.K H1 H2 ∧ ∃ k ds, y' = mkD k ∧ d' = .tup ds ∧ G2 s.heap.objs.size = some (mdG X.prog X.w ob0 []) ∧ ∀ ob, R (.ref s.heap.objs.size) (dupd G2 s.heap.objs.size (mdG X.prog X.w ob [(k, d')]))) I1 ⟨δ, G1, _, sl.mono (t'.trans t1), w1, h1, fun d G2 v H2 h2 t2 w2 r2 => ⟨d, G2, r2, w2, t2, h2⟩⟩) fun vv s2 ⟨d, H2, I2, rd, d', G2, rd', w2, t2, k0, ds, ey, ed, eG, q⟩ => pairTrees_nil_walk ?_
  subst ey ed
  obtain ⟨b, eb, hb⟩ := RV.mk (ry'.mono t2)
  subst eb
  obtain rfl : kv = Value.ref b := ry
  obtain ⟨c, ys, ec, hs', rr⟩ := RV.tupD rd'
  subst ec
  obtain rfl : vv = Value.ref c := rd
  obtain ⟨xs, hx, mr⟩ := wd_md w2 eG
  cases mr
  obtain ⟨z, hd, dd⟩ := md_of I2 hx (fun x hx => nomatch hx)
  refine ⟨[(k0, b, .ref c)], ⟨rfl, rfl, I2.isMK hb, trivial⟩, dd, fun h' tk dd' hs => wpAny_pure ?_⟩
  obtain ⟨ob, ok⟩ := mdO_new (xs := [(k0, b, .ref c)]) (by show 1 ≤ sizeLine; rw [sizeLine_eq]; omega) hd dd'
  have t4 : TKs X.K H2 (upd H2 s.heap.objs.size (mdO X.prog X.w s.heap.objs.size ob [(k0, b, .ref c)])) := tks_md hx
  have he : ∃ q, h'.get? s.heap.objs.size = some q := let ⟨q, _, _, hq, _⟩ := dd'; ⟨q, hq⟩
  have J := d_write (t' := tk) I2 (by rw [hx]; exact True.intro) hs he (ok _)
  exact ⟨.ref s.heap.objs.size, _, J, rfl, f _ _ _ _ (q ob) (((t'.trans t1).trans t2).trans t4) (w2.put ⟨_, eG, fun L φ z => by cases z⟩ t4 fun O => or_md upd_same (.cons (hb.mono t4) (rd'.mono t4) .nil)) (.ref _)⟩
/-- len(d) -/
def bLenM (P : Program) (w : World) : DC := fun ds G Q => ∃ p ob kvs, ds = [.ref p] ∧ G p = some (mdG P w ob kvs) ∧ Q (.int kvs.length) G
theorem cd_lenM : CallD X (.builtin "len") (bLenM X.prog X.w) := by
  refine ⟨fun vs H Q => ∃ p ob xs, vs = [.ref p] ∧ H p = some (mdO X.prog X.w p ob xs) ∧ (∀ x ∈ xs, IsMK X.K H x.1 x.2.1) ∧ Q (.int xs.length) H, fun pins s σ H vs us Q I r ⟨p, ob, xs, e, hx, hk, q⟩ => ?_, fun ds vs H G R Q r w ⟨p, ob, kvs, e, hp, q⟩ f => ?_⟩
  · subst e
    obtain rfl := Vals.ref1 r
    obtain ⟨z, hd, dd⟩ := md_of I hx hk
    exact len_raw hd dd z fun tk t => ⟨.int xs.length, H, I.tok tk, ⟨t, rfl⟩, q⟩
  · subst e
    cases r with
    | cons r1 r2 =>
      cases r2
      cases r1
      obtain ⟨xs, hx, mr⟩ := wd_md w hp
      exact ⟨p, ob, xs, rfl, hx, mr.keys, by rw [mr.len]; exact f _ _ _ _ q (TKs.refl H) w (.int _)⟩
end
end DD
/-! comprehensions with two for, over data -/
namespace DD
open PySem PySem.W L2 SX Cm
def dLc2 (ti : TDI) (ld : TL) (tt : TDT) (ti1 : TDI) (ld1 : TL) (tt1 : TDT) (te : TD) (vs vs1 : List Nat) : TD := fun δ G Q => ti δ G fun ds st G1 => ∀ p, G1 p = none → ∃ Pv : Nat → List DV → DG → Prop, Pv 0 [] (dupd G1 p (.lst [])) ∧ (∀ i acc G, Pv i acc G → st G) ∧
  (∀ i d acc G, ds[i]? = some d → Pv i acc G → ld d (wipeD δ vs) fun δ2 => tt δ2 G fun b G3 => if b = true then
      ti1 δ2 G3 fun ds1 st1 G4 => ∃ Pw : Nat → List DV → DG → Prop, Pw 0 acc G4 ∧ (∀ j acc G, Pw j acc G → st1 G) ∧
        (∀ j d1 acc G, ds1[j]? = some d1 → Pw j acc G → ld1 d1 (wipeD δ2 vs1) fun δ3 => tt1 δ3 G fun b G5 => if b = true then te δ3 G5 fun y G6 => G6 p = some (.lst acc) ∧ acc.length < sizeLine ∧ Pw (j + 1) (acc ++ [y]) (dupd G6 p (.lst (acc ++ [y]))) else Pw (j + 1) acc G5) ∧
        (∀ acc G, Pw ds1.length acc G → Pv (i + 1) acc G)
    else Pv (i + 1) acc G3) ∧
  (∀ acc G, Pv ds.length acc G → Q (.ref p) G)
theorem lc2_up {K : Frag} {ti ti1 : TDI} {g g1 : TG} {ld ld1 : TL} {tt tt1 : TDT} {te : TD} {vs vs1 : List Nat} (lt : LT K vs g ld) (lt1 : LT K vs1 g1 ld1) {σ : St} {H : Hp} {Q : VK} (h : up K (dLc2 ti ld tt ti1 ld1 tt1 te vs vs1) σ H Q) : tLc2 (upI K ti) g (upT K tt) (upI K ti1) g1 (upT K tt1) (up K te) vs vs1 σ H Q := by
  obtain ⟨δ, G, R, sl, w, h, f⟩ := h
  refine ⟨δ, G, _, sl, w, h, fun ds st G1 H1 J q t1 w1 j p np => ?_⟩
  obtain ⟨Pv, p0, pst, ps, pd⟩ := q p (w1.free np)
  have s0 : Same H1 (upd H1 p (.lst [])) := same_new np _
  refine ⟨fun i m H2 => ∃ acc G, Pv i acc G ∧ TKs K H1 H2 ∧ Wd K H2 G ∧ i ≤ ds.length ∧ m = ds.length - i, ⟨_, [], _, p0, TKs.of s0, w1.new np fun O => ⟨[], upd_same, .nil⟩, Nat.zero_le _, rfl⟩, ?_⟩
  rintro i m H2 ⟨acc, G2, p2, t2, w2, hi, rfl⟩
  by_cases hlt : i < ds.length
  · refine .inr ⟨j.go i H2 G2 t2 w2 (pst _ _ _ p2) hlt, fun H3 => ∃ acc G, Pv (i + 1) acc G ∧ TKs K H1 H3 ∧ Wd K H3 G, fun H3 ⟨acc3, G3, p3, t3, w3⟩ => ⟨_, by omega, acc3, G3, p3, t3, w3, hlt, rfl⟩, fun x H3 y => ?_⟩
    obtain ⟨s3, d, hd, rd⟩ := j.yld i H2 G2 x H3 t2 w2 (pst _ _ _ p2) hlt y
    have t3 := TKs.of (K := K) s3
    have t13 := t2.trans t3
    have w3 := w2.same s3
    refine lt x d _ (wipeD δ vs) H3 _ _ rd (((sl.mono t1).mono t13).wipe vs) (ps i d acc G2 hd p2) fun σ4 δ4 sl4 e4 q4 => ⟨by rw [e4]; exact wipe_wipe σ vs, δ4, G2, _, sl4, w3, q4, fun b G5 H5 q5 t5 w5 => ?_⟩
    have t15 := t13.trans t5
    cases b with
    | false => exact iteF ⟨acc, G5, q5, t15, w5⟩
    | true =>
      refine iteT ⟨δ4, G5, _, sl4.mono t5, w5, q5, fun ds1 st1 G6 H6 J1 q6 t6 w6 j1 => ?_⟩
      obtain ⟨Pw, r0, rst, rs, rd'⟩ := q6
      have t16 := t15.trans t6
      refine ⟨fun jj k H7 => ∃ acc G, Pw jj acc G ∧ TKs K H6 H7 ∧ Wd K H7 G ∧ jj ≤ ds1.length ∧ k = ds1.length - jj, ⟨_, acc, G6, r0, TKs.refl H6, w6, Nat.zero_le _, rfl⟩, ?_⟩
      rintro jj k H7 ⟨acc7, G7, p7, t7, w7, hj, rfl⟩
      by_cases hl1 : jj < ds1.length
      · refine .inr ⟨j1.go jj H7 G7 t7 w7 (rst _ _ _ p7) hl1, fun H8 => ∃ acc G, Pw (jj + 1) acc G ∧ TKs K H6 H8 ∧ Wd K H8 G, fun H8 ⟨a8, G8, p8, t8, w8⟩ => ⟨_, by omega, a8, G8, p8, t8, w8, hl1, rfl⟩, fun x1 H8 y1 => ?_⟩
        obtain ⟨s8, d1, hd1, rd1⟩ := j1.yld jj H7 G7 x1 H8 t7 w7 (rst _ _ _ p7) hl1 y1
        have t8 := TKs.of (K := K) s8
        have t68 := t7.trans t8
        have w8 := w7.same s8
        refine lt1 x1 d1 _ (wipeD δ4 vs1) H8 _ _ rd1 ((((sl4.mono t5).mono t6).mono t68).wipe vs1) (rs jj d1 acc7 G7 hd1 p7) fun σ9 δ9 sl9 e9 q9 => ⟨by rw [e9]; exact wipe_wipe σ4 vs1, δ9, G7, _, sl9, w8, q9, fun b G10 H10 q10 t10 w10 => ?_⟩
        cases b with
        | false => exact iteF ⟨acc7, G10, q10, t68.trans t10, w10⟩
        | true =>
          refine iteT ⟨δ9, G10, _, sl9.mono t10, w10, q10, fun y G11 vy H11 ⟨e11, l11, q11⟩ t11 w11 r11 => ?_⟩
          obtain ⟨us, hu, ru⟩ := wd_list w11 e11
          obtain ⟨t12, w12⟩ := put_lst w11 e11 hu (ru.append (.cons r11 .nil))
          exact ⟨us, hu, by rw [ru.len]; exact l11, _, _, q11, ((t68.trans t10).trans t11).trans t12, w12⟩
      · have e : jj = ds1.length := by omega
        subst e
        exact .inl ⟨j1.stop _ H7 G7 t7 w7 (rst _ _ _ p7) rfl, acc7, G7, rd' _ _ p7, t16.trans t7, w7⟩
  · have e : i = ds.length := by omega
    subst e
    exact .inl ⟨j.stop _ H2 G2 t2 w2 (pst _ _ _ p2) rfl, f _ _ _ _ (pd _ _ p2) (t1.trans t2) w2 (.ref p)⟩
section
variable {X : Cx}
theorem de_lc2 {elt tg iter tg1 iter1 : Expr} {ifs ifs1 : List Expr} {scope : Scope} {own : List (Str × Nat)} {vs1 : List Nat} {pos : Pos} {ti ti1 : TDI} {g g1 : TG} {ld ld1 : TL} {tt tt1 : TDT} {te : TD} (lt : LT X.K (own.map (·.2)) g ld) (lt1 : LT X.K vs1 g1 ld1) (hv : ∀ i ∈ vs1, i ∈ own.map (·.2)) (hc : X.calm = true) (hN : X.N.Nodup) (hi : DI X tg iter ti) (ok : BlkOk X.N X.env.scope scope own)
    (hg : ∀ (s : Shared) (H : Hp) (C : Addr) (cl : List (Str × Addr)) (fp : List Addr), PG (X.blk s H scope (compEnvC scope cl C X.env) fp) tg g) (ht : ∀ (s : Shared) (H : Hp) (C : Addr) (cl : List (Str × Addr)) (fp : List Addr), PTs (X.blk s H scope (compEnvC scope cl C X.env) fp) ifs (upT X.K tt))
    (hi1 : ∀ (s : Shared) (H : Hp) (C : Addr) (cl : List (Str × Addr)) (fp : List Addr), DI (X.blk s H scope (compEnvC scope cl C X.env) fp) tg1 iter1 ti1)
    (hg1 : ∀ (s : Shared) (H : Hp) (C : Addr) (cl : List (Str × Addr)) (fp : List Addr), PG (X.blk s H scope (compEnvC scope cl C X.env) fp) tg1 g1) (ht1 : ∀ (s : Shared) (H : Hp) (C : Addr) (cl : List (Str × Addr)) (fp : List Addr), PTs (X.blk s H scope (compEnvC scope cl C X.env) fp) ifs1 (upT X.K tt1))
    (he : ∀ (s : Shared) (H : Hp) (C : Addr) (cl : List (Str × Addr)) (fp : List Addr), PE (X.blk s H scope (compEnvC scope cl C X.env) fp) elt (up X.K te)) (hs : ∀ x, foldedSetIterable iter X.env x = pure x := by intro _; rfl) (hs1 : ∀ env x, foldedSetIterable iter1 env x = pure x := by intro _ _; rfl) :
    DE X (.ListComp elt [⟨tg, iter, ifs, 0⟩, ⟨tg1, iter1, ifs1, 0⟩] scope pos) (dLc2 ti ld tt ti1 ld1 tt1 te (own.map (·.2)) vs1) := PE_mono (pe_lc2 hc hN hi ok hv hg ht hi1 hg1 ht1 he hs hs1) fun σ H Q h => lc2_up lt lt1 h
theorem ds_setLc2 {i : Nat} {y : Str} {py : Pos} {elt tg iter tg1 iter1 : Expr} {ifs ifs1 : List Expr} {scope : Scope} {own : List (Str × Nat)} {vs1 : List Nat} {pos spos : Pos} {ti ti1 : TDI} {g g1 : TG} {ld ld1 : TL} {tt tt1 : TDT} {te : TD} (lt : LT X.K (own.map (·.2)) g ld) (lt1 : LT X.K vs1 g1 ld1) (hv : ∀ i ∈ vs1, i ∈ own.map (·.2)) (hc : X.calm = true) (hN : X.N.Nodup) (hy : X.N[i]? = some y) (hyl : X.env.scope.names.lookup y = some .local)
    (hsw : swapsWith (.ListComp elt [⟨tg, iter, ifs, 0⟩, ⟨tg1, iter1, ifs1, 0⟩] scope pos) (some (.Name y py)) spos.line X.env = pure true) (hi : DI X tg iter ti) (ok : BlkOk X.N X.env.scope scope own)
    (hg : ∀ (s : Shared) (H : Hp) (C : Addr) (cl : List (Str × Addr)) (fp : List Addr), PG (X.blk s H scope (compEnvC scope cl C X.env) fp) tg g) (ht : ∀ (s : Shared) (H : Hp) (C : Addr) (cl : List (Str × Addr)) (fp : List Addr), PTs (X.blk s H scope (compEnvC scope cl C X.env) fp) ifs (upT X.K tt))
    (hi1 : ∀ (s : Shared) (H : Hp) (C : Addr) (cl : List (Str × Addr)) (fp : List Addr), DI (X.blk s H scope (compEnvC scope cl C X.env) fp) tg1 iter1 ti1)
    (hg1 : ∀ (s : Shared) (H : Hp) (C : Addr) (cl : List (Str × Addr)) (fp : List Addr), PG (X.blk s H scope (compEnvC scope cl C X.env) fp) tg1 g1) (ht1 : ∀ (s : Shared) (H : Hp) (C : Addr) (cl : List (Str × Addr)) (fp : List Addr), PTs (X.blk s H scope (compEnvC scope cl C X.env) fp) ifs1 (upT X.K tt1))
    (he : ∀ (s : Shared) (H : Hp) (C : Addr) (cl : List (Str × Addr)) (fp : List Addr), PE (X.blk s H scope (compEnvC scope cl C X.env) fp) elt (up X.K te)) (hs : ∀ x, foldedSetIterable iter X.env x = pure x := by intro _; rfl) (hs1 : ∀ env x, foldedSetIterable iter1 env x = pure x := by intro _ _; rfl) :
    DS X (.Assign [.Name y py] (.ListComp elt [⟨tg, iter, ifs, 0⟩, ⟨tg1, iter1, ifs1, 0⟩] scope pos) spos) (dAsg (dLc2 ti ld tt ti1 ld1 tt1 te (own.map (·.2)) vs1) (gN i)) := PS_mono (ps_setLc2 hc hN hy hyl hsw hi ok hv hg ht hi1 hg1 ht1 he hs hs1) fun D σ H ⟨D', δ, G, sl, w, l, h⟩ => by
  refine lc2_up lt lt1 (Q := fun v H1 => gName i v σ H1 D.nx) ⟨δ, G, _, sl, w, h, fun d G1 v H1 q t1 w1 r1 => ?_⟩
  exact l.nx _ _ _ _ q t1 w1 ((sl.mono t1).set r1 i)
end
def Lc2G (ds : List DV) (st : DG → Prop) (ld : TL) (tt : TDT) (ti1 : TDI) (ld1 : TL) (tt1 : TDT) (te : TD) (δ0 : DSt) (vs1 : List Nat) (G1 : DG) (Q : DK) : Prop := ∀ p, G1 p = none → ∃ Pv : Nat → List DV → DG → Prop, Pv 0 [] (dupd G1 p (.lst [])) ∧ (∀ i acc G, Pv i acc G → st G) ∧
  (∀ i d acc G, ds[i]? = some d → Pv i acc G → ld d δ0 fun δ2 => tt δ2 G fun b G3 => if b = true then
      ti1 δ2 G3 fun ds1 st1 G4 => ∃ Pw : Nat → List DV → DG → Prop, Pw 0 acc G4 ∧ (∀ j acc G, Pw j acc G → st1 G) ∧
        (∀ j d1 acc G, ds1[j]? = some d1 → Pw j acc G → ld1 d1 (wipeD δ2 vs1) fun δ3 => tt1 δ3 G fun b G5 => if b = true then te δ3 G5 fun y G6 => G6 p = some (.lst acc) ∧ acc.length < sizeLine ∧ Pw (j + 1) (acc ++ [y]) (dupd G6 p (.lst (acc ++ [y]))) else Pw (j + 1) acc G5) ∧
        (∀ acc G, Pw ds1.length acc G → Pv (i + 1) acc G)
    else Pv (i + 1) acc G3) ∧
  (∀ acc G, Pv ds.length acc G → Q (.ref p) G)
theorem w_lc2 {ti ti1 : TDI} {ld ld1 : TL} {tt tt1 : TDT} {te : TD} {vs vs1 : List Nat} {δ : DSt} {G : DG} {Q : DK} (h : ti δ G fun ds st G1 => Lc2G ds st ld tt ti1 ld1 tt1 te (wipeD δ vs) vs1 G1 Q) : dLc2 ti ld tt ti1 ld1 tt1 te vs vs1 δ G Q := h
/-- for d in ds for e in xs d: gf d e, the store left as it is; dl d the slots behind the first target -/
theorem lc2s_pure {ds : List DV} {st : DG → Prop} {ld ld1 : TL} {tt tt1 : TDT} {ti1 : TDI} {te : TD} {δ0 : DSt} {vs1 : List Nat} {G1 : DG} {Q : DK} (dl : DV → DSt) (xs : DV → List DV) (gf : DV → DV → DV) (hsc : ∀ G, Sub G1 G → st G) (hl : (ds.flatMap fun d => (xs d).map (gf d)).length ≤ 1000000)
    (h1 : ∀ d ∈ ds, ∀ (G : DG) (k1 : DSt → List DV → (DG → Prop) → DG → Prop) (k0 : DG → Prop), Sub G1 G → (∀ st1, (∀ G', Sub G1 G' → st1 G') → k1 (dl d) (xs d) st1 G) → ld d δ0 fun δ2 => tt δ2 G fun b G3 => if b = true then ti1 δ2 G3 (k1 δ2) else k0 G3)
    (h2 : ∀ d ∈ ds, ∀ e ∈ xs d, ∀ (G : DG) (k1 : DK) (k0 : DG → Prop), Sub G1 G → k1 (gf d e) G → ld1 e (wipeD (dl d) vs1) fun δ3 => tt1 δ3 G fun b G5 => if b = true then te δ3 G5 k1 else k0 G5)
    (q : ∀ p G', G1 p = none → Sub G1 G' → G' p = some (.lst (ds.flatMap fun d => (xs d).map (gf d))) → Q (.ref p) G') : Lc2G ds st ld tt ti1 ld1 tt1 te δ0 vs1 G1 Q := by
  intro p np
  have sb : ∀ acc, Sub G1 (dupd G1 p (.lst acc)) := fun acc => (Sub.refl G1).new np
  have part : ∀ (i : Nat) (d : DV) (j : Nat), ds[i]? = some d → ((ds.take i).flatMap fun d => (xs d).map (gf d)).length + ((xs d).take j).length ≤ 1000000 := fun i d j hd => by
    refine Nat.le_trans ?_ hl
    have e : ds = ds.take i ++ d :: ds.drop (i + 1) := by
      have := List.take_append_drop i ds
      rw [List.drop_eq_getElem_cons (List.getElem?_eq_some_iff.mp hd).1] at this
      rw [← (List.getElem?_eq_some_iff.mp hd).2]
      exact this.symm
    have : (ds.flatMap fun d => (xs d).map (gf d)).length = ((ds.take i).flatMap fun d => (xs d).map (gf d)).length + ((xs d).map (gf d)).length + ((ds.drop (i + 1)).flatMap fun d => (xs d).map (gf d)).length := by
      conv => lhs; rw [e]
      rw [List.flatMap_append, List.flatMap_cons, List.length_append, List.length_append, Nat.add_assoc]
    rw [this, List.length_map, List.length_take]
    omega
  refine ⟨fun i acc G => acc = ((ds.take i).flatMap fun d => (xs d).map (gf d)) ∧ i ≤ ds.length ∧ G = dupd G1 p (.lst acc), ⟨rfl, Nat.zero_le _, rfl⟩, fun i acc G ⟨_, _, e⟩ => by rw [e]; exact hsc _ (sb _), ?_, ?_⟩
  · rintro i d acc G hd ⟨ea, hi, rfl⟩
    have hlt : i < ds.length := (List.getElem?_eq_some_iff.mp hd).1
    have et : ds.take (i + 1) = ds.take i ++ [d] := by rw [List.take_add_one, hd]; rfl
    have md := List.mem_of_getElem? hd
    refine h1 d md _ _ _ (sb acc) fun st1 hst1 => ?_
    refine ⟨fun j acc' G => acc' = acc ++ ((xs d).take j).map (gf d) ∧ j ≤ (xs d).length ∧ G = dupd G1 p (.lst acc'), ⟨by rw [List.take_zero, List.map_nil, List.append_nil], Nat.zero_le _, rfl⟩, fun j acc' G ⟨_, _, e⟩ => by rw [e]; exact hst1 _ (sb _), ?_, ?_⟩
    · rintro j e acc' G he ⟨ea', hj, rfl⟩
      have hlj : j < (xs d).length := (List.getElem?_eq_some_iff.mp he).1
      have ej : (xs d).take (j + 1) = (xs d).take j ++ [e] := by rw [List.take_add_one, he]; rfl
      refine h2 d md e (List.mem_of_getElem? he) _ _ _ (sb acc') ?_
      refine ⟨dupd_same, midlt ?_, ?_, hlj, dupd_dupd⟩
      · have := part i d (j + 1) hd
        rw [List.length_take] at this
        rw [ea', ea, List.length_append, List.length_map, List.length_take]
        omega
      · rw [ej, List.map_append, ea', List.append_assoc]; rfl
    · rintro acc' G ⟨ea', hj, rfl⟩
      refine ⟨?_, hlt, rfl⟩
      rw [et, List.flatMap_append, ea', ea, List.take_length, List.flatMap_cons, List.flatMap_nil, List.append_nil]
  · rintro acc G ⟨ea, _, rfl⟩
    rw [List.take_length] at ea
    exact q p _ np (sb _) (by rw [dupd_same, ea])
end DD
/-! what stands between two brackets, as far as it has been read -/
namespace DD
open PySem PySem.W L2 SX Cm
def lvF (w : Str) (t : DV) (r : Str) (l : Addr) : List (Str × DV) := [("within", .str w), ("take", t), ("rest", .str r), ("kinds", .ref l)]
structure Lv where
  w : Str
  take : Option Sk
  rest : Str
  ks : List Kd
def tkD : Option Sk → DV
  | none => .non
  | some s => eS s
def LvAt (C : Addr) (G : DG) (a l : Addr) (v : Lv) : Prop := G a = some (.obj C (lvF v.w (tkD v.take) v.rest l)) ∧ G l = some (.lst (eKs v.ks))
/-- all but L as ahead -/
def Frm (L : List Addr) (G G' : DG) : Prop := ∀ x o, x ∉ L → G x = some o → G' x = some o
theorem Frm.sub {L : List Addr} {G G' : DG} (s : Sub G G') : Frm L G G' := fun x o _ e => s x o e
theorem Frm.tr {L : List Addr} {A B C : DG} (h : Frm L A B) (g : Frm L B C) : Frm L A C := fun x o n e => g x o n (h x o n e)
theorem Frm.mono {L M : List Addr} {A B : DG} (h : Frm L A B) (i : ∀ x ∈ L, x ∈ M) : Frm M A B := fun x o n e => h x o (fun z => n (i x z)) e
/-- what a closed level is -/
inductive Cl : Lv → Kd → Prop
  | row {t : Sk} {r : Str} {ks : List Kd} : Cl ⟨"row", some t, r, ks⟩ (.row t (.mk r ks))
  | lst {t : Option Sk} {r : Str} {k : Kd} : Cl ⟨"list", t, r, [k]⟩ (.lst k)
/-- one mark read -/
inductive Stp : List Lv → Str → List Lv → Prop
  | opR {st : List Lv} : Stp st "[" (⟨"row", none, "", []⟩ :: st)
  | opL {st : List Lv} : Stp st "{" (⟨"list", none, "", []⟩ :: st)
  | clR {v u : Lv} {r : List Lv} {k : Kd} : v.w = "row" → Cl v k → Stp (v :: u :: r) "]" ({ u with ks := u.ks ++ [k] } :: r)
  | clL {v u : Lv} {r : List Lv} {k : Kd} : v.w = "list" → Cl v k → Stp (v :: u :: r) "}" ({ u with ks := u.ks ++ [k] } :: r)
  | sides {v : Lv} {r : List Lv} : v.w = "row" → v.take = none → Stp (v :: r) "--" ({ v with take := some (.mk v.rest v.ks), rest := "", ks := [] } :: r)
  | num {v : Lv} {r : List Lv} : Stp (v :: r) "number" ({ v with ks := v.ks ++ [.num] } :: r)
  | opn {v : Lv} {r : List Lv} {z : Str} : smB z = true → Stp (v :: r) z ({ v with ks := v.ks ++ [.opn z] } :: r)
  | rest {v : Lv} {r : List Lv} {z : Str} : gtB z = true → v.w = "row" → v.rest = "" → v.ks = [] → Stp (v :: r) z ({ v with rest := z } :: r)
inductive Runs : List Lv → List Str → List Lv → Prop
  | nil {st : List Lv} : Runs st [] st
  | cons {st st1 st2 : List Lv} {z : Str} {zs : List Str} : Stp st z st1 → Runs st1 zs st2 → Runs st (z :: zs) st2
theorem Runs.app {a b c : List Lv} {xs ys : List Str} (h : Runs a xs b) (g : Runs b ys c) : Runs a (xs ++ ys) c := by
  induction h with
  | nil => exact g
  | cons s _ ih => exact .cons s (ih g)
theorem Runs.one {a b : List Lv} {z : Str} (h : Stp a z b) : Runs a [z] b := .cons h .nil
/-! the levels in the store -/
inductive LvS (C : Addr) (B G : DG) (p : Addr) : List (Addr × Addr) → List Lv → Prop
  | nil : LvS C B G p [] []
  | cons {a l : Addr} {v : Lv} {as : List (Addr × Addr)} {r : List Lv} : LvAt C G a l v → l ≠ p → B a = none → B l = none → (∀ b ∈ as, b.1 ≠ a ∧ b.2 ≠ l) → LvS C B G p as r → LvS C B G p ((a, l) :: as) (v :: r)
theorem LvS.len {C : Addr} {B G : DG} {p : Addr} {as : List (Addr × Addr)} {st : List Lv} (h : LvS C B G p as st) : as.length = st.length := by
  induction h with
  | nil => rfl
  | cons _ _ _ _ _ _ ih => rw [List.length_cons, List.length_cons, ih]
theorem LvS.at {C : Addr} {B G : DG} {p : Addr} {as : List (Addr × Addr)} {st : List Lv} (h : LvS C B G p as st) : ∀ b ∈ as, (∃ fs, G b.1 = some (.obj C fs)) ∧ (∃ ds, G b.2 = some (.lst ds)) ∧ b.2 ≠ p := by
  induction h with
  | nil => intro b hb; cases hb
  | cons hv np _ _ _ _ ih =>
    intro b hb
    rcases List.mem_cons.mp hb with rfl | hb
    · exact ⟨⟨_, hv.1⟩, ⟨_, hv.2⟩, np⟩
    · exact ih b hb
end DD
/-! a list times a number -/
namespace DD
open PySem PySem.W L2 SX Cm
end DD
namespace Cm
open PySem PySem.W L2 SX
end Cm
/-! a tuple times a number -/
namespace DD
open PySem PySem.W L2 SX Cm
end DD
/-! shuffles written letter by letter -/
namespace DD
open PySem PySem.W L2 SX Cm
/-- a shuffle of these picks -/
def wdOf (n : Nat) (ps : List Nat) : Cm.Wd := (n, ps.map fun p => p + 97)
theorem pk_wd (n : Nat) (ps : List Nat) : pk (wdOf n ps) = ps := by
  show (ps.map fun p => p + 97).map (fun c => c - 97) = ps
  rw [List.map_map]
  exact (List.map_congr_left (g := id) fun p _ => Nat.add_sub_cancel p 97).trans (List.map_id ps)
theorem abc_mem : ∀ n, n < 9 → ∀ p, p < n → p + 97 ∈ abc n := by decide +kernel
theorem shuf_wd {n : Nat} {ps : List Nat} (h : ShOk n ps) : Shuf (wdOf n ps).1 (wdOf n ps).2 := by
  refine ⟨h.hn, by show (ps.map _).length ≤ 12; rw [List.length_map]; exact h.hl, fun c hc => ?_⟩
  obtain ⟨p, hp, rfl⟩ := List.mem_map.mp hc
  exact abc_mem n (by have := h.hn; omega) p (h.hp p hp)
end DD
/-! for k in d, d a dict with maps as keys -/
namespace L2
open PySem PySem.Spec PyProof.Rows Cm
end L2
namespace DD
open PySem PySem.W L2 SX Cm
section
variable {X : Cx} {tg e : Expr} {t : TD}
def dIMKeys (P : Program) (w : World) (t : TD) : TDI := fun δ G R => t δ G fun d G1 => ∃ p ob kvs, d = .ref p ∧ G1 p = some (mdG P w ob kvs) ∧ R (kvs.map fun kv => mkD kv.1) (fun G => G p = some (mdG P w ob kvs)) G1
theorem MRV.at {K : Frag} {H : Hp} {xs : MX} {kvs : List (MK × DV)} (h : MRV K H xs kvs) : ∀ {i : Nat} {z : MK × Addr × Value}, xs[i]? = Option.some z → ∃ kv, kvs[i]? = Option.some kv ∧ kv.1 = z.1 ∧ IsMK K H z.1 z.2.1 := by
  induction h with
  | nil => intro i z e; simp at e
  | @cons k b c d xs kvs hk r _ ih =>
    intro i z e
    cases i with
    | zero => cases e; exact ⟨_, rfl, rfl, hk⟩
    | succ i => exact ih (by simpa using e)
end
end DD
/-! readings of dicts with maps as keys -/
namespace DD
open PySem PySem.W L2 SX Cm
variable {P : Program} {w : World} {td ti tv : TD} {δ : DSt} {G : DG} {Q : DK} {nx : DSt → DG → Prop} {rt : DK} {bk ct : DSt → DG → Prop}
theorem w_mget (h : td δ G fun x G1 => ti δ G1 fun y G2 => ∃ p ob kvs k v, x = .ref p ∧ y = mkD k ∧ G2 p = some (mdG P w ob kvs) ∧ valM kvs k = some v ∧ Q v G2) : dMGet P w td ti δ G Q := h
theorem w_mget1 (h : td δ G fun x G1 => ∃ p, x = .ref p ∧ (∃ ob kvs, G1 p = some (mdG P w ob kvs)) ∧ ti δ G1 fun y G2 => ∃ ob kvs k, y = mkD k ∧ G2 p = some (mdG P w ob kvs) ∧ Q ((valM kvs k).getD .non) G2) : dMGet1 P w td ti δ G Q := h
theorem w_min_ {n : Bool} (h : ti δ G fun y G1 => td δ G1 fun x G2 => ∃ p ob kvs k, x = .ref p ∧ y = mkD k ∧ G2 p = some (mdG P w ob kvs) ∧ Q (.bl (ng n (valM kvs k).isSome)) G2) : dMIn P w n ti td δ G Q := h
theorem w_mnew (h : ∀ p, G p = none → Q (.ref p) (dupd G p (mdG P w ob0 []))) : dMNew P w δ G Q := h
theorem w_mput (h : tv δ G fun v G1 => td δ G1 fun x G2 => ti δ G2 fun y G3 => ∃ p ob kvs k ds, x = .ref p ∧ y = mkD k ∧ v = .tup ds ∧ G3 p = some (mdG P w ob kvs) ∧ kvs.length < sizeLine ∧ ∀ ob', nx δ (dupd G3 p (mdG P w ob' (putM kvs k v)))) : dMPut P w td ti tv ⟨nx, rt, bk, ct⟩ δ G := h
theorem wi_mkeys {R : List DV → (DG → Prop) → DG → Prop} (h : td δ G fun d G1 => ∃ p ob kvs, d = .ref p ∧ G1 p = some (mdG P w ob kvs) ∧ R (kvs.map fun kv => mkD kv.1) (fun G => G p = some (mdG P w ob kvs)) G1) : dIMKeys P w td δ G R := h
end DD
/-! for v in d.values(), d a dict with maps as keys -/
namespace L2
open PySem PySem.Spec PyProof.Rows Cm
/-- the values of the dict at d, its object ob -/
def ItMV (P : Program) (w : World) (d : Addr) (ob : Obj) (n : Nat) : It :=
  ⟨fun i H => ∃ xs, H d = some (mdO P w d ob xs) ∧ i < xs.length ∧ xs.length = n ∧ ∀ x ∈ xs, ∃ c, x.2.2 = .ref c, fun i H x H' => H' = H ∧ ∃ q, x = .ref q ∧ ∀ xs, H d = some (mdO P w d ob xs) → ∃ z, xs[i]? = some z ∧ z.2.2 = .ref q, fun i H => ∃ xs, H d = some (mdO P w d ob xs) ∧ xs.length = i ∧ xs.length = n⟩
section
variable {P : Program} {w : World} {K : PySem.W.Frag} {tg : Expr} {d : Addr} {ob : Obj} {es : Array DictEntry} {ep n : Nat}
theorem turn_mvals (it : Addr) (hod : ob.data = .dict es ep) : Turn P w K tg (ItMV P w d ob n) [it] it (fun i h => h.IsValIter it d i n ep) where
  mem := by simp
  obj := fun i h st b hb => by
    have e : b = it := by simpa using hb
    subst e
    obtain ⟨oi, e, c, dd⟩ := st
    exact ⟨oi, e, fun v z => by rw [dd] at z; cases z⟩
  keep := fun i h h' st k => by
    obtain ⟨oi, e, c, dd⟩ := st
    exact ⟨oi, k it (by simp) oi e, c, dd⟩
  item := by
    intro X hP hw hK hc i pins s σ H E I hf st hg
    subst hP hw hK
    obtain ⟨xs, hd, hi, hn, hv⟩ := hg
    obtain ⟨f0, f1, f2, f3, f4, f5⟩ := hf it (by simp)
    have look : ∀ {xs : MX}, H d = some (mdO X.prog X.w d ob xs) → s.heap.get? d = some ob ∧ ob.ExactDict ∧ es.toList = xs.map (entryOfKey (mkd X.prog X.w)) := fun {xs} h => by
      obtain ⟨⟨_, _, hgd, hx, es', ep', hdt, he, _⟩, _⟩ := I.hok d _ h
      obtain ⟨rfl, rfl⟩ := dict_ep hod hdt
      exact ⟨hgd, hx, he⟩
    obtain ⟨hgd, hx, he⟩ := look hd
    have hsz : es.size = n := by rw [size_of_entries he, hn]
    have hne : d ≠ it := fun z => by
      obtain ⟨oi, e, c, dd⟩ := id st
      rw [← z, hgd] at e
      cases e
      rw [hod] at dd; cases dd
    obtain ⟨z0, hz0⟩ : ∃ p, xs[i]? = some p := ⟨xs[i], List.getElem?_eq_getElem hi⟩
    have hen : es[i]? = some (entryOfKey (mkd X.prog X.w) z0) := by rw [entry_at he i, hz0]; rfl
    subst hsz
    refine (Walks.rawValues (I.ok.hd hc) it d hne es ep).item i s _ E (by omega) ⟨st, ⟨ob, hgd, hx, hod⟩⟩ fun v h' tk hv' st' fr => ?_
    obtain ⟨hi', ev⟩ := hv'
    have I1 : Inv X pins σ H { s with heap := h', toks := tk } := I.turned (t' := tk) (fun b ob hb e => fr b ob (by simpa using hb) e) f0 f1 f3 f4 f5
    obtain ⟨oi, e, c, dd⟩ := id st'.1
    obtain ⟨q0, hq0⟩ := hv z0 (List.mem_of_getElem? hz0)
    have ev2 : v = .ref q0 := by
      rw [ev]
      rw [Array.getElem?_eq_getElem hi'] at hen
      rw [Option.some.inj hen]
      exact hq0
    refine ⟨.ref q0, congrArg some ev2, go_of (s := { s with heap := h', toks := tk }) e c dd (by decide) ⟨.ref q0, H, I1, rfl, ⟨rfl, q0, rfl, fun xs' hx' => ?_⟩, st'.1, fun b hb => (hf b hb).1⟩⟩
    obtain ⟨_, _, he'⟩ := look hx'
    have e2 := entry_at he' i
    rw [hen] at e2
    cases hz' : xs'[i]? with
    | none => rw [hz'] at e2; cases e2
    | some z =>
      rw [hz'] at e2
      have e3 := congrArg DictEntry.val (Option.some.inj e2)
      exact ⟨z, rfl, e3.symm.trans hq0⟩
  done := by
    intro X hP hw hK hc i pins s σ H E I hf st hg
    subst hP hw hK
    obtain ⟨xs, hd, hi, hn⟩ := hg
    obtain ⟨f0, f1, f2, f3, f4, f5⟩ := hf it (by simp)
    obtain ⟨⟨_, _, hgd, hx, es', ep', hdt, he, _⟩, _⟩ := I.hok d _ hd
    have he : es.toList = xs.map (entryOfKey (mkd X.prog X.w)) := by
      obtain ⟨rfl, rfl⟩ := dict_ep hod hdt
      exact he
    have hsz : es.size = n := by rw [size_of_entries he, hn]
    have hne : d ≠ it := fun z => by
      obtain ⟨oi, e, c, dd⟩ := id st
      rw [← z, hgd] at e
      cases e
      rw [hod] at dd; cases dd
    subst hsz
    have ei : i = es.size := by omega
    subst ei
    exact (Walks.rawValues (I.ok.hd hc) it d hne es ep).done s _ E ⟨st, ⟨ob, hgd, hx, hod⟩⟩ fun h' tk fr => ⟨rfl, I.turned (t' := tk) (fun b ob hb e => fr b ob (by simpa using hb) e) f0 f1 f3 f4 f5⟩
  self := fun A i s Q E st h => wpAny_pyIter_valiter st h
end
section
variable {X : Cx} {tg e : Expr} {td : TE}
def iMVals (P : Program) (w : World) (td : TE) : TI := fun σ H R => td σ H fun x H1 => ∃ d ob xs, x = .ref d ∧ H1 d = some (mdO P w d ob xs) ∧ R (ItMV P w d ob xs.length) H1
theorem pi_mvals {apos cpos : Pos} (he : PE X e td) (hbase : attributeBase e "values" X.env (eval e X.env) = eval e X.env := by rfl) (hline : (apos.endLine == cpos.line) = true := by rfl) : PI X tg (.Call (.Attribute e "values" apos) [] [] cpos) (iMVals X.prog X.w td) := by
  refine ⟨fun pins s σ H R I h => ?_⟩
  refine wpAny_Call_method0_late hbase hline (thn (he.run pins s σ H _ I h) fun u s1 ⟨x, H1, I1, rx, d, ob, xs, ex, hd, q⟩ => ?_)
  subst ex
  obtain rfl : u = Value.ref d := rx
  obtain ⟨y1, y2⟩ := md_type I1 hd
  obtain ⟨⟨z, hs, hgd, hx, es, ep, hdt, hes, _⟩, _⟩ := I1.hok d _ hd
  refine ⟨"dict", "dict.values", PySem.F.plainAttrs_dict, PySem.F.slot_dict_values, PySem.F.type_dict_values, y1, y2, Calls.callWith_builtin rfl (PySem.evalArgs_none ?_)⟩
  refine call_meetsIn PySem.F.slot_dict_values ⟨ob, hgd, hx.1⟩ PySem.F.entry_dict_values (PySem.F.args_dict_values_1 _) (meets_dict_values_raw d hs) ⟨⟨es, ep, ob, hgd, hx, hdt⟩, ?_⟩
  have I2 : Inv X pins σ H1 { s1 with heap := s1.heap.push { cls := .type "dict_values", data := .fields #[.ref d] } } := I1.kept (t' := s1.toks) fun b o e => Heap.get?_push_of_some _ e
  refine wpAny_pyIter_values_raw (es := es) (ep := ep) ⟨_, Heap.get?_push_size _ rfl, rfl, rfl⟩ ⟨ob, Heap.get?_push_of_some _ hgd, hx, hdt⟩ ?_
  refine pi_one (tk := s1.toks) I2 _ (turn_mvals _ hdt) ⟨_, Heap.get?_push_size _ rfl, rfl, ?_⟩ q
  rw [size_of_entries hes] <;> rfl
end
end L2
namespace DD
open PySem PySem.W L2 SX Cm
section
variable {X : Cx} {tg e : Expr} {t : TD}
def dIMVals (P : Program) (w : World) (t : TD) : TDI := fun δ G R => t δ G fun d G1 => ∃ p ob kvs, d = .ref p ∧ G1 p = some (mdG P w ob kvs) ∧ R (kvs.map fun kv => kv.2) (fun G => G p = some (mdG P w ob kvs)) G1
theorem MRV.atv {K : Frag} {H : Hp} {xs : MX} {kvs : List (MK × DV)} (h : MRV K H xs kvs) : ∀ {i : Nat} {z : MK × Addr × Value}, xs[i]? = Option.some z → ∃ kv c, kvs[i]? = Option.some kv ∧ z.2.2 = .ref c ∧ RV K H (.ref c) kv.2 := by
  induction h with
  | nil => intro i z e; simp at e
  | @cons k b c d xs kvs hk r _ ih =>
    intro i z e
    cases i with
    | zero => cases e; exact ⟨_, c, rfl, rfl, r⟩
    | succ i => exact ih (by simpa using e)
theorem di_mvals {apos cpos : Pos} (h : DE X e t) (hbase : attributeBase e "values" X.env (eval e X.env) = eval e X.env := by rfl) (hline : (apos.endLine == cpos.line) = true := by rfl) : DI X tg (.Call (.Attribute e "values" apos) [] [] cpos) (dIMVals X.prog X.w t) := PI_mono (pi_mvals h hbase hline) fun σ H R' ⟨δ, G, R, sl, w, q, f⟩ => ⟨δ, G, _, sl, w, q, fun d G1 v H1 ⟨p, ob, kvs, e, hp, q1⟩ t1 w1 r1 => by
  subst e
  cases r1
  obtain ⟨xs, hx, mr⟩ := wd_md w1 hp
  have ln := mr.len
  refine ⟨p, ob, xs, rfl, hx, f _ _ _ _ _ q1 t1 w1 ⟨fun i H2 G2 t2 w2 l2 hi => ?_, fun i H2 G2 x H3 t2 w2 l2 hi y => ?_, fun i H2 G2 t2 w2 l2 hi => ?_⟩⟩
  · obtain ⟨xs2, hx2, mr2⟩ := wd_md w2 l2
    rw [List.length_map] at hi
    have := mr2.len
    exact ⟨xs2, hx2, by omega, by omega, mr2.vals⟩
  · obtain ⟨rfl, q, ex, y⟩ := y
    obtain ⟨xs2, hx2, mr2⟩ := wd_md w2 l2
    obtain ⟨z, hz, eq⟩ := y xs2 hx2
    obtain ⟨kv, c, hkv, e1, hm⟩ := mr2.atv hz
    rw [eq] at e1
    cases e1
    subst ex
    exact ⟨Same.refl _, kv.2, by rw [List.getElem?_map, hkv]; rfl, hm⟩
  · obtain ⟨xs2, hx2, mr2⟩ := wd_md w2 l2
    rw [List.length_map] at hi
    have := mr2.len
    exact ⟨xs2, hx2, by omega, by omega⟩⟩
theorem wi_mvals {P : Program} {w : World} {δ : DSt} {G : DG} {R : List DV → (DG → Prop) → DG → Prop} (h : t δ G fun d G1 => ∃ p ob kvs, d = .ref p ∧ G1 p = some (mdG P w ob kvs) ∧ R (kvs.map fun kv => kv.2) (fun G => G p = some (mdG P w ob kvs)) G1) : dIMVals P w t δ G R := h
end
end DD
/-! d = {k: v for ..} to a local name -/
namespace DD
open PySem PySem.W L2 SX Cm
end DD
/-! d = {k: v for ..} to a local name, the keys maps -/
namespace Cm
open PySem PySem.W L2 SX
section
variable {X : Cx} {pins : List (Addr × Obj)} {σ : St} {H : Hp} {s : Shared} {a b : Addr} {xs : MX} {k : MK} {o : Obj} {A : Around} {E : Value → Shared → Prop}
theorem md_put {c : Value} {Q : Unit → Shared → Prop} (hu : A.units + 2 < cLine) (I : Inv X pins σ H s) (e : H a = some (mdO X.prog X.w a o xs)) (hk : ∀ x ∈ xs, IsMK X.K H x.1 x.2.1) (hb : IsMK X.K H k b) (hl : xs.length < sizeLine) (h : ∀ o' s', Inv X pins σ (upd H a (mdO X.prog X.w a o' (storedH xs k b c))) s' → Q () s') :
    wpAny (model X.prog X.w) A (dictSet a (.ref b) c) Q E s := by
  obtain ⟨z, hd, dd⟩ := md_of I e hk
  refine wpAny_dictSet_heap (hsz := z) (show A.units + 1 < cLine by omega) (I.isMK hb) dd fun h' dd' hs => ?_
  have lz : (storedH xs k b c).length ≤ sizeLine := by
    unfold storedH
    split
    · rw [List.length_map]; exact z
    · rw [List.length_append, List.length_singleton]; omega
  have he : ∃ q, h'.get? a = some q := let ⟨q, _, _, hq, _⟩ := dd'; ⟨q, hq⟩
  obtain ⟨o', ok⟩ := mdO_new lz hd dd'
  exact h o' _ (d_write I (by rw [e]; exact True.intro) hs he (ok _))
end
end Cm
namespace L2
open PySem PySem.Spec PyProof.Rows Cm
/-- {k: v for ..}, the keys maps, the values tuples -/
def tMDc (P : Program) (w : World) (K : PySem.W.Frag) (wi : TI) (g : TG) (tt : TT) (tk tv : TE) (vs : List Nat) : TE := fun σ H Q => wi σ H fun J H1 => ∀ D, H1 D = none → ∃ W : Nat → Nat → Hp → Prop, (∃ m, W 0 m (upd H1 D (mdO P w D ob0 []))) ∧ ∀ i m G, W i m G →
  (J.stop i G ∧ Q (.ref D) G) ∨ (J.go i G ∧ ∃ Nx : Hp → Prop, (∀ G', Nx G' → ∃ m', m' < m ∧ W (i + 1) m' G') ∧ ∀ x G', J.yld i G x G' → g x (wipe σ vs) G' fun σ2 H2 => wipe σ2 vs = wipe σ vs ∧ tt σ2 H2 fun b H3 =>
    if b = true then tk σ2 H3 fun y H4 => tv σ2 H4 fun z H5 => ∃ ob xs k b c, y = .ref b ∧ z = .ref c ∧ IsMK K H5 k b ∧ (∀ x ∈ xs, IsMK K H5 x.1 x.2.1) ∧ H5 D = some (mdO P w D ob xs) ∧ xs.length < sizeLine ∧ ∀ ob', Nx (upd H5 D (mdO P w D ob' (storedH xs k b (.ref c)))) else Nx H3)
section
variable {X : Cx} {kx vx tg iter : Expr} {ifs : List Expr} {sc : Scope} {own : List (Str × Nat)} {pos : Pos} {wi : TI} {g : TG} {tt : TT} {tk tv : TE}
theorem mdc_core {pins : List (Addr × Obj)} {s : Shared} {σ : St} {H : Hp} {Q : VK} {pos' : Pos} {use : Option (Value → Sem Unit)} {Qf : Value → Shared → Prop}
    (hu : X.A.units + 2 < cLine) (hc : X.calm = true) (hN : X.N.Nodup) (I : Inv X pins σ H s) (hi : PI X tg iter wi) (ok : BlkOk X.N X.env.scope sc own)
    (hg : ∀ s H C cl fp, PG (X.blk s H sc (compEnvC sc cl C X.env) fp) tg g) (ht : ∀ s H C cl fp, PTs (X.blk s H sc (compEnvC sc cl C X.env) fp) ifs tt) (hk : ∀ s H C cl fp, PE (X.blk s H sc (compEnvC sc cl C X.env) fp) kx tk) (he : ∀ s H C cl fp, PE (X.blk s H sc (compEnvC sc cl C X.env) fp) vx tv) (hs : ∀ x, foldedSetIterable iter X.env x = pure x)
    (h : tMDc X.prog X.w X.K wi g tt tk tv (own.map (·.2)) σ H Q) (hR : ∀ D C t m H', Inv X pins σ H' t → Q (.ref D) H' → t.heap.Ns C m → FpOk X pins H' C → compPost (model X.prog X.w) X.A X.xe use Qf (.ref D) C (.ok .next) t) :
    wpAny (model X.prog X.w) X.A (comprehension (.DictComp kx vx [⟨tg, iter, ifs, 0⟩] sc pos) sc X.env pos' newDict false (eval iter X.env) use) Qf X.xe s := by
  have clos : ∀ y ∈ sc.names, y.2 = .free → ∃ c, X.env.cells.lookup y.1 = some c := fun y hy e => I.ok.has _ (ok.free y hy e)
  refine wpAny_comprehension_free (use := use) rfl hs (closure_ok clos) ok.kind (fun y hy e => by rw [ok.uniq y hy, e]) (thn (hi.run pins s σ H _ I h) fun xv s1 hx => thn hx fun itv s2 h2 => ?_)
  obtain ⟨it, fp, tn, J, H2, rfl, I2, T, st2, f2, q⟩ := h2
  refine wpAny_newObj_type (newEnv_comp ?_)
  have nD0 : H2 s2.heap.objs.size = none := I2.hok.fresh (Nat.le_refl _)
  have I30 := I2.laid (t' := s2.toks) (a := s2.heap.objs.size) (o := mdO X.prog X.w s2.heap.objs.size ob0 []) (fun b o e => Heap.get?_push_of_some _ e) (Nat.le_refl _) (md_empty s2.heap I2.big)
  generalize hD : s2.heap.objs.size = D at nD0 I30 ⊢
  have nD : H2 D = none := nD0
  obtain ⟨W, ⟨m0, w0⟩, turn⟩ := q D nD
  -- the dict that is to be filled
  generalize es3 : ({ s2 with heap := s2.heap.push { cls := .type "dict", data := .dict #[] } } : Shared) = s3
  have eh3 : s3.heap = s2.heap.push { cls := .type "dict", data := .dict #[] } := by rw [← es3]
  have I3 : Inv X pins σ (upd H2 D (mdO X.prog X.w D ob0 [])) s3 := by rw [← es3]; exact I30
  have lt2 : ∀ b ∈ fp, b < s2.heap.objs.size := fun b hb => Heap.lt_size (T.obj _ _ st2 b hb).choose_spec.1
  have f3 : ∀ b ∈ fp, FpOk X pins (upd H2 D (mdO X.prog X.w D ob0 [])) b ∧ b < s3.heap.objs.size := fun b hb => by
    have l := lt2 b hb
    have f := f2 b hb
    refine ⟨⟨(upd_ne (hD ▸ Nat.ne_of_lt l)).trans f.1, f.2⟩, ?_⟩
    rw [eh3, Heap.size_push]; exact Nat.lt_succ_of_lt l
  have st3 : tn 0 s3.heap := T.keep _ _ _ st2 fun b _ o e => eh3 ▸ Heap.get?_push_of_some _ e
  have I4 := block_start I3 ok hN f3
  have pg := hg s3 (upd H2 D (mdO X.prog X.w D ob0 [])) s3.heap.objs.size (cellsFrom (s3.heap.objs.size + 1) sc.names (cloFrom X.env.cells sc.names [])) fp
  have pt := ht s3 (upd H2 D (mdO X.prog X.w D ob0 [])) s3.heap.objs.size (cellsFrom (s3.heap.objs.size + 1) sc.names (cloFrom X.env.cells sc.names [])) fp
  have px := hk s3 (upd H2 D (mdO X.prog X.w D ob0 [])) s3.heap.objs.size (cellsFrom (s3.heap.objs.size + 1) sc.names (cloFrom X.env.cells sc.names [])) fp
  have pe := he s3 (upd H2 D (mdO X.prog X.w D ob0 [])) s3.heap.objs.size (cellsFrom (s3.heap.objs.size + 1) sc.names (cloFrom X.env.cells sc.names [])) fp
  have nf : ∀ b ∈ fp, (upd H2 D (mdO X.prog X.w D ob0 [])) b = none := fun b hb => (f3 b hb).1.1
  show codeAny _ _ (.compStart _ 0 _ _ (compEnvC sc (cellsFrom (s3.heap.objs.size + 1) sc.names (cloFrom X.env.cells sc.names [])) s3.heap.objs.size X.env))
    (compPost _ X.A X.xe use Qf (.ref D) s3.heap.objs.size) { s3 with heap := pushCells (s3.heap.push { cls := .type "dict", data := .dict #[] }) sc.names }
  generalize ece : compEnvC sc (cellsFrom (s3.heap.objs.size + 1) sc.names (cloFrom X.env.cells sc.names [])) s3.heap.objs.size X.env = ce at I4 pg pt px pe ⊢
  have cL : ce.locals = s3.heap.objs.size := by rw [← ece]; rfl
  generalize eH3 : upd H2 D (mdO X.prog X.w D ob0 []) = H3 at I3 I4 pg pt px pe w0 nf f3
  generalize es4 : ({ s3 with heap := pushCells (s3.heap.push { cls := .type "dict", data := .dict #[] }) sc.names } : Shared) = s4 at I4 ⊢
  have st4 : tn 0 s4.heap := T.keep _ _ _ st3 fun b _ o e => es4 ▸ pushCells_keeps _ _ _ _ (Heap.get?_push_of_some _ e)
  have back : ∀ {pins2 : List (Addr × Obj)} {σ2 : St} {G : Hp} {t : Shared}, Inv (X.blk s3 H3 sc ce fp) pins2 σ2 G t → Inv X pins σ G t ∧ G s3.heap.objs.size = none ∧ ∃ m, t.heap.Ns s3.heap.objs.size m := fun {pins2 σ2 G t} K => by
    refine ⟨I3.call' (ch := fp) K.os K.base K.hok K.bare fun b hb => ?_, cL ▸ K.free, ?_⟩
    · have f := (f3 b hb).1
      exact ⟨f.2.2.2.1, f.2.1, f.2.2.2.2.1, f.2.2.2.2.2⟩
    · obtain ⟨m, n, _⟩ := K.loc
      have n : t.heap.Ns ce.locals m := n
      exact ⟨m, cL ▸ n⟩
  have still : ∀ {σ' : St} {G : Hp} {t : Shared}, Inv (X.blk s3 H3 sc ce fp) [] σ' G t → (∀ b ∈ fp, G b = none) → ∀ b ∈ fp, FpOk (X.blk s3 H3 sc ce fp) [] G b := fun {σ' G t} K n b hb =>
    ⟨n b hb, (K.ok.exf b hb).1, K.ok.exfs b hb, .inl hb, fun x c e => (K.ok.exf b hb).2 x c e, fun p hp => nomatch (show p ∈ ([] : List (Addr × Obj)) from hp)⟩
  have loop : codeAny (model X.prog X.w) X.A (.compLoop (.DictComp kx vx [⟨tg, iter, ifs, 0⟩] sc pos) 0 (.ref it) (.ref D) ce) (compPost (model X.prog X.w) X.A X.xe use Qf (.ref D) s3.heap.objs.size) s4 := by
    refine compLoop_anyD (fun n t => ∃ i G, Inv (X.blk s3 H3 sc ce fp) [] (wipe σ (own.map (·.2))) G t ∧ tn i t.heap ∧ (∀ b ∈ fp, G b = none) ∧ W i n G) ?_ m0 ⟨0, H3, I4, st4, nf, w0⟩
    rintro n s5 ⟨i, H5, I5, st5, n5, w5⟩
    rcases turn i n H5 w5 with ⟨stop, qq⟩ | ⟨go, Nx, hNx, step⟩
    · refine thnF (T.done (X.blk s3 H3 sc ce fp) rfl rfl rfl hc i [] s5 _ H5 (fun _ _ => False) I5 (still I5 n5) st5 stop) fun r s6 ⟨hr, I6⟩ => ?_
      subst hr
      obtain ⟨I7, nC, m, hn⟩ := back I6
      exact hR D s3.heap.objs.size s6 m H5 I7 qq hn (I3.fpOk (Nat.le_refl _) nC)
    · refine thnF (T.item (X.blk s3 H3 sc ce fp) rfl rfl rfl hc i [] s5 _ H5 (fun _ _ => False) I5 (still I5 n5) st5 go) fun r s6 ⟨u, hr, h6⟩ => ?_
      subst hr
      refine thnF h6 fun _ s7 ⟨x, H7, I7, r7, y7, st7, n7⟩ => ?_
      refine thnF (pg.run _ s7 _ H7 x u _ (I7.pinned (still I7 n7) (T.obj _ _ st7)) r7 (step x H7 y7)) fun _ s8 ⟨σ8, H8, I8, hw8, q8⟩ => ?_
      refine thnF (pt.run _ s8 σ8 H8 _ I8 q8) fun b s9 ⟨H9, I9, q9⟩ => ?_
      have fin : ∀ {t : Shared} {G : Hp}, Inv (X.blk s3 H3 sc ce fp) ([] ++ pinsAt fp s7.heap) σ8 G t → Nx G → ∃ m, m < n ∧ ∃ i G, Inv (X.blk s3 H3 sc ce fp) [] (wipe σ (own.map (·.2))) G t ∧ tn i t.heap ∧ (∀ b ∈ fp, G b = none) ∧ W i m G := fun {t G} K nx => by
        obtain ⟨m', hm, w'⟩ := hNx G nx
        have pinned : ∀ b ∈ fp, ∀ o, s7.heap.get? b = some o → t.heap.get? b = some o ∧ G b = none := fun b hb o e => by
          have z := K.pin (b, o) (List.mem_append_right _ (List.mem_append_right _ (mem_pinsAt hb e)))
          exact ⟨z.1, z.2.1⟩
        refine ⟨m', hm, i + 1, G, (K.unpinned (pins := [])).weak (by rw [← hw8, wipe_length]) (fun j v e => ?_), T.keep _ _ _ st7 fun b hb o e => (pinned b hb o e).1, fun b hb => ?_, w'⟩
        · rw [← hw8] at e; exact (wipe_some e).1
        · obtain ⟨o, e, _⟩ := T.obj _ _ st7 b hb
          exact (pinned b hb o e).2
      cases b with
      | false =>
        simp only [Bool.false_eq_true, if_false] at q9 ⊢
        exact fin I9 q9
      | true =>
        simp only [if_true] at q9 ⊢
        refine thnF (px.run _ s9 σ8 H9 _ I9 q9) fun z s10 ⟨yk, H10, I10, r10, q10⟩ => thnF (pe.run _ s10 σ8 H10 _ I10 q10) fun z2 s11 ⟨yv, H11, I11, r11, ob, xs, k, b, c, ey, ez, hb, hxs, hD11, hz11, nx⟩ => ?_
        subst ey ez
        obtain rfl : z = Value.ref b := r10
        obtain rfl : z2 = Value.ref c := r11
        exact md_put (X := X.blk s3 H3 sc ce fp) (by exact hu) I11 hD11 hxs hb hz11 fun ob' s12 I12 => fin I12 (nx ob')
  exact codeAny_compStart_dict loop (T.self X.A 0 _ _ _ st4 loop)
theorem pe_mdc (hu : X.A.units + 2 < cLine) (hc : X.calm = true) (hN : X.N.Nodup) (hi : PI X tg iter wi) (ok : BlkOk X.N X.env.scope sc own)
    (hg : ∀ s H C cl fp, PG (X.blk s H sc (compEnvC sc cl C X.env) fp) tg g) (ht : ∀ s H C cl fp, PTs (X.blk s H sc (compEnvC sc cl C X.env) fp) ifs tt) (hk : ∀ s H C cl fp, PE (X.blk s H sc (compEnvC sc cl C X.env) fp) kx tk) (he : ∀ s H C cl fp, PE (X.blk s H sc (compEnvC sc cl C X.env) fp) vx tv) (hs : ∀ x, foldedSetIterable iter X.env x = pure x := by intro _; rfl) :
    PE X (.DictComp kx vx [⟨tg, iter, ifs, 0⟩] sc pos) (tMDc X.prog X.w X.K wi g tt tk tv (own.map (·.2))) := by
  refine ⟨fun pins s σ H Q I h => ?_⟩
  rw [arm_eval_DictComp]
  refine mdc_core hu hc hN I hi ok hg ht hk he hs h fun D C t m G J q hn f => ⟨m, hn, fun h2 sb => ⟨.ref D, G, ?_, rfl, q⟩⟩
  exact J.turned (t' := t.toks) (fun b o hb e => (sb.2 b hb).trans e) f.1 f.2.1 f.2.2.2.1 f.2.2.2.2.1 f.2.2.2.2.2
end
end L2
namespace DD
open PySem PySem.W L2 SX Cm
/-- what a comprehension that makes a dict with maps as keys wants -/
def MDcG (P : Program) (w : World) (ds : List DV) (st : DG → Prop) (ld : TL) (tt : TDT) (tk tv : TD) (δ : DSt) (G1 : DG) (Q : DK) : Prop := ∀ p, G1 p = none → ∃ Pv : Nat → List (MK × DV) → DG → Prop, Pv 0 [] (dupd G1 p (mdG P w ob0 [])) ∧ (∀ i kvs G, Pv i kvs G → st G) ∧
  (∀ i d kvs G, ds[i]? = some d → Pv i kvs G → ld d δ fun δ2 => tt δ2 G fun b G3 => if b = true then tk δ2 G3 fun y G4 => tv δ2 G4 fun u G5 => ∃ k us ob, y = mkD k ∧ u = .tup us ∧ G5 p = some (mdG P w ob kvs) ∧ kvs.length < sizeLine ∧ ∀ ob', Pv (i + 1) (putM kvs k u) (dupd G5 p (mdG P w ob' (putM kvs k u))) else Pv (i + 1) kvs G3) ∧
  (∀ kvs G, Pv ds.length kvs G → Q (.ref p) G)
def dMDc (P : Program) (w : World) (ti : TDI) (ld : TL) (tt : TDT) (tk tv : TD) (vs : List Nat) : TD := fun δ G Q => ti δ G fun ds st G1 => MDcG P w ds st ld tt tk tv (wipeD δ vs) G1 Q
theorem w_mdc {P : Program} {w : World} {ti : TDI} {ld : TL} {tt : TDT} {tk tv : TD} {vs : List Nat} {δ : DSt} {G : DG} {Q : DK} (h : ti δ G fun ds st G1 => MDcG P w ds st ld tt tk tv (wipeD δ vs) G1 Q) : dMDc P w ti ld tt tk tv vs δ G Q := h
theorem mdc_up {P : Program} {wd : World} {K : Frag} {ti : TDI} {g : TG} {ld : TL} {tt : TDT} {tk tv : TD} {vs : List Nat} (lt : LT K vs g ld) {σ : St} {H : Hp} {Q : VK} (h : up K (dMDc P wd ti ld tt tk tv vs) σ H Q) : tMDc P wd K (upI K ti) g (upT K tt) (up K tk) (up K tv) vs σ H Q := by
  obtain ⟨δ, G, R, sl, w, h, f⟩ := h
  refine ⟨δ, G, _, sl, w, h, fun ds st G1 H1 J q t1 w1 j p np => ?_⟩
  obtain ⟨Pv, p0, pst, ps, pd⟩ := q p (w1.free np)
  have s0 : Same H1 (upd H1 p (mdO P wd p ob0 [])) := same_new np _
  refine ⟨fun i m H2 => ∃ acc G, Pv i acc G ∧ TKs K H1 H2 ∧ Wd K H2 G ∧ i ≤ ds.length ∧ m = ds.length - i, ⟨_, [], _, p0, TKs.of s0, w1.new np fun O => or_md upd_same .nil, Nat.zero_le _, rfl⟩, ?_⟩
  rintro i m H2 ⟨acc, G2, p2, t2, w2, hi, rfl⟩
  by_cases hlt : i < ds.length
  · refine .inr ⟨j.go i H2 G2 t2 w2 (pst _ _ _ p2) hlt, fun H3 => ∃ acc G, Pv (i + 1) acc G ∧ TKs K H1 H3 ∧ Wd K H3 G, fun H3 ⟨acc3, G3, p3, t3, w3⟩ => ⟨_, by omega, acc3, G3, p3, t3, w3, hlt, rfl⟩, fun x H3 y => ?_⟩
    obtain ⟨s3, d, hd, rd⟩ := j.yld i H2 G2 x H3 t2 w2 (pst _ _ _ p2) hlt y
    have t3 := TKs.of (K := K) s3
    have t13 := t2.trans t3
    have w3 := w2.same s3
    refine lt x d _ (wipeD δ vs) H3 _ _ rd (((sl.mono t1).mono t13).wipe vs) (ps i d acc G2 hd p2) fun σ4 δ4 sl4 e4 q4 => ⟨by rw [e4]; exact wipe_wipe σ vs, δ4, G2, _, sl4, w3, q4, fun b G5 H5 q5 t5 w5 => ?_⟩
    have t15 := t13.trans t5
    cases b with
    | false => exact iteF ⟨acc, G5, q5, t15, w5⟩
    | true =>
      refine iteT ⟨δ4, G5, _, sl4.mono t5, w5, q5, fun y G6 vy H6 q6 t6 w6 r6 => ⟨δ4, G6, _, (sl4.mono t5).mono t6, w6, q6, fun u G7 vu H7 ⟨k, us, ob, ek, eu, e7, l7, q7⟩ t7 w7 r7 => ?_⟩⟩
      subst ek eu
      obtain ⟨b, rfl, hb⟩ := RV.mk (r6.mono t7)
      obtain ⟨c, ys, rfl, hs', rr⟩ := RV.tupD r7
      obtain ⟨xs, hx, mr⟩ := wd_md w7 e7
      refine ⟨ob, xs, k, b, c, rfl, rfl, hb, mr.keys, hx, by rw [mr.len]; exact l7, fun ob' => ⟨_, _, q7 ob', ((t15.trans t6).trans t7).trans (tks_md hx), ?_⟩⟩
      exact w7.put ⟨_, e7, fun L φ z => by cases z⟩ (tks_md hx) fun O => or_md upd_same ((mr.put hb r7).mono (tks_md hx))
  · have e : i = ds.length := by omega
    subst e
    exact .inl ⟨j.stop _ H2 G2 t2 w2 (pst _ _ _ p2) rfl, f _ _ _ _ (pd _ _ p2) (t1.trans t2) w2 (.ref p)⟩
section
variable {X : Cx}
theorem de_mdc {kx vx tg iter : Expr} {ifs : List Expr} {sc : Scope} {own : List (Str × Nat)} {pos : Pos} {ti : TDI} {g : TG} {ld : TL} {tt : TDT} {tk tv : TD} (hu : X.A.units + 2 < cLine) (lt : LT X.K (own.map (·.2)) g ld) (hc : X.calm = true) (hN : X.N.Nodup) (hi : DI X tg iter ti) (ok : BlkOk X.N X.env.scope sc own)
    (hg : ∀ s H C cl fp, PG (X.blk s H sc (compEnvC sc cl C X.env) fp) tg g) (ht : ∀ s H C cl fp, PTs (X.blk s H sc (compEnvC sc cl C X.env) fp) ifs (upT X.K tt)) (hk : ∀ s H C cl fp, PE (X.blk s H sc (compEnvC sc cl C X.env) fp) kx (up X.K tk)) (he : ∀ s H C cl fp, PE (X.blk s H sc (compEnvC sc cl C X.env) fp) vx (up X.K tv)) (hs : ∀ x, foldedSetIterable iter X.env x = pure x := by intro _; rfl) :
    DE X (.DictComp kx vx [⟨tg, iter, ifs, 0⟩] sc pos) (dMDc X.prog X.w ti ld tt tk tv (own.map (·.2))) := PE_mono (pe_mdc hu hc hN hi ok hg ht hk he hs) fun σ H Q h => mdc_up lt h
end
end DD
/-! comprehensions with two for whose elements are all the same -/
namespace DD
open PySem PySem.W L2 SX Cm
theorem lc2s_rep {ds : List DV} {st : DG → Prop} {ld ld1 : TL} {tt tt1 : TDT} {ti1 : TDI} {te : TD} {δ0 : DSt} {vs1 : List Nat} {G1 : DG} {Q : DK} (c : DV) (m : Nat) (T : DV → DSt → List DV → Prop) (hsc : ∀ G, Sub G1 G → st G) (hm : ∀ d ∈ ds, ∀ δ2 xs, T d δ2 xs → xs.length ≤ m) (hl : ds.length * m ≤ 1000000)
    (h1 : ∀ d ∈ ds, ∀ (G : DG) (k1 : DSt → List DV → (DG → Prop) → DG → Prop) (k0 : DG → Prop), Sub G1 G → (∀ δ2 xs st1, T d δ2 xs → (∀ G', Sub G1 G' → st1 G') → k1 δ2 xs st1 G) → k0 G → ld d δ0 fun δ2 => tt δ2 G fun b G3 => if b = true then ti1 δ2 G3 (k1 δ2) else k0 G3)
    (h2 : ∀ d ∈ ds, ∀ δ2 xs, T d δ2 xs → ∀ e ∈ xs, ∀ (G : DG) (k1 : DK) (k0 : DG → Prop), Sub G1 G → k1 c G → ld1 e (wipeD δ2 vs1) fun δ3 => tt1 δ3 G fun b G5 => if b = true then te δ3 G5 k1 else k0 G5)
    (q : ∀ p G' n, G1 p = none → Sub G1 G' → G' p = some (.lst (List.replicate n c)) → Q (.ref p) G') : Lc2G ds st ld tt ti1 ld1 tt1 te δ0 vs1 G1 Q := by
  intro p np
  have sb : ∀ acc, Sub G1 (dupd G1 p (.lst acc)) := fun acc => (Sub.refl G1).new np
  have snoc : ∀ n : Nat, List.replicate n c ++ [c] = List.replicate (n + 1) c := fun n => List.replicate_succ'.symm
  refine ⟨fun i acc G => ∃ n, acc = List.replicate n c ∧ n ≤ i * m ∧ i ≤ ds.length ∧ G = dupd G1 p (.lst acc), ⟨0, rfl, Nat.zero_le _, Nat.zero_le _, rfl⟩, fun i acc G ⟨_, _, _, _, e⟩ => by rw [e]; exact hsc _ (sb _), ?_, ?_⟩
  · rintro i d acc G hd ⟨n, ea, hn, hi, rfl⟩
    have hlt : i < ds.length := (List.getElem?_eq_some_iff.mp hd).1
    have md := List.mem_of_getElem? hd
    refine h1 d md _ _ _ (sb acc) (fun δ2 xs st1 hT hst => ?_) ⟨n, ea, by rw [Nat.add_mul]; omega, hlt, rfl⟩
    have lx := hm d md δ2 xs hT
    refine ⟨fun j acc' G => ∃ n', acc' = List.replicate n' c ∧ n' ≤ i * m + j ∧ j ≤ xs.length ∧ G = dupd G1 p (.lst acc'), ⟨n, ea, hn, Nat.zero_le _, rfl⟩, fun j acc' G ⟨_, _, _, _, e⟩ => by rw [e]; exact hst _ (sb _), ?_, ?_⟩
    · rintro j e acc' G he ⟨n', ea', hn', hj, rfl⟩
      have hlj : j < xs.length := (List.getElem?_eq_some_iff.mp he).1
      refine h2 d md δ2 xs hT e (List.mem_of_getElem? he) _ _ _ (sb acc') ?_
      refine ⟨dupd_same, midlt ?_, n' + 1, by rw [ea', snoc], by omega, hlj, dupd_dupd⟩
      rw [ea', List.length_replicate]
      have : (i + 1) * m ≤ ds.length * m := Nat.mul_le_mul_right m hlt
      rw [Nat.add_mul] at this
      omega
    · rintro acc' G ⟨n', ea', hn', hj, rfl⟩
      exact ⟨n', ea', by rw [Nat.add_mul]; omega, hlt, rfl⟩
  · rintro acc G ⟨n, ea, _, _, rfl⟩
    exact q p _ n np (sb _) (by rw [dupd_same, ea])
end DD
/-! a call of a local name that holds a def; x or y of tuples -/
namespace DD
open PySem PySem.W L2 SX Cm
section
variable {X : Cx} {k i : Nat} {f : Addr} {ps : List Str} {dsp : DSp} {x : Str} {e : Expr} {es : List Expr} {ts : TDA} {p pos : Pos}
/-- x or y, x a tuple -/
def dOrT (ta tb : TD) : TD := fun δ G Q => ta δ G fun x G1 => ∃ ds, x = .tup ds ∧ if (!ds.isEmpty) = true then Q (.tup ds) G1 else tb δ G1 Q
theorem w_orT {ta tb : TD} {δ : DSt} {G : DG} {Q : DK} (h : ta δ G fun x G1 => ∃ ds, x = .tup ds ∧ if (!ds.isEmpty) = true then Q (.tup ds) G1 else tb δ G1 Q) : dOrT ta tb δ G Q := h
end
end DD
/-! promises of two outcomes over data: a value, or an error of a class -/
namespace DD
open PySem PySem.W L2 SX Cm
abbrev DXk := Value → DG → Prop
def FinX (K : Frag) (H : Hp) (RX : DXk) (E : XK) : Prop := ∀ cls G H', RX cls G → TKs K H H' → Wd K H' G → E cls none H'
theorem FinX.step {K : Frag} {H H1 : Hp} {RX : DXk} {E : XK} (f : FinX K H RX E) (t : TKs K H H1) : FinX K H1 RX E := fun c G H' r t' w => f c G H' r (t.trans t') w
theorem inv_tks {X : Cx} {pins : List (Addr × Obj)} {σ : L2.St} {H : Hp} {s : Shared} (I : Inv X pins σ H s) : TKs X.K X.H_0 H := fun a xs h => by
  rcases h with (h | ⟨o, h⟩) | h
  · exact .inl (.inl (I.base.tups _ _ h))
  · exact .inl (.inr ⟨o, I.base.frzs _ _ _ h⟩)
  · exact .inr h
abbrev DSpX := List DV → DG → DK → DXk → Prop
def toSpX (K : Frag) (n : Nat) (dsp : DSpX) : Sp := fun vs H Q E => ∃ ds G R RX, RVs K H vs ds ∧ Wd K H G ∧ ds.length = n ∧ dsp ds G R RX ∧ Fin K H R Q ∧ FinX K H RX E
/-- less is known of the store where an error is let out -/
def LessX (RX : DXk) : DXk := fun c G => ∃ G', Sub G' G ∧ RX c G'
theorem LessX.of {RX : DXk} {c : Value} {G : DG} (h : RX c G) : LessX RX c G := ⟨G, Sub.refl G, h⟩
theorem FinX.less {K : Frag} {H : Hp} {RX : DXk} {E : XK} (f : FinX K H RX E) : FinX K H (LessX RX) E := fun c G H' ⟨G', s, r⟩ t w => f c G' H' r t (w.sub s)
/-- the def nm keeps a promise of two outcomes, by level k -/
def HasX (P : Program) (w : World) (K : Frag) (mg : Str → Option Value) (base : Heap) (k : Nat) (nm : Str) (ps : List Str) (dsp : DSpX) : Prop :=
  ∃ f fd, FnOk P w K mg base (L2.CX P w) k f fd ps (toSpX K ps.length dsp) ∧ L2.Binds K fd ps [] ∧ keepIn K (.ref f) = true ∧ mg nm = some (.ref f) ∧ ∃ oc od osl, K.lookup f = some ⟨oc, od, .func fd, osl⟩
/-! ### defs -/
section
variable {P : Program} {w : World} {K : Frag} {mg : Str → Option Value} {base : Heap}
theorem hasx_mk {nm : Str} {st : Stmt} {f : Addr} {fd : FuncData} {N ps : List Str} {k : Nat} {dsp : DSpX} (F : Fun K nm nm st f fd) (b : L2.Binds K fd ps []) (m : mg nm = some (.ref f)) (S : FnScope N ps (defScope st))
    (body : ∀ (cdv : Value) (A : Around) (outer : List Env) (s : Shared) (H : Hp) (E : XK), Room k (A.deeper (PyProof.Rows.envOfC nm (defScope st) s.heap.objs.size f cdv)) → ∀ ds G R RX, ds.length = ps.length → FinX K H (LessX RX) E → dsp ds G R RX →
      ∃ t, DSs (cxOf (L2.CX P w) P w K mg base N nm (defScope st) f cdv A outer s H E) (defBody st) t ∧ t { nx := fun _ G => Less R .non G, rt := Less R } (dstart N ds) G) : HasX P w K mg base (k + 1) nm ps dsp := by
  refine ⟨f, fd, F.okX S (fun vs H Q E h => ?_) (fun cdv A outer s H vs Q E hr h => ?_), b, F.kp, m, F.look⟩
  · obtain ⟨ds, G, R, RX, r, w, l, _⟩ := h
    rw [r.len]; exact l
  · obtain ⟨ds, G, R, RX, r, wd, l, h, fin, fx⟩ := h
    obtain ⟨t, h1, h2⟩ := body cdv A outer s H E hr ds G R RX l fx.less h
    exact ⟨_, h1, _, _, G, sl_start r, wd, links_def fin, h2⟩
theorem atx_mk {nm : Str} {st : Stmt} {N ps : List Str} {k : Nat} {dsp : DSpX} (a : At K mg nm st ps) (S : FnScope N ps (defScope st))
    (body : ∀ (f : Addr) (cdv : Value) (A : Around) (outer : List Env) (s : Shared) (H : Hp) (E : XK), Room k (A.deeper (PyProof.Rows.envOfC nm (defScope st) s.heap.objs.size f cdv)) → ∀ ds G R RX, ds.length = ps.length → FinX K H (LessX RX) E → dsp ds G R RX →
      ∃ t, DSs (cxOf (L2.CX P w) P w K mg base N nm (defScope st) f cdv A outer s H E) (defBody st) t ∧ t { nx := fun _ G => Less R .non G, rt := Less R } (dstart N ds) G) : HasX P w K mg base (k + 1) nm ps dsp := by
  obtain ⟨f, fd, F, b, m⟩ := a
  exact hasx_mk F b m S (body f)
end
/-! ### a call that may let an error out, within a def that lets it out -/
section
variable {X : Cx} {k : Nat} {nm : Str} {ps : List Str} {dsp : DSpX} {e : Expr} {es : List Expr} {ts : TDA} {p pos : Pos} {E : XK} {RX : DXk}
def dCallX (n : Nat) (dsp : DSpX) (RX : DXk) (t : TDA) : TD := fun δ G Q => t δ G fun ds G1 => ds.length = n ∧ dsp ds G1 Q RX
theorem w_callX {n : Nat} {δ : DSt} {G : DG} {Q : DK} (h : ts δ G fun ds G1 => ds.length = n ∧ dsp ds G1 Q RX) : dCallX n dsp RX ts δ G Q := h
/-- raise C(m) -/
def dRaise (c : Value) (RX : DXk) : TDS := fun _ _ G => RX c G
theorem ds_raise {x m : Str} {C : Addr} {j : Nat} {p p2 pos pos2 : Pos} (hc : X.calm = true) (hx : FinX X.K X.H_0 RX E) (tk : Takes X (fun cls d _ H => E cls d H)) {bmB : List Value} {B newId initId : String} (F : ExcBaseFacts B newId initId bmB) (q : PySem.W.excIn X.K C bmB newId = true) (gC : X.mg x = some (.ref C)) (kC : PySem.W.keepIn X.K (.ref C) = true) (r : Raises X (.ref C)) (hg : Gl X x) (hdb : (x == ("__debug__" : Str)) = false := by decide) :
    DS X (.Raise (some (.Call (.Name x p) [.Constant (.str m) j p2] [] pos)) none pos2) (dRaise (.ref C) RX) := by
  have h := ps_raise (pos := pos2) hc tk (pmk_own (m := m) (j := j) (p := p) (p2 := p2) (pos := pos) F q gC kC r hg hdb)
  refine ⟨fun pins s σ H D I ⟨D', δ, G, sl, w, l, h1⟩ => h.run pins s σ H D I ?_⟩
  exact hx _ G H h1 (inv_tks I) w
theorem w_raise {c : Value} {D : DEnds} {δ : DSt} {G : DG} (h : RX c G) : dRaise c RX D δ G := h
end
/-! ### try -/
abbrev TDX := DSt → DG → DK → DXk → Prop
abbrev TDAX := DSt → DG → (List DV → DG → Prop) → DXk → Prop
def FinW (K : Frag) (H : Hp) (RX : DXk) (W : WX) (σ : L2.St) : Prop := ∀ cls G H', RX cls G → TKs K H H' → Wd K H' G → W cls none σ H'
theorem FinW.step {K : Frag} {H H1 : Hp} {RX : DXk} {W : WX} {σ : L2.St} (f : FinW K H RX W σ) (t : TKs K H H1) : FinW K H1 RX W σ := fun c G H' r t' w => f c G H' r (t.trans t') w
def upE (K : Frag) (W : WX) (t : TDX) : TE := fun σ H Q => ∃ δ G R RX, Sl K H σ δ ∧ Wd K H G ∧ t δ G R RX ∧ Fin K H R Q ∧ FinW K H RX W σ
/-- an expression within a try -/
def DEX (X : Cx) (e : Expr) (t : TDX) : Prop := ∀ (W : WX) (pn : List (Addr × Obj)) (xe : Value → Shared → Prop), Takes (X.tr pn xe) W → PE (X.tr pn xe) e (upE X.K W t)
section
variable {X : Cx} {k : Nat} {nm : Str} {ps : List Str} {dsp : DSpX} {e : Expr} {es : List Expr} {ts : TDA} {p pos : Pos}
def xCall (n : Nat) (dsp : DSpX) (t : TDA) : TDX := fun δ G Q RX => t δ G fun ds G1 => ds.length = n ∧ dsp ds G1 Q RX
theorem dex_call (h : HasX X.prog X.w X.K X.mg X.base k nm ps dsp) (hr : Room k X.A) (hg : Gl X nm) (ha : ∀ pn xe, DA (X.tr pn xe) (e :: es) ts) (hdb : (nm == ("__debug__" : Str)) = false := by decide) (he : starEach (e :: es) X.env = (false, eval e X.env) :: starEach es X.env := by rfl) (hpl : (backTo pos (starEach es X.env)).any (·.1) = false := by rfl) :
    DEX X (.Call (.Name nm p) (e :: es) [] pos) (xCall ps.length dsp ts) := by
  obtain ⟨f, fd, F, b, kp, m, _⟩ := h
  intro W pn xe tk
  refine PE_mono (pe_callS (X := X.tr pn xe) F hr hg m kp b (fun σ => passAt tk σ) (ha pn xe) hdb he hpl) fun σ H Q ⟨δ, G, R, RX, sl, w, h, f, fx⟩ => ⟨δ, G, _, sl, w, h, fun ds G1 vs H1 h1 t1 w1 r1 => ?_⟩
  exact ⟨ds, G1, R, RX, r1, w1, h1.1, h1.2, f.step t1, fun c G' H' r t w => fx c G' H' r (t1.trans t) w⟩
/-- an expression that lets no error out -/
def xE (t : TD) : TDX := fun δ G Q _ => t δ G Q
def xNil : TDAX := fun δ G Q _ => Q [] G
def xCons (t : TDX) (u : TDAX) : TDAX := fun δ G Q RX => t δ G (fun d G1 => u δ G1 (fun ds G2 => Q (d :: ds) G2) RX) RX
/-- [x, ..] -/
def xLst (t : TDAX) : TDX := fun δ G Q RX => t δ G (fun ds G1 => ds.length ≤ sizeLine ∧ ∀ p, G1 p = none → Q (.ref p) (dupd G1 p (.lst ds))) RX
/-- (x, ..) -/
def xTup (t : TDAX) : TDX := fun δ G Q RX => t δ G (fun ds G1 => ds.length ≤ sizeLine ∧ Q (.tup ds) G1) RX
end
/-! a call of a local name that holds a def -/
/-! statements within a try -/
abbrev TDSX := DEnds → DSt → DG → DXk → Prop
def upSX (K : Frag) (W : WX) (t : TDSX) : TS := fun D σ H => ∃ D' δ G RX, Sl K H σ δ ∧ Wd K H G ∧ Links K H D' D ∧ t D' δ G RX ∧ FinW K H RX W σ
def DSsX (X : Cx) (b : List Stmt) (t : TDSX) : Prop := ∀ (W : WX) (pn : List (Addr × Obj)) (xe : Value → Shared → Prop), Takes (X.tr pn xe) W → PassesOwn (model X.prog X.w) X.A X.env xe → PSs (X.tr pn xe) b (upSX X.K W t)
section
variable {X : Cx} {e : Expr} {te : TDX}
def xSet (i : Nat) (te : TDX) : TDSX := fun D δ G RX => te δ G (fun d G1 => D.nx (δ.set i (some d)) G1) RX
theorem dssx_set {i : Nat} {x : Str} {pos' pos : Pos} (hN : X.N.Nodup) (hi : X.N[i]? = some x) (hx : Loc X.env.scope x) (he : DEX X e te) (hs : swapsWith e (some (.Name x pos')) pos.line X.env = pure false := by rfl) (hf : X.fn x = true ∨ X.env.scope.names.lookup x = some .local := by first | exact .inl rfl | exact .inr rfl | assumption) : DSsX X [.Assign [.Name x pos'] e pos] (xSet i te) := fun W pn xe tk po =>
  PSs_mono (pss_one (ps_set (X := X.tr pn xe) hN hi hx (he W pn xe tk) hs hf)) fun D σ H ⟨D', δ, G, RX, sl, w, l, h, fx⟩ => ⟨δ, G, _, RX, sl, w, h, fun d G1 v H1 q t1 w1 r1 => l.nx _ _ G1 H1 q t1 w1 ((sl.mono t1).set r1 i), fx⟩
def xExpr (te : TDX) : TDSX := fun D δ G RX => te δ G (fun _ G1 => D.nx δ G1) RX
/-- try: body; except c as n: suite (slot i is n's). The error stands in the store behind the suite. -/
def dTry (K : Frag) (c : Value) (i : Nat) (tb : TDSX) (ts : Addr → Value → TDS) : TDS := fun D δ G => tb D δ G fun cls G1 => exmOne K cls c = some true ∧ ∀ a, G1 a = none →
  ts a cls { nx := fun δ' G2 => G2 a = none → D.nx (δ'.set i none) (dupd G2 a (.err cls)), rt := D.rt, bk := fun δ' G2 => D.bk (δ'.set i none) G2, ct := fun δ' G2 => D.ct (δ'.set i none) G2 } (δ.set i (some (.ref a))) G1
theorem ds_try {x n : Str} {c : Value} {i : Nat} {body suite : List Stmt} {b₀ : Stmt} {np pos pos' : Pos} {tb : TDSX} {ts : Addr → Value → TDS} (hs : X.stack = X.env :: X.outer) (hf : X.env.frame = some X.env.locals) (hN : X.N.Nodup) (hi : X.N[i]? = some n) (hln : X.env.kindOf n = some .local) (hc : Names X x c)
    (hb : DSsX X body tb) (hsu : ∀ (a : Addr) (oe : Obj) (cls : Value) (d : Option Addr) (pn : List (Addr × Obj)), Zc cls d oe → (∃ vs, oe.data = .fields vs) → d = none → DSs (X.suite a ((a, oe) :: pn)) (b₀ :: suite) (ts a cls)) :
    DS X (.Try body [.ExceptHandler (some (.Name x np)) (some n) (b₀ :: suite) pos'] [] [] pos) (dTry X.K c i tb ts) := by
  refine PS_mono (ps_try_hold (Wout := fun _ _ _ _ => False) (tb := fun W => upSX X.K W tb) (ts := fun a cls d D σ H => d = none ∧ upS X.K (ts a cls) D σ H) hs hf hN hi hln hc takes0 (fun W pn xe tk po => hb W pn xe tk po) fun a oe cls d pn hz hv => ?_) fun D σ H ⟨D', δ, G, sl, w, l, h⟩ => ?_
  · refine ⟨fun pins s σ H D I ⟨ed, h⟩ => (hsu a oe cls d pn hz hv ed).run pins s σ H D I h⟩
  · refine ⟨D', δ, G, _, sl, w, l, h, fun cls G1 H1 ⟨he, h1⟩ t1 w1 => ⟨true, he, fun _ a na => ⟨rfl, _, _, G1, (sl.mono t1).set (.ref a) i, w1, ⟨?_, ?_, ?_, ?_⟩, h1 a (w1.free na)⟩, fun z => nomatch z⟩⟩
    · intro σ2 δ2 G2 H2 q t2 w2 sl2 na2
      have s' := same_new na2 (eOb a cls none)
      exact l.nx _ _ _ _ (q (w2.free na2)) ((t1.trans t2).trans (TKs.of s')) (w2.new na2 fun O => upd_same) ((sl2.unset i).mono (TKs.of s'))
    · intro d2 G2 v2 H2 q t2 w2 r2
      exact l.rt _ _ _ _ q (t1.trans t2) w2 r2
    · intro σ2 δ2 G2 H2 q t2 w2 sl2
      exact l.bk _ _ _ _ q (t1.trans t2) w2 (sl2.unset i)
    · intro σ2 δ2 G2 H2 q t2 w2 sl2
      exact l.ct _ _ _ _ q (t1.trans t2) w2 (sl2.unset i)
end
/-! ### isinstance of an error: in its suite, and behind it -/
section
variable {X : Cx}
def clsOf : DV → Option Value
  | .ref a => some (.ref a)
  | .ty n => some (.type n)
  | _ => none
theorem clsOf_rel {K : Frag} {H : Hp} {v : V} {d : DV} {c : Value} (r : RV K H v d) (e : clsOf d = some c) : ∀ u, RelV v u → u = c := fun u ru => by
  cases r with
  | ref a => cases e; exact ru
  | ty n => cases e; exact ru
  | _ => cases e
/-- isinstance(e, (c1, ..)) in the suite -/
def tRefs (cs : List Addr) : TA := fun _ H Q => Q (cs.map .ref) H
theorem pa_refs0 : PA X [] (tRefs []) := pa_nil
theorem pa_refs {e : Expr} {es : List Expr} {c : Addr} {cs : List Addr} (h : PE X e (tC (.ref c))) (g : PA X es (tRefs cs)) (hs : starEach (e :: es) X.env = (false, eval e X.env) :: starEach es X.env := by rfl) : PA X (e :: es) (tRefs (c :: cs)) := PA_mono (pa_cons h g hs) fun σ H Q q => q
theorem cls_refs (cs : List Addr) : Paired ClsV (cs.map V.ref) (cs.map Value.ref) := by
  induction cs with
  | nil => exact .nil
  | cons c r ih => exact .cons (.own c) ih
def dIsEt (K : Frag) (cls : Value) (a : Addr) (i : Nat) (cs : List Addr) : TD := fun δ G Q => δ[i]? = some (some (.ref a)) ∧ ∃ D b, cls = .ref D ∧ ExcC K D ∧ kitAny K (.ref D) (cs.map Value.ref) = some b ∧ cs.length ≤ sizeLine ∧ Q (.bl b) G
theorem de_isEt {a : Addr} {oe : Obj} {cls : Value} {d : Option Addr} {pn : List (Addr × Obj)} {i : Nat} {x : Str} {p p1 p2 pos : Pos} {es : List Expr} {x1} {cs : List Addr} (hz : Zc cls d oe) (hv : ∃ vs, oe.data = .fields vs) (hd : d = none) (hi : X.mg "isinstance" = none) (hg : Gl X "isinstance")
    (he : PE (X.suite a ((a, oe) :: pn)) (.Name x p1) (tVar i)) (ha : PA (X.suite a ((a, oe) :: pn)) es (tRefs cs))
    (hs : starEach [(.Name x p1 : Expr), .Tuple es x1 p2] X.env = (false, eval (.Name x p1) X.env) :: starEach [(.Tuple es x1 p2 : Expr)] X.env := by rfl) (hs1 : starEach [(.Tuple es x1 p2 : Expr)] X.env = (false, eval (.Tuple es x1 p2) X.env) :: starEach [] X.env := by rfl) (hpl : (backTo pos (starEach [(.Tuple es x1 p2 : Expr)] X.env)).any (·.1) = false := by rfl) :
    DE (X.suite a ((a, oe) :: pn)) (.Call (.Name "isinstance" p) [.Name x p1, .Tuple es x1 p2] [] pos) (dIsEt X.K cls a i cs) := by
  have hc : CallR (X.suite a ((a, oe) :: pn)) (.builtin "isinstance") (fun xs H Q => ∃ D, ExcC X.K D ∧ rIsEt X.K D a cls d xs H Q) := fun pins s σ H xs us Q I r ⟨D, C, h⟩ => call_isEt C hz hv pins s σ H xs us Q I r h
  refine PE_mono (pe_callB hc hg hi PyProof.Rows.boot_isinstance (pa_cons he (pa_cons (pe_tup ha) pa_nil hs1) hs)) fun σ H Q ⟨δ, G, R, sl, w, ⟨hsl, D, b, ec, C, hk, hl, q⟩, f⟩ => ?_
  obtain ⟨v, e1, r1⟩ := sl.get hsl
  cases r1
  refine ⟨_, e1, by rw [List.length_map]; exact hl, fun tp np => ?_⟩
  have s' := same_new np (.tup (cs.map V.ref))
  exact ⟨D, C, ec, hd, tp, cs.map V.ref, _, b, rfl, upd_same, cls_refs cs, hk, f _ G _ _ q (TKs.of s') (w.same s') (.bl b)⟩
end
section
variable {K : Frag} {c : Value} {i : Nat} {tb : TDSX} {ts : Addr → Value → TDS} {D : DEnds} {δ : DSt} {G : DG} {RX : DXk} {Q : DK} {te : TDX} {t : TD} {u : TDAX} {QA : List DV → DG → Prop} {tda : TDA} {n : Nat} {dsp : DSpX}
theorem w_try (h : tb D δ G fun cls G1 => exmOne K cls c = some true ∧ ∀ a, G1 a = none →
  ts a cls { nx := fun δ' G2 => G2 a = none → D.nx (δ'.set i none) (dupd G2 a (.err cls)), rt := D.rt, bk := fun δ' G2 => D.bk (δ'.set i none) G2, ct := fun δ' G2 => D.ct (δ'.set i none) G2 } (δ.set i (some (.ref a))) G1) : dTry K c i tb ts D δ G := h
theorem w_xSet (h : te δ G (fun d G1 => D.nx (δ.set i (some d)) G1) RX) : xSet i te D δ G RX := h
theorem w_xExpr (h : te δ G (fun _ G1 => D.nx δ G1) RX) : xExpr te D δ G RX := h
theorem w_xLst (h : u δ G (fun ds G1 => ds.length ≤ sizeLine ∧ ∀ p, G1 p = none → Q (.ref p) (dupd G1 p (.lst ds))) RX) : xLst u δ G Q RX := h
theorem w_xTup (h : u δ G (fun ds G1 => ds.length ≤ sizeLine ∧ Q (.tup ds) G1) RX) : xTup u δ G Q RX := h
theorem w_xCons (h : te δ G (fun d G1 => u δ G1 (fun ds G2 => QA (d :: ds) G2) RX) RX) : xCons te u δ G QA RX := h
theorem w_xNil (h : QA [] G) : xNil δ G QA RX := h
theorem w_xE (h : t δ G Q) : xE t δ G Q RX := h
theorem w_xCall (h : tda δ G fun ds G1 => ds.length = n ∧ dsp ds G1 Q RX) : xCall n dsp tda δ G Q RX := h
theorem w_isEt {a C : Addr} {cs : List Addr} {b : Bool} (hs : δ[i]? = some (some (.ref a))) (x : ExcC K C) (hk : kitAny K (.ref C) (cs.map Value.ref) = some b) (hl : cs.length ≤ sizeLine) (h : Q (.bl b) G) : dIsEt K (.ref C) a i cs δ G Q := ⟨hs, C, b, rfl, x, hk, hl, h⟩
end
end DD
/-! methods of two outcomes over data -/
namespace DD
open PySem PySem.W L2 SX Cm
/-- the method m of the class at C keeps a promise of two outcomes -/
def HasMX (P : Program) (w : World) (K : Frag) (mg : Str → Option Value) (base : Heap) (k : Nat) (C : Addr) (m : Str) (ps : List Str) (dsp : DSpX) : Prop :=
  ∃ f fd, FnOk P w K mg base (L2.CX P w) k f fd ps (toSpX K ps.length dsp) ∧ L2.Binds K fd ps [] ∧ Meth K C m f ∧ Cls K C
section
variable {P : Program} {w : World} {K : Frag} {mg : Str → Option Value} {base : Heap}
theorem atmx_mk {C : Addr} {m qual : Str} {st : Stmt} {N ps : List Str} {k : Nat} {dsp : DSpX} (a : AtM K C m qual st ps) (S : FnScope N ps (defScope st))
    (body : ∀ (f : Addr) (cdv : Value) (A : Around) (outer : List Env) (s : Shared) (H : Hp) (E : XK), Room k (A.deeper (PyProof.Rows.envOfC qual (defScope st) s.heap.objs.size f cdv)) → ∀ ds G R RX, ds.length = ps.length → FinX K H (LessX RX) E → dsp ds G R RX →
      ∃ t, DSs (cxOf (L2.CX P w) P w K mg base N qual (defScope st) f cdv A outer s H E) (defBody st) t ∧ t { nx := fun _ G => Less R .non G, rt := Less R } (dstart N ds) G) : HasMX P w K mg base (k + 1) C m ps dsp := by
  obtain ⟨f, fd, F, b, me, c⟩ := a
  refine ⟨f, fd, F.okX S (fun vs H Q E h => ?_) (fun cdv A outer s H vs Q E hr h => ?_), b, me, c⟩
  · obtain ⟨ds, G, R, RX, r, w, l, _⟩ := h
    rw [r.len]; exact l
  · obtain ⟨ds, G, R, RX, r, wd, l, h, fin, fx⟩ := h
    obtain ⟨t, h1, h2⟩ := body f cdv A outer s H E hr ds G R RX l fx.less h
    exact ⟨_, h1, _, _, G, sl_start r, wd, links_def fin, h2⟩
end
section
variable {X : Cx} {k : Nat} {C : Addr} {m nm : Str} {ps : List Str} {dsp : DSpX} {o e : Expr} {es : List Expr} {to : TD} {ts : TDA} {p apos pos : Pos} {E : XK} {RX : DXk}
theorem pe_inv {e : Expr} {t : TE} (h : PE X e t) : PE X e (fun σ H Q => TKs X.K X.H_0 H → t σ H Q) := ⟨fun pins s σ H Q I q => h.run pins s σ H Q I (q (inv_tks I))⟩
def dMethX (C : Addr) (m : Str) (n : Nat) (dsp : DSpX) (RX : DXk) (to : TD) (ts : TDA) : TD := fun δ G Q => to δ G fun x G1 => ∃ a fs, x = .ref a ∧ G1 a = some (.obj C fs) ∧ fs.lookup m = none ∧ ts δ G1 fun ds G2 => (x :: ds).length = n ∧ dsp (x :: ds) G2 Q RX
theorem w_methX {n : Nat} {δ : DSt} {G : DG} {Q : DK} (h : to δ G fun x G1 => ∃ a fs, x = .ref a ∧ G1 a = some (.obj C fs) ∧ fs.lookup m = none ∧ ts δ G1 fun ds G2 => (x :: ds).length = n ∧ dsp (x :: ds) G2 Q RX) : dMethX C m n dsp RX to ts δ G Q := h
theorem de_meth0X (h : HasMX X.prog X.w X.K X.mg X.base k C m ps dsp) (hx : FinX X.K X.H_0 RX E) (tk : Takes X (fun cls d _ H => E cls d H)) (hr : Room k X.A) (ho : DE X o to) {pl : Sem Bool}
    (ht : eval (.Call (.Attribute o m apos) [] [] pos) X.env = (do
      let ov ← eval o X.env
      standAt apos.atName
      let (f, first) ← holding [ov] (getMethod ov m pl)
      callWith pos f first (backTo pos (starEach [] X.env)) (backToKw pos (keywordEach [] X.env))) := by rfl) : DE X (.Call (.Attribute o m apos) [] [] pos) (dMethX C m ps.length dsp RX to dNil) := by
  obtain ⟨f, fd, F, b, me, c⟩ := h
  refine PE_mono (pe_inv (pe_meth0 ho c me F hr b .nil (passes_call (E := E) tk fun _ _ _ _ h => h) ht)) fun σ H Q ⟨δ, G, R, sl, w, h, fn⟩ => fun t0 => ⟨δ, G, _, sl, w, h, fun x G1 vx H1 ⟨a, fs, e1, e2, l, q⟩ t1 w1 r1 => ?_⟩
  subst e1
  cases r1
  obtain ⟨dx, vs, hh, r⟩ := wd_obj w1 e2
  refine ⟨a, dx, vs, rfl, hh, r.none l, ?_⟩
  show toSpX X.K ps.length dsp [V.ref a] H1 Q E
  exact ⟨_, G1, R, RX, .cons (.ref a) .nil, w1, q.1, q.2, fn.step t1, hx.step (t0.trans t1)⟩
end
end DD
/-! own exceptions under own exceptions, over ValueError: an __init__ that says super().__init__(text), then stores -/
namespace Cm
open PySem PySem.W L2 SX NdefX
open PySem.Spec PyProof.Rows PySem.Calls
/-- what the written part says of such a class: C, the cell cc of its name, its __init__'s code object cda -/
structure SupC (P : Program) (K : Frag) (C cc cda : Addr) : Prop where
  own : OexC K C
  cell : ∃ cl cld csl, K.lookup cc = some ⟨cl, cld, .cell (some (.ref C)), csl⟩
  opq : nsIn K cStatics "thirdparty.any" = some none
  sup : ks_superIn K C C "__init__" = some (some (.builtin "ValueError.__init__"))
  sub : subIn K (.ref C) (.type "ValueError") = some true
  self : mroIn K C (.ref C) = some true
  code : ∃ ccl cdd vs ccs file tf, K.lookup cda = some ⟨ccl, cdd, .fields vs, ccs⟩ ∧ vs[2]? = some (.str file tf) ∧ ((P.main.file : Str) == file) = true
  top : (P.main.scope.names.lookup ("super" : Str)).isSome = false
abbrev supSt (z : Str) (j : Nat) (p0 p1 p2 p3 p4 p5 : Pos) : Stmt := .Expr (.Call (.Attribute (.Call (.Name "super" p0) [] [] p1) "__init__" p2) [.Constant (.str z) j p3] [] p4) p5
theorem sup_init {X : Cx} {pins : List (Addr × Obj)} {σ : L2.St} {H : Hp} {s : Shared} {a C cc cda f : Addr} {of : Obj} {fd : FuncData} {ar : Arg} {body : List Stmt} {z : Str} {j : Nat} {p0 p1 p2 p3 p4 p5 : Pos} {E : Value → Shared → Prop}
    (I : Inv X pins σ H s) (T : SupC X.prog X.K C cc cda) (ea : H a = some (exo a C none))
    (hks : X.env.kindOf "super" = some .globalImplicit) (hkc : X.env.kindOf "__class__" = some .free) (hcl : X.env.cells.lookup ("__class__" : Str) = some cc) (hfu : X.env.func = some f) (hco : X.env.code = .ref cda)
    (lk : X.K.lookup f = some of) (hfd : of.data = .func fd) (hp : (fd.params.posonlyargs ++ fd.params.args).head? = some ar) (hN : X.N[0]? = some ar.arg) (hσ : σ[0]? = some (some (.ref a))) (hka : X.env.kindOf ar.arg = some .local) (hvis : X.env.scope.names.lookup ar.arg = some .local) (hm : X.mg "super" = none)
    (hi : interactive X.env = false := by rfl) (hs : swapsWith (.Call (.Attribute (.Call (.Name "super" p0) [] [] p1) "__init__" p2) [.Constant (.str z) j p3] [] p4) none p5.line X.env = pure false := by rfl)
    (pl : Sem Bool)
    (he : eval (.Call (.Attribute (.Call (.Name "super" p0) [] [] p1) "__init__" p2) [.Constant (.str z) j p3] [] p4) X.env = (do
      let ov ← attributeBase (.Call (.Name "super" p0) [] [] p1) "__init__" X.env (eval (.Call (.Name "super" p0) [] [] p1) X.env)
      standAt p2.atName
      let (f, first) ← holding [ov] (getMethod ov "__init__" pl)
      callWith p4 f first (backTo p4 (starEach [.Constant (.str z) j p3] X.env)) [])) :
    _root_.PySem.wpAt (model X.prog X.w) X.A (.func body X.env) (exec (supSt z j p0 p1 p2 p3 p4 p5) X.env) (fun fl s' => fl = .next ∧ Inv X pins σ H s') E s := by
  obtain ⟨ccl, cdd, vs, ccs, file, tf, hcode, hvs, hfile⟩ := T.code
  obtain ⟨cl, cld, csl, hcell⟩ := T.cell
  obtain ⟨nm, q, N, bs, bm, sn, sub, ab, col, dd, k0, k1, k2, k3, k5, hC, hbm⟩ := T.own.cls
  have hcd : clsIn X.K C = some { name := nm, bases := bs, mro := .ref C :: bm, ns := N, qualname := q, hasDict := true, slotNames := sn, subclasses := sub, abstract := ab, collection := col, hasDel := false } := by unfold PySem.W.clsIn; rw [hC] <;> rfl
  obtain ⟨t1, ho⟩ := exo_at I.hok ea
  obtain ⟨m, hns, hlook⟩ := I.loc
  obtain ⟨u, ru, lu⟩ := hlook 0 ar.arg (.ref a) hN hσ (.inl hvis)
  cases (show u = Value.ref a from ru)
  have hma : m ar.arg = some (.ref a) := by
    rcases lu with ⟨_, e⟩ | ⟨e, _⟩
    · exact e
    · rcases e with e | e <;> rw [hka] at e <;> cases e
  have X0 : X.K.In s.heap := I.kIn
  have hop : Looks (model X.prog X.w) s.heap (opaqueClassAbove (.ref C)) none := looks_opaque X0 T.opq
  have hsup := T.sup
  unfold ks_superIn at hsup
  rw [hcd] at hsup
  obtain ⟨hh, g, d, t, os⟩ := s
  refine ks_wpAt_Expr_any ?_ hi hs
  refine ks_wpAt_MethodCall ?_ he
  refine ks_wpAt_super_base hks hkc rfl hfu (X0 _ _ lk) hfd hp hco (X0 _ _ hcode) rfl hvs hfile T.top ?_
  obtain ⟨mb, b1, b2⟩ := I.mod.blt
  refine ks_loadName_global I.ok.kind hks (loadGlobal_builtin (by rw [I.ok.glob]; exact I.mod.glob.keeps I.bk) hm (by rw [I.ok.blt]; exact b1.keeps I.bk) ((b2 "super" (by decide)).trans (PyProof.Rows.Boot.«super»)) ⟨rfl, ?_⟩)
  refine wpAny_loadName_free I.ok.kind hkc hcl ⟨_, X0 _ _ hcell, rfl⟩ ?_
  refine wpAny_loadName_local I.ok.kind hka hns hma ?_
  refine ks_wpAny_isType_cls (X0 _ _ hC) rfl ⟨rfl, ?_⟩
  refine ks_wpAny_call_super (X0 _ _ hC) rfl ho rfl (fun c e => by cases e) (looks_mroIn X0 T.self) (fun h1 e1 k1 => ?_)
  have J1 : Inv X pins σ H ⟨h1, g, d, t, os⟩ := I.kept (t' := t) k1
  have ho1 := k1 _ _ ho
  have IA : InstAt h1 a _ C none := ⟨ho1, rfl, rfl, trivial⟩
  have hI : Looks (model X.prog X.w) h1 (isInstance (.ref a) (.type "ValueError")) true := IA.type.andThen (looks_subIn J1.kIn T.sub)
  refine kxs_getMethod kxs_ValueError e1 (looks_opaque J1.kIn T.opq) (l₀ := .ref C :: bm) (fun A Q E s k q => wpAny_bind ((looks_clsIn J1.kIn hcd) A _ E s k (wpAny_pure q))) rfl J1.kIn hsup hI (ks_ne J1.kIn IA hcd) rfl ?_
  have k2 : ∀ b o, h1.get? b = some o → (h1.push (kxs_mw "ValueError.__init__" a)).get? b = some o := fun b o e => Heap.get?_push_of_some _ e
  have hu : (h1.push (kxs_mw "ValueError.__init__" a)).get? h1.objs.size = some (kxs_mw "ValueError.__init__" a) := Heap.get?_push_size _ rfl
  have J2 : Inv X pins σ H ⟨h1.push (kxs_mw "ValueError.__init__" a), g, d, t + 1, os⟩ := J1.kept (t' := t + 1) k2
  refine kxs_callWith (i := "ValueError.__init__") (x := a) (by rfl) ?_
  refine evalArgs_plain ?_
  show wpAny _ _ (spliced ((false, eval (.Constant (.str z) j p3) X.env) :: backTo p4 (starEach [] X.env))) _ _ _
  refine Calls.spliced_cons (Calls.Constant_str (Calls.spliced_nil ?_))
  refine ⟨hu, ?_⟩
  show wpAny _ _ (call (.ref h1.objs.size) [.str z (t + 1)]) _ _ _
  have X2 : X.K.In (h1.push (kxs_mw "ValueError.__init__" a)) := J2.kIn
  refine wpAny_call (codeAny_of_tree ?_)
  show wpAny _ X.A.in1 (callAny (.ref h1.objs.size) ⟨[.str z (t + 1)], []⟩) _ _ _
  simp only [callAny]
  refine wpAny_bind (wpAny_load hu ?_)
  simp only [kxs_mw, show (Value.type "method-wrapper" == Value.type "method" || Value.type "method-wrapper" == Value.type "builtin_function_or_method" || Value.type "method-wrapper" == Value.type "method-wrapper") = true by decide, if_true]
  refine KFB.if_so (by decide) ?_
  have ho2 := k2 _ _ ho1
  refine wpAny_bind (check_bound_init F.excBase_ValueError.toExcCallFacts (X2 _ _ hC) ho2 rfl ?_)
  refine wpAny_bind (wpAny_pure (wpAny_pure ?_))
  refine ⟨plainId_quiet F.excBase_ValueError.init.plain _, codeAny_builtin F.excBase_ValueError.initEntry ?_⟩
  refine exc_init_tree (cls := .ref C) (t0 := t1) (dv := none) (c2 := .none) (c3 := .none) (b4 := .bool false) ho2 (by show 1 ≤ sizeLine; rw [sizeLine_eq]; omega) fun h4 k4 e4 x4 => ?_
  have J4 := J2.write (t' := t + 1 + 1) (x := a) (e := a) (o := exo a C none) (by rw [ea]; exact True.intro) (.inl rfl) k4 ⟨_, e4⟩ (exo_ok e4)
  have eu : upd H a (exo a C none) = H := by
    funext b
    by_cases hb : b = a
    · rw [hb, upd_same, ea]
    · rw [upd_ne hb]
  rw [eu] at J4
  exact ⟨by first | rfl | trivial, J4⟩
/-- an __init__ that says super().__init__(text), then its rest -/
theorem ok_sup {P : Program} {w : World} {K : Frag} {mg : Str → Option Value} {base : Heap} {CX : CXT} {k : Nat} {f C cc cda : Addr} {name qual : Str} {params : Arguments} {rest : List Stmt} {scope : Scope} {dV kV doc pm ct oc : Value} {an od : Option Addr} {osl : Array (Option Value)} {N ps : List Str} {ar : Arg} {sp : Sp} {z : Str} {j : Nat} {p0 p1 p2 p3 p4 p5 : Pos}
    (lk : K.lookup f = some ⟨oc, od, .func (fnX name qual params (supSt z j p0 p1 p2 p3 p4 p5 :: rest) scope [("__class__", cc)] dV kV doc pm an (.ref cda) ct), osl⟩) (hcd : codeIn K (.ref cda) qual = true) (S : NScope N ps ["__class__"] scope) (T : SupC P K C cc cda)
    (hks : scope.names.lookup ("super" : Str) = some .globalImplicit) (hp : (params.posonlyargs ++ params.args).head? = some ar) (hN : N[0]? = some ar.arg) (hka : scope.names.lookup ar.arg = some .local) (hm : mg "super" = none)
    (len : ∀ vs H Q E, sp vs H Q E → vs.length = ps.length)
    (hs : ∀ L : Addr, swapsWith (.Call (.Attribute (.Call (.Name "super" p0) [] [] p1) "__init__" p2) [.Constant (.str z) j p3] [] p4) none p5.line (envF ⟨name, qual, params, supSt z j p0 p1 p2 p3 p4 p5 :: rest, scope, [("__class__", cc)], cda⟩ f L) = pure false)
    (hi : ∀ L : Addr, interactive (envF ⟨name, qual, params, supSt z j p0 p1 p2 p3 p4 p5 :: rest, scope, [("__class__", cc)], cda⟩ f L) = false)
    (pl : Env → Sem Bool)
    (he : ∀ env : Env, eval (.Call (.Attribute (.Call (.Name "super" p0) [] [] p1) "__init__" p2) [.Constant (.str z) j p3] [] p4) env = (do
      let ov ← attributeBase (.Call (.Name "super" p0) [] [] p1) "__init__" env (eval (.Call (.Name "super" p0) [] [] p1) env)
      standAt p2.atName
      let (f, first) ← holding [ov] (getMethod ov "__init__" (pl env))
      callWith p4 f first (backTo p4 (starEach [.Constant (.str z) j p3] env)) []))
    (hbody : ∀ (A : Around) (outer : List Env) (s : Shared) (H : Hp) (vs : List V) (Q : VK) (E : XK), Room k (A.deeper (envF ⟨name, qual, params, supSt z j p0 p1 p2 p3 p4 p5 :: rest, scope, [("__class__", cc)], cda⟩ f s.heap.objs.size)) → sp vs H Q E → ∃ a vs', vs = .ref a :: vs' ∧ H a = some (exo a C none) ∧
      ∃ t, PSs (ncx CX P w K mg base N ⟨name, qual, params, supSt z j p0 p1 p2 p3 p4 p5 :: rest, scope, [("__class__", cc)], cda⟩ f A outer s H E) rest t ∧ t { nx := fun _ H' => Q .non H', rt := Q } (startF N vs [none]) H) :
    FnOk P w K mg base CX (k + 1) f (fnX name qual params (supSt z j p0 p1 p2 p3 p4 p5 :: rest) scope [("__class__", cc)] dV kV doc pm an (.ref cda) ct) ps sp := by
  refine ⟨len, fun A outer s H args us vs Q E hr e0 hb r hsp => ?_⟩
  have hl := len _ _ _ _ hsp
  have KX : K.In s.heap := e0.mod.kin.keeps fun b o e => (e0.bs b o e).1
  have lim : s.heap.NoLimit := e0.mod.nolimit.keeps fun b o e => (e0.bs b o e).1
  refine codeAny_call_function hr.depth (KX _ _ lk) rfl S.co S.gen rfl (PySem.W.codeRec_of KX hcd) (hb _ _ _ _ ?_)
  refine wpAny_newFunctionEnv S.nocell (fun ⟨n, _⟩ hy => S.par n (List.of_mem_zip hy).1) (fun h₁ hns hsb => ⟨lim.fresh _ hsb, ?_⟩) S.kind
  show codeAny _ _ (.func (supSt z j p0 p1 p2 p3 p4 p5 :: rest) (envF ⟨name, qual, params, supSt z j p0 p1 p2 p3 p4 p5 :: rest, scope, [("__class__", cc)], cda⟩ f s.heap.objs.size)) _ _
  refine ks_codeAny_funcAt ?_
  have kp : ∀ b o, s.heap.get? b = some o → h₁.get? b = some o := fun b o e => hsb.extBut b o (Nat.ne_of_lt (Heap.lt_size e)) (Heap.get?_push_of_some _ e)
  obtain ⟨a, vs', rfl, ea, t, ht, hq⟩ := hbody A outer s H vs Q E (hr.deeper _) hsp
  obtain ⟨cl, cld, csl, hcell⟩ := T.cell
  have hcellB : base.get? cc = some ⟨cl, cld, .cell (some (.ref C)), csl⟩ := e0.mod.kin _ _ hcell
  have look1 : ∀ {y : Str} {c : Addr}, List.lookup y [(("__class__" : Str), cc)] = some c → c = cc ∧ y = "__class__" := fun {y c} e => by
    by_cases hy : y = "__class__"
    · subst hy
      have : List.lookup ("__class__" : Str) [(("__class__" : Str), cc)] = some cc := by simp [List.lookup]
      rw [this] at e
      cases e
      exact ⟨rfl, rfl⟩
    · have b : (y == ("__class__" : Str)) = false := by simpa using hy
      simp [List.lookup, b] at e
  have C1 : CellsAt [("__class__", cc)] ["__class__"] [none] s.heap H := ⟨rfl, fun y c e => by
      obtain ⟨rfl, rfl⟩ := look1 e
      exact ⟨(e0.bs _ _ hcellB).2, _, ⟨_, (e0.bs _ _ hcellB).1, rfl⟩⟩, fun x y c e1 e2 => (look1 e1).2.trans (look1 e2).2.symm, fun i y e => by
      cases i with
      | zero =>
        cases e
        exact ⟨cc, by simp [List.lookup], fun v e => by cases e⟩
      | succ i => simp at e⟩
  have I : Inv (ncx CX P w K mg base N ⟨name, qual, params, supSt z j p0 p1 p2 p3 p4 p5 :: rest, scope, [("__class__", cc)], cda⟩ f A outer s H E) [] (startF N (.ref a :: vs') [none]) H { s with heap := h₁, toks := s.toks + (ps.zip us).length } := inv_startN S hr.hd e0 hl r C1 hns kp
  refine ks_wpAt_execs_cons (ks_wpAt_mono (sup_init (cc := cc) (cda := cda) I T ea hks (S.frk _ List.mem_cons_self) (by show List.lookup ("__class__" : Str) [(("__class__" : Str), cc)] = _; simp [List.lookup]) rfl rfl lk rfl hp hN rfl hka hka hm (hi _) (hs _) (pl _) (he _)) (fun fl s' hs' => ?_) fun _ _ x => x)
  obtain ⟨rfl, J⟩ := hs'
  refine wpAt_of_wpAny (wpAny_mono (ht.run [] s' _ H _ J hq) (fun fl s' hs => ?_) fun e s' hs => hs)
  have fin : ∀ {σ' : L2.St} {H' : Hp} {v : V} {u : Value}, Inv (ncx CX P w K mg base N ⟨name, qual, params, supSt z j p0 p1 p2 p3 p4 p5 :: rest, scope, [("__class__", cc)], cda⟩ f A outer s H E) [] σ' H' s' → RelV v u → Q v H' → CE outer P w H s Q u s' :=
    fun {σ' H' v u} J rv q => ⟨v, H', J.os, J.bare, J.base, J.hok, rv, q⟩
  cases fl with
  | ret u =>
    obtain ⟨v, σ', H', J, rv, q⟩ := hs
    exact fin J rv q
  | next =>
    obtain ⟨σ', H', J, q⟩ := hs
    exact fin (v := V.non) (u := Value.none) J rfl q
  | brk =>
    obtain ⟨_, _, _, q⟩ := hs
    exact False.elim q
  | cont =>
    obtain ⟨_, _, _, q⟩ := hs
    exact False.elim q
end Cm
/-! own errors as values: made, kept in lists, asked for their class and their fields -/
namespace Cm
open PySem PySem.W L2 SX
open PySem.Spec PyProof.Rows PySem.Calls
section
variable {prog : Program} {w : World} {A : Around} {E : Value → Shared → Prop} {s : Shared} {K : Frag} {x D : Addr} {ox : Obj} {od : Option Obj}
theorem find_cls {C : Addr} {name : Str} {a g : Value} (hc : (clsIn K C).isSome = true) (ha : findIn K (.ref C) name = some (some a)) (hg : specialIn K a "__get__" = some (some g)) (ht : takesIn K a = some true) : findObj K C od name = some (.bind g a) := by
  obtain ⟨cd, hc⟩ := Option.isSome_iff_exists.mp hc
  unfold findObj
  rw [hc, Option.bind_some, ha, Option.bind_some]
  simp [hg, ht]
theorem cls_of_exc {Q : Option Value → Shared → Prop} (T : ExcC K D) (X : K.In s.heap) (I : InstAt s.heap x ox D od) (h : Q (some (.ref D)) { s with toks := s.toks + 1 }) : wpAny (model prog w) A (getAttr? (.ref x) "__class__") Q E s := by
  have hf : findObj K D od "__class__" = some (.bind (.builtin "getset_descriptor.__get__") (.builtin "object.__class__")) := find_cls (by obtain ⟨cd, hc, _⟩ := any_some T.hd; rw [hc]; rfl) T.ha T.hn T.ht
  obtain ⟨hp, g, d, t, os⟩ := s
  have L0 := I.type (M := model prog w)
  have sub : Looks (model prog w) hp (isInstance (.ref x) (.type "BaseException")) true := L0.andThen (looks_subIn X T.hs)
  have hx0 : (false && onTheHeap (Value.builtin "BaseException.__getattribute__")) = false := rfl
  have hx2 : (Value.builtin "BaseException.__getattribute__" == Value.builtin "object.__getattribute__") = false := by decide +kernel
  have hx1 : (onTheHeap (Value.ref D) && Value.builtin "BaseException.__getattribute__" == Value.builtin "object.__getattribute__") = false := by rw [hx2]; rfl
  unfold getAttr? getAttrBy? getAttrBy
  refine wpAny_bind (wpAny_mkText (wpAny_bind (wpAny_attempt (wpAny_holding (wpAny_bind (L0.at (wpAny_bind ((looks_findIn (M := model prog w) X T.hg).at ?_))))))))
  show wpAny _ _ (if (onTheHeap (Value.ref D) && Value.builtin "BaseException.__getattribute__" == Value.builtin "object.__getattribute__") = true then _ else _) _ _ _
  rw [hx1, if_neg Bool.false_ne_true]
  unfold getAttrByItsOwn hookBefore
  refine wpAny_bind ?_
  rw [if_pos (show onTheHeap (Value.ref D) = true from rfl)]
  refine (looks_findIn (M := model prog w) X T.hk).at ?_
  refine wpAny_bind (wpAny_attempt (wpAny_holding ?_))
  unfold callGetattribute
  rw [hx0, if_neg Bool.false_ne_true]
  unfold boundAndCalled
  rw [PySem.F.excAttr_ValueError.ga.bind (.ref x)]
  refine wpAny_bind (wpAny_pure ?_)
  show wpAny _ _ (call (.builtin "BaseException.__getattribute__") [.ref x, .str "__class__" t]) _ _ _
  refine wpAny_call (codeAny_call_builtin PySem.F.excAttr_ValueError.ga.plain PySem.F.entry_bexc_ga ?_)
  refine @check_slot (model prog w) _ _ ⟨hp, g, d, t + 1, os⟩ "BaseException.__getattribute__" "BaseException" "__getattribute__" (.ref x) [.str "__class__" t] [] _ (by decide +kernel) (by decide +kernel) sub (PySem.F.args_bexc_ga (.ref x) (.str "__class__" t)) ?_
  unfold Builtin.«object.__getattribute__»
  refine wpAny_bind (wpAny_of_eq (a := ((Value.ref x : Value), [Value.str "__class__" t])) (by first | rfl | (simp only [slotArgs]; rfl)) ?_)
  refine wpAny_bind (wpAny_pure (wpAny_bind (L0.at (wpAny_bind ((looks_find (M := model prog w) X I hf).at ?_)))))
  show wpAny _ _ (holding [Value.builtin "object.__class__"] (call (.builtin "getset_descriptor.__get__") [.builtin "object.__class__", .ref x, .ref D]) >>= ret) _ _ _
  refine wpAny_bind (wpAny_holding (wpAny_call (class_get (s := ⟨hp, g, d, t + 1, os⟩) (ox := ox) (od := od) X I T.hm ?_)))
  refine wpAny_pure ?_
  show wpAny _ _ (handedOut (.ref D)) _ _ _
  rw [handedOut_of (v := .ref D) rfl]
  first
    | exact wpAny_pure (wpAny_pure h)
    | exact wpAny_pure h
    | exact wpAny_pure (wpAny_bind (wpAny_pure (wpAny_pure h)))
theorem kit_exd (T : ExcC K D) : KitX K (.ref x) (.ref D) (fun h => InstAt h x ox D od) where
  ty := fun _ _ _ I => I.type
  it := fun _ _ X _ => by
    obtain ⟨cdD, hcD, _⟩ := any_some T.hd
    unfold clsIn at hcD
    split at hcD
    · rename_i c' d' cd' sl' ho
      intro A' Q' E' s' k q
      unfold isType loadHead
      exact wpAny_bind (wpAny_loadPart (k _ _ (X _ _ ho)) (wpAny_pure q))
    · cases hcD
  ne := fun h tp dd its n sl X htp => by
    obtain ⟨cdD, hcD, _⟩ := any_some T.hd
    refine Bool.eq_false_iff.mpr fun q => ?_
    obtain rfl : D = tp := Value.ref.inj (beq_iff_eq.mp q)
    unfold clsIn at hcD
    split at hcD
    · rename_i c' d' cd' sl' ho
      have z := (X _ _ ho).symm.trans htp
      cases z
    · cases hcD
  ca := fun X I k => cls_of_exc T X I k
end
end Cm
/-! own errors as values, over data -/
namespace DD
open PySem PySem.W L2 SX Cm
/-- what an own __init__ with these fields promises -/
def spEx (C : Addr) (fl : List Str) : Sp := fun vs H Q E => ∃ a more, vs = .ref a :: more ∧ more.length = fl.length ∧ H a = some (exo a C none) ∧ ∀ d, H d = none → d ≠ a → Q .non (upd (upd H d (exd d (fl.zip more).reverse)) a (exo a C (some d)))
structure ExI (P : Program) (w : World) (K : Frag) (mg : Str → Option Value) (base : Heap) (k : Nat) (x : Str) (C : Addr) (fl : List Str) : Prop where
  own : OexC K C
  kC : keepIn K (.ref C) = true
  mgC : mg x = some (.ref C)
  ini : ∃ fI fd ps, findIn K (.ref C) "__init__" = some (some (.ref fI)) ∧ typeIn K (.ref fI) = some (.type "function") ∧ FnOk P w K mg base (L2.CX P w) k fI fd ps (spEx C fl) ∧ L2.Binds K fd ps []
theorem frv_zip {K : Frag} {H : Hp} : ∀ (fl : List Str) {vs : List V} {ds : List DV}, RVs K H vs ds → FRV K H (fl.zip vs) (fl.zip ds)
  | [], _, _, _ => .nil
  | f :: fl, _, _, .nil => .nil
  | f :: fl, _, _, .cons r t => .cons r (frv_zip fl t)
theorem FRV.snoc {K : Frag} {H : Hp} {vs vs' : List (Str × V)} {ds ds' : List (Str × DV)} (h : FRV K H vs ds) (g : FRV K H vs' ds') : FRV K H (vs ++ vs') (ds ++ ds') := by
  induction h with
  | nil => exact g
  | cons r _ ih => exact .cons r ih
theorem FRV.rev {K : Frag} {H : Hp} {vs : List (Str × V)} {ds : List (Str × DV)} (h : FRV K H vs ds) : FRV K H vs.reverse ds.reverse := by
  induction h with
  | nil => exact .nil
  | cons r _ ih => rw [List.reverse_cons, List.reverse_cons]; exact ih.snoc (.cons r .nil)
/-! ### readings -/
/-! ### __init__ with one field, with two -/
end DD
/-! promises of two outcomes over data, where what is let out is an error with fields -/
namespace DD.Y
open PySem PySem.W L2 SX Cm DD
abbrev DXk := Value → List (Str × DV) → DG → Prop
/-- the dict of an error that was let out -/
def xdG (fs : List (Str × DV)) : DO := .gen fun K H d => ∃ vs, H d = some (.xd vs) ∧ FRV K H vs fs
theorem or_xd {K : Frag} {H : Hp} {O : Addr → Option Addr} {d : Addr} {vs : List (Str × V)} {fs : List (Str × DV)} (e : H d = some (.xd vs)) (r : FRV K H vs fs) : OR K H O d (xdG fs) := ⟨⟨_, e⟩, ⟨vs, e, r⟩, fun H1 H2 t k ⟨vs, h, r⟩ => ⟨vs, k.trans h, r.mono t⟩⟩
theorem wd_xd {K : Frag} {H : Hp} {G : DG} {d : Addr} {fs : List (Str × DV)} (w : Wd K H G) (e : G d = some (xdG fs)) : ∃ vs, H d = some (.xd vs) ∧ FRV K H vs fs := by
  obtain ⟨O, w⟩ := w
  exact (w.ob d _ e).2.1
def FinX (K : Frag) (H : Hp) (RX : DXk) (E : XK) : Prop := ∀ cls fs G H' d, RX cls fs G → G d = none → TKs K H H' → Wd K H' (dupd G d (xdG fs)) → E cls (some d) H'
theorem FinX.step {K : Frag} {H H1 : Hp} {RX : DXk} {E : XK} (f : FinX K H RX E) (t : TKs K H H1) : FinX K H1 RX E := fun c fs G H' d r n t' w => f c fs G H' d r n (t.trans t') w
abbrev DSpX := List DV → DG → DK → DXk → Prop
def toSpX (K : Frag) (n : Nat) (dsp : DSpX) : Sp := fun vs H Q E => ∃ ds G R RX, RVs K H vs ds ∧ Wd K H G ∧ ds.length = n ∧ dsp ds G R RX ∧ Fin K H R Q ∧ FinX K H RX E
/-- less is known of the store where an error is let out -/
def LessX (RX : DXk) : DXk := fun c fs G => ∃ G', Sub G' G ∧ RX c fs G'
theorem LessX.of {RX : DXk} {c : Value} {fs : List (Str × DV)} {G : DG} (h : RX c fs G) : LessX RX c fs G := ⟨G, Sub.refl G, h⟩
theorem FinX.less {K : Frag} {H : Hp} {RX : DXk} {E : XK} (f : FinX K H RX E) : FinX K H (LessX RX) E := fun c fs G H' d ⟨G', s, r⟩ n t w => f c fs G' H' d r (by
  cases e : G' d with
  | none => rfl
  | some o => have := s _ _ e; rw [n] at this; cases this) t (w.sub fun p o e => by
    by_cases h : p = d
    · subst h; rw [dupd_same] at e ⊢; exact e
    · rw [dupd_ne h] at e ⊢; exact s _ _ e)
/-- the def nm keeps a promise of two outcomes, by level k -/
def HasX (P : Program) (w : World) (K : Frag) (mg : Str → Option Value) (base : Heap) (k : Nat) (nm : Str) (ps : List Str) (dsp : DSpX) : Prop :=
  ∃ f fd, FnOk P w K mg base (L2.CX P w) k f fd ps (toSpX K ps.length dsp) ∧ L2.Binds K fd ps [] ∧ keepIn K (.ref f) = true ∧ mg nm = some (.ref f) ∧ ∃ oc od osl, K.lookup f = some ⟨oc, od, .func fd, osl⟩
/-! ### defs -/
section
variable {P : Program} {w : World} {K : Frag} {mg : Str → Option Value} {base : Heap}
theorem hasx_mk {nm : Str} {st : Stmt} {f : Addr} {fd : FuncData} {N ps : List Str} {k : Nat} {dsp : DSpX} (F : Fun K nm nm st f fd) (b : L2.Binds K fd ps []) (m : mg nm = some (.ref f)) (S : FnScope N ps (defScope st))
    (body : ∀ (cdv : Value) (A : Around) (outer : List Env) (s : Shared) (H : Hp) (E : XK), Room k (A.deeper (PyProof.Rows.envOfC nm (defScope st) s.heap.objs.size f cdv)) → ∀ ds G R RX, ds.length = ps.length → FinX K H (LessX RX) E → dsp ds G R RX →
      ∃ t, DSs (cxOf (L2.CX P w) P w K mg base N nm (defScope st) f cdv A outer s H E) (defBody st) t ∧ t { nx := fun _ G => Less R .non G, rt := Less R } (dstart N ds) G) : HasX P w K mg base (k + 1) nm ps dsp := by
  refine ⟨f, fd, F.okX S (fun vs H Q E h => ?_) (fun cdv A outer s H vs Q E hr h => ?_), b, F.kp, m, F.look⟩
  · obtain ⟨ds, G, R, RX, r, w, l, _⟩ := h
    rw [r.len]; exact l
  · obtain ⟨ds, G, R, RX, r, wd, l, h, fin, fx⟩ := h
    obtain ⟨t, h1, h2⟩ := body cdv A outer s H E hr ds G R RX l fx.less h
    exact ⟨_, h1, _, _, G, sl_start r, wd, links_def fin, h2⟩
theorem atx_mk {nm : Str} {st : Stmt} {N ps : List Str} {k : Nat} {dsp : DSpX} (a : At K mg nm st ps) (S : FnScope N ps (defScope st))
    (body : ∀ (f : Addr) (cdv : Value) (A : Around) (outer : List Env) (s : Shared) (H : Hp) (E : XK), Room k (A.deeper (PyProof.Rows.envOfC nm (defScope st) s.heap.objs.size f cdv)) → ∀ ds G R RX, ds.length = ps.length → FinX K H (LessX RX) E → dsp ds G R RX →
      ∃ t, DSs (cxOf (L2.CX P w) P w K mg base N nm (defScope st) f cdv A outer s H E) (defBody st) t ∧ t { nx := fun _ G => Less R .non G, rt := Less R } (dstart N ds) G) : HasX P w K mg base (k + 1) nm ps dsp := by
  obtain ⟨f, fd, F, b, m⟩ := a
  exact hasx_mk F b m S (body f)
end
/-! ### a call that may let an error out, within a def that lets it out -/
section
variable {X : Cx} {k : Nat} {nm : Str} {ps : List Str} {dsp : DSpX} {e : Expr} {es : List Expr} {ts : TDA} {p pos : Pos} {E : XK} {RX : DXk}
/-- raise C(e, ..), C with its own __init__ that sets the fields fl -/
def dRaise (C : Addr) (fl : List Str) (ta : TDA) (RX : DXk) : TDS := fun _ δ G => ta δ G fun ds G1 => ds.length = fl.length ∧ ds.length ≤ 1000 ∧ RX (.ref C) (fl.zip ds).reverse G1
theorem ds_raise {x : Str} {C : Addr} {fl : List Str} {pos2 : Pos} (T : ExI X.prog X.w X.K X.mg X.base k x C fl) (hc : X.calm = true) (hx : FinX X.K X.H_0 RX E) (tk : Takes X (fun cls d _ H => E cls d H)) (hr : Room (k + 1) X.A) (hg : Gl X x) (ha : DA X (e :: es) ts)
    (hdb : (x == ("__debug__" : Str)) = false := by decide) (he : starEach (e :: es) X.env = (false, eval e X.env) :: starEach es X.env := by rfl) (hpl : (backTo pos (starEach es X.env)).any (·.1) = false := by rfl) :
    DS X (.Raise (some (.Call (.Name x p) (e :: es) [] pos)) none pos2) (dRaise C fl ts RX) := by
  obtain ⟨fI, fd, ps, iC, tI, F1, hb⟩ := T.ini
  have h := ps_raise (pos := pos2) hc tk (pmk_oex (p := p) (pos := pos) T.own iC tI F1 hr hb .nil (passes_call (E := fun _ _ _ => False) takes0 fun _ _ _ _ h => h) hg T.mgC ha hdb he hpl)
  refine ⟨fun pins s σ H D I ⟨D', δ, G, sl, w, l, h1⟩ => h.run pins s σ H D I ?_⟩
  have t0 := inv_tks I
  refine ⟨δ, G, _, sl, w, h1, fun ds G1 vs H1 ⟨l1, l2, q⟩ t1 w1 r1 => ⟨by rw [r1.len]; exact l2, fun a na => ?_⟩⟩
  rw [List.append_nil]
  refine ⟨a, vs, rfl, by rw [r1.len]; exact l1, upd_same, fun d nd da => ⟨rfl, d, (fl.zip vs).reverse, upd_same, (upd_ne da).trans upd_same, ?_, ?_⟩⟩
  · rw [upd_ne da] at nd; exact nd
  · have nd1 : H1 d = none := by rw [upd_ne da] at nd; exact nd
    have eH : upd (del (upd (upd (upd H1 a (exo a C none)) d (exd d (fl.zip vs).reverse)) a (exo a C (some d))) a) d (.xd (fl.zip vs).reverse) = upd H1 d (.xd (fl.zip vs).reverse) := by
      funext b
      by_cases hd : b = d
      · rw [hd, upd_same, upd_same]
      · rw [upd_ne hd, upd_ne hd]
        by_cases ha : b = a
        · rw [ha, del_same, na]
        · rw [del_ne ha, upd_ne ha, upd_ne hd, upd_ne ha]
    rw [eH]
    have s1 := same_new nd1 (.xd (fl.zip vs).reverse)
    exact hx _ _ G1 _ d q (w1.free nd1) (t0.trans (t1.trans (TKs.of s1))) (w1.new nd1 fun O => or_xd upd_same (frv_zip fl (r1.mono (.of s1))).rev)
theorem w_raise {C : Addr} {fl : List Str} {D : DEnds} {δ : DSt} {G : DG} (h : ts δ G fun ds G1 => ds.length = fl.length ∧ ds.length ≤ 1000 ∧ RX (.ref C) (fl.zip ds).reverse G1) : dRaise C fl ts RX D δ G := h
end
/-- the method m of the class at C keeps a promise of two outcomes -/
def HasMX (P : Program) (w : World) (K : Frag) (mg : Str → Option Value) (base : Heap) (k : Nat) (C : Addr) (m : Str) (ps : List Str) (dsp : DSpX) : Prop :=
  ∃ f fd, FnOk P w K mg base (L2.CX P w) k f fd ps (toSpX K ps.length dsp) ∧ L2.Binds K fd ps [] ∧ Meth K C m f ∧ Cls K C
section
variable {P : Program} {w : World} {K : Frag} {mg : Str → Option Value} {base : Heap}
theorem atmx_mk {C : Addr} {m qual : Str} {st : Stmt} {N ps : List Str} {k : Nat} {dsp : DSpX} (a : AtM K C m qual st ps) (S : FnScope N ps (defScope st))
    (body : ∀ (f : Addr) (cdv : Value) (A : Around) (outer : List Env) (s : Shared) (H : Hp) (E : XK), Room k (A.deeper (PyProof.Rows.envOfC qual (defScope st) s.heap.objs.size f cdv)) → ∀ ds G R RX, ds.length = ps.length → FinX K H (LessX RX) E → dsp ds G R RX →
      ∃ t, DSs (cxOf (L2.CX P w) P w K mg base N qual (defScope st) f cdv A outer s H E) (defBody st) t ∧ t { nx := fun _ G => Less R .non G, rt := Less R } (dstart N ds) G) : HasMX P w K mg base (k + 1) C m ps dsp := by
  obtain ⟨f, fd, F, b, me, c⟩ := a
  refine ⟨f, fd, F.okX S (fun vs H Q E h => ?_) (fun cdv A outer s H vs Q E hr h => ?_), b, me, c⟩
  · obtain ⟨ds, G, R, RX, r, w, l, _⟩ := h
    rw [r.len]; exact l
  · obtain ⟨ds, G, R, RX, r, wd, l, h, fin, fx⟩ := h
    obtain ⟨t, h1, h2⟩ := body f cdv A outer s H E hr ds G R RX l fx.less h
    exact ⟨_, h1, _, _, G, sl_start r, wd, links_def fin, h2⟩
end
section
variable {X : Cx} {k : Nat} {C : Addr} {m nm : Str} {ps : List Str} {dsp : DSpX} {o e : Expr} {es : List Expr} {to : TD} {ts : TDA} {p apos pos : Pos} {E : XK} {RX : DXk}
def dMethX (C : Addr) (m : Str) (n : Nat) (dsp : DSpX) (RX : DXk) (to : TD) (ts : TDA) : TD := fun δ G Q => to δ G fun x G1 => ∃ a fs, x = .ref a ∧ G1 a = some (.obj C fs) ∧ fs.lookup m = none ∧ ts δ G1 fun ds G2 => (x :: ds).length = n ∧ dsp (x :: ds) G2 Q RX
theorem w_methX {n : Nat} {δ : DSt} {G : DG} {Q : DK} (h : to δ G fun x G1 => ∃ a fs, x = .ref a ∧ G1 a = some (.obj C fs) ∧ fs.lookup m = none ∧ ts δ G1 fun ds G2 => (x :: ds).length = n ∧ dsp (x :: ds) G2 Q RX) : dMethX C m n dsp RX to ts δ G Q := h
theorem de_meth0X (h : HasMX X.prog X.w X.K X.mg X.base k C m ps dsp) (hx : FinX X.K X.H_0 RX E) (tk : Takes X (fun cls d _ H => E cls d H)) (hr : Room k X.A) (ho : DE X o to) {pl : Sem Bool}
    (ht : eval (.Call (.Attribute o m apos) [] [] pos) X.env = (do
      let ov ← eval o X.env
      standAt apos.atName
      let (f, first) ← holding [ov] (getMethod ov m pl)
      callWith pos f first (backTo pos (starEach [] X.env)) (backToKw pos (keywordEach [] X.env))) := by rfl) : DE X (.Call (.Attribute o m apos) [] [] pos) (dMethX C m ps.length dsp RX to dNil) := by
  obtain ⟨f, fd, F, b, me, c⟩ := h
  refine PE_mono (pe_inv (pe_meth0 ho c me F hr b .nil (passes_call (E := E) tk fun _ _ _ _ h => h) ht)) fun σ H Q ⟨δ, G, R, sl, w, h, fn⟩ => fun t0 => ⟨δ, G, _, sl, w, h, fun x G1 vx H1 ⟨a, fs, e1, e2, l, q⟩ t1 w1 r1 => ?_⟩
  subst e1
  cases r1
  obtain ⟨dx, vs, hh, r⟩ := wd_obj w1 e2
  refine ⟨a, dx, vs, rfl, hh, r.none l, ?_⟩
  show toSpX X.K ps.length dsp [V.ref a] H1 Q E
  exact ⟨_, G1, R, RX, .cons (.ref a) .nil, w1, q.1, q.2, fn.step t1, hx.step (t0.trans t1)⟩
end
/-! ### try -/
abbrev TDX := DSt → DG → DK → DXk → Prop
def FinW (K : Frag) (H : Hp) (RX : DXk) (W : WX) (σ : L2.St) : Prop := ∀ cls fs G H' d, RX cls fs G → G d = none → TKs K H H' → Wd K H' (dupd G d (xdG fs)) → W cls (some d) σ H'
theorem FinW.step {K : Frag} {H H1 : Hp} {RX : DXk} {W : WX} {σ : L2.St} (f : FinW K H RX W σ) (t : TKs K H H1) : FinW K H1 RX W σ := fun c fs G H' d r n t' w => f c fs G H' d r n (t.trans t') w
def upE (K : Frag) (W : WX) (t : TDX) : TE := fun σ H Q => ∃ δ G R RX, Sl K H σ δ ∧ Wd K H G ∧ t δ G R RX ∧ Fin K H R Q ∧ FinW K H RX W σ
/-- an expression within a try -/
def DEX (X : Cx) (e : Expr) (t : TDX) : Prop := ∀ (W : WX) (pn : List (Addr × Obj)) (xe : Value → Shared → Prop), Takes (X.tr pn xe) W → PE (X.tr pn xe) e (upE X.K W t)
section
variable {X : Cx} {k : Nat} {nm : Str} {ps : List Str} {dsp : DSpX} {e : Expr} {es : List Expr} {ts : TDA} {p pos : Pos}
def xCall (n : Nat) (dsp : DSpX) (t : TDA) : TDX := fun δ G Q RX => t δ G fun ds G1 => ds.length = n ∧ dsp ds G1 Q RX
theorem dex_call (h : HasX X.prog X.w X.K X.mg X.base k nm ps dsp) (hr : Room k X.A) (hg : Gl X nm) (ha : ∀ pn xe, DA (X.tr pn xe) (e :: es) ts) (hdb : (nm == ("__debug__" : Str)) = false := by decide) (he : starEach (e :: es) X.env = (false, eval e X.env) :: starEach es X.env := by rfl) (hpl : (backTo pos (starEach es X.env)).any (·.1) = false := by rfl) :
    DEX X (.Call (.Name nm p) (e :: es) [] pos) (xCall ps.length dsp ts) := by
  obtain ⟨f, fd, F, b, kp, m, _⟩ := h
  intro W pn xe tk
  refine PE_mono (pe_callS (X := X.tr pn xe) F hr hg m kp b (fun σ => passAt tk σ) (ha pn xe) hdb he hpl) fun σ H Q ⟨δ, G, R, RX, sl, w, h, f, fx⟩ => ⟨δ, G, _, sl, w, h, fun ds G1 vs H1 h1 t1 w1 r1 => ?_⟩
  exact ⟨ds, G1, R, RX, r1, w1, h1.1, h1.2, f.step t1, fun c fs G' H' d r n t w => fx c fs G' H' d r n (t1.trans t) w⟩
end
/-! statements within a try -/
abbrev TDSX := DEnds → DSt → DG → DXk → Prop
def upSX (K : Frag) (W : WX) (t : TDSX) : TS := fun D σ H => ∃ D' δ G RX, Sl K H σ δ ∧ Wd K H G ∧ Links K H D' D ∧ t D' δ G RX ∧ FinW K H RX W σ
def DSsX (X : Cx) (b : List Stmt) (t : TDSX) : Prop := ∀ (W : WX) (pn : List (Addr × Obj)) (xe : Value → Shared → Prop), Takes (X.tr pn xe) W → PassesOwn (model X.prog X.w) X.A X.env xe → PSs (X.tr pn xe) b (upSX X.K W t)
section
variable {X : Cx} {e : Expr} {te : TDX}
def xSet (i : Nat) (te : TDX) : TDSX := fun D δ G RX => te δ G (fun d G1 => D.nx (δ.set i (some d)) G1) RX
theorem dssx_set {i : Nat} {x : Str} {pos' pos : Pos} (hN : X.N.Nodup) (hi : X.N[i]? = some x) (hx : Loc X.env.scope x) (he : DEX X e te) (hs : swapsWith e (some (.Name x pos')) pos.line X.env = pure false := by rfl) (hf : X.fn x = true ∨ X.env.scope.names.lookup x = some .local := by first | exact .inl rfl | exact .inr rfl | assumption) : DSsX X [.Assign [.Name x pos'] e pos] (xSet i te) := fun W pn xe tk po =>
  PSs_mono (pss_one (ps_set (X := X.tr pn xe) hN hi hx (he W pn xe tk) hs hf)) fun D σ H ⟨D', δ, G, RX, sl, w, l, h, fx⟩ => ⟨δ, G, _, RX, sl, w, h, fun d G1 v H1 q t1 w1 r1 => l.nx _ _ G1 H1 q t1 w1 ((sl.mono t1).set r1 i), fx⟩
end
section
variable {X : Cx}
/-- if within try -/
def xIf (tc : TDT) (t u : TDSX) : TDSX := fun D δ G RX => tc δ G fun k G1 => if k = true then t D δ G1 RX else u D δ G1 RX
theorem dssx_if {c : Expr} {a b : List Stmt} {tc : TDT} {t u : TDSX} {pos : Pos} (hc : ∀ pn xe, DT (X.tr pn xe) c tc) (ha : DSsX X a t) (hb : DSsX X b u) : DSsX X [.If c a b pos] (xIf tc t u) := fun W pn xe tk po =>
  PSs_mono (pss_one (ps_if (hc pn xe) (ha W pn xe tk po) (hb W pn xe tk po))) fun D σ H ⟨D', δ, G, RX, sl, w, l, h, fx⟩ => ⟨δ, G, _, sl, w, h, fun k G1 H1 q t1 w1 => by
    cases k with
    | true => exact iteT ⟨D', δ, G1, RX, sl.mono t1, w1, l.step t1, q, fx.step t1⟩
    | false => exact iteF ⟨D', δ, G1, RX, sl.mono t1, w1, l.step t1, q, fx.step t1⟩⟩
theorem w_xIf {tc : TDT} {t u : TDSX} {D : DEnds} {δ : DSt} {G : DG} {RX : DXk} (h : tc δ G fun k G1 => if k = true then t D δ G1 RX else u D δ G1 RX) : xIf tc t u D δ G RX := h
/-- try: body; except c as n: suite (slot i is n's). dd is the error's dict. -/
def dTry (K : Frag) (c : Value) (i : Nat) (tb : TDSX) (ts : Addr → Value → Addr → TDS) : TDS := fun D δ G => tb D δ G fun cls fs G1 => exmOne K cls c = some true ∧ ∀ a dd, G1 a = none → G1 dd = none → a ≠ dd →
  ts a cls dd { nx := fun δ' G2 => D.nx (δ'.set i none) G2, rt := D.rt, bk := fun δ' G2 => D.bk (δ'.set i none) G2, ct := fun δ' G2 => D.ct (δ'.set i none) G2 } (δ.set i (some (.ref a))) (dupd G1 dd (xdG fs))
theorem ds_try {x n : Str} {c : Value} {i : Nat} {body suite : List Stmt} {b₀ : Stmt} {np pos pos' : Pos} {tb : TDSX} {ts : Addr → Value → Addr → TDS} (hs : X.stack = X.env :: X.outer) (hf : X.env.frame = some X.env.locals) (hN : X.N.Nodup) (hi : X.N[i]? = some n) (hln : X.env.kindOf n = some .local) (hc : Names X x c)
    (hb : DSsX X body tb) (hsu : ∀ (a : Addr) (oe : Obj) (cls : Value) (dd : Addr) (pn : List (Addr × Obj)), Zc cls (some dd) oe → (∃ vs, oe.data = .fields vs) → DSs (X.suite a ((a, oe) :: pn)) (b₀ :: suite) (ts a cls dd)) :
    DS X (.Try body [.ExceptHandler (some (.Name x np)) (some n) (b₀ :: suite) pos'] [] [] pos) (dTry X.K c i tb ts) := by
  refine PS_mono (ps_try_hold (Wout := fun _ _ _ _ => False) (tb := fun W => upSX X.K W tb) (ts := fun a cls d D σ H => ∃ dd, d = some dd ∧ upS X.K (ts a cls dd) D σ H) hs hf hN hi hln hc takes0 (fun W pn xe tk po => hb W pn xe tk po) fun a oe cls d pn hz hv => ?_) fun D σ H ⟨D', δ, G, sl, w, l, h⟩ => ?_
  · refine ⟨fun pins s σ H D I ⟨dd, ed, h⟩ => ?_⟩
    subst ed
    exact (hsu a oe cls dd pn hz hv).run pins s σ H D I h
  · refine ⟨D', δ, G, _, sl, w, l, h, fun cls fs G1 H1 dd ⟨he, h1⟩ nd t1 w1 => ⟨true, he, fun _ a na => ⟨dd, rfl, { nx := fun δ' G2 => D'.nx (δ'.set i none) G2, rt := D'.rt, bk := fun δ' G2 => D'.bk (δ'.set i none) G2, ct := fun δ' G2 => D'.ct (δ'.set i none) G2 }, δ.set i (some (.ref a)), dupd G1 dd (xdG fs), (sl.mono t1).set (.ref a) i, w1, ⟨?_, ?_, ?_, ?_⟩, ?_⟩, fun z => nomatch z⟩⟩
    · intro σ2 δ2 G2 H2 q t2 w2 sl2 na2
      have s' := same_new na2 (eOb a cls (some dd))
      exact l.nx _ _ _ _ q ((t1.trans t2).trans (TKs.of s')) (w2.same s') ((sl2.unset i).mono (TKs.of s'))
    · intro d2 G2 v2 H2 q t2 w2 r2
      exact l.rt _ _ _ _ q (t1.trans t2) w2 r2
    · intro σ2 δ2 G2 H2 q t2 w2 sl2
      exact l.bk _ _ _ _ q (t1.trans t2) w2 (sl2.unset i)
    · intro σ2 δ2 G2 H2 q t2 w2 sl2
      exact l.ct _ _ _ _ q (t1.trans t2) w2 (sl2.unset i)
    · have na1 : dupd G1 dd (xdG fs) a = none := w1.free na
      have ne : a ≠ dd := fun z => by rw [z, dupd_same] at na1; cases na1
      exact h1 a dd (by rw [dupd_ne ne] at na1; exact na1) nd ne
theorem w_try {K : Frag} {c : Value} {i : Nat} {tb : TDSX} {ts : Addr → Value → Addr → TDS} {D : DEnds} {δ : DSt} {G : DG} (h : tb D δ G fun cls fs G1 => exmOne K cls c = some true ∧ ∀ a dd, G1 a = none → G1 dd = none → a ≠ dd →
  ts a cls dd { nx := fun δ' G2 => D.nx (δ'.set i none) G2, rt := D.rt, bk := fun δ' G2 => D.bk (δ'.set i none) G2, ct := fun δ' G2 => D.ct (δ'.set i none) G2 } (δ.set i (some (.ref a))) (dupd G1 dd (xdG fs))) : dTry K c i tb ts D δ G := h
/-- e.n in the suite -/
def dXf (a : Addr) (cls : Value) (dd C : Addr) (n : Str) (te : TD) : TD := fun δ G Q => te δ G fun x G1 => x = .ref a ∧ cls = .ref C ∧ ∃ fs y, G1 dd = some (xdG fs) ∧ fs.lookup n = some y ∧ Q y G1
theorem de_xf {a C dd : Addr} {oe : Obj} {cls : Value} {pn : List (Addr × Obj)} {e : Expr} {te : TD} {pos : Pos} {n : Str} (T : XfC X.K C) (hno : findIn X.K (.ref C) n = some none)
    (hz : Zc cls (some dd) oe) (hf : ∃ vs, oe.data = .fields vs) (he : DE (X.suite a ((a, oe) :: pn)) e te) (hb : attributeBase e n X.env (eval e X.env) = eval e X.env := by rfl) :
    DE (X.suite a ((a, oe) :: pn)) (.Attribute e n pos) (dXf a cls dd C n te) := by
  refine PE_mono (pe_xf T hno hz hf he hb) fun σ H Q ⟨δ, G, R, sl, w, h, f⟩ => ⟨δ, G, _, sl, w, h, fun x G1 v H1 ⟨e1, e2, fs, y, g, lk, q⟩ t1 w1 r1 => ?_⟩
  subst e1
  cases r1
  obtain ⟨vs, hx, r⟩ := wd_xd w1 g
  obtain ⟨u, hu, ru⟩ := r.look lk
  exact ⟨rfl, e2, dd, vs, u, rfl, hx, hu, f y G1 u H1 q t1 w1 ru⟩
theorem w_xf {a C dd : Addr} {cls : Value} {n : Str} {te : TD} {δ : DSt} {G : DG} {Q : DK} (h : te δ G fun x G1 => x = .ref a ∧ cls = .ref C ∧ ∃ fs y, G1 dd = some (xdG fs) ∧ fs.lookup n = some y ∧ Q y G1) : dXf a cls dd C n te δ G Q := h
/-! isinstance of the error in the suite -/
theorem inst_y {a D dd : Addr} {oe : Obj} {pn pins : List (Addr × Obj)} {s : Shared} {σ : L2.St} {H : Hp} (I : Inv (X.suite a ((a, oe) :: pn)) pins σ H s) (hz : Zc (.ref D) (some dd) oe) (hf : ∃ vs, oe.data = .fields vs) {fs : List (Str × V)} (hx : H dd = some (.xd fs)) : ∃ od, InstAt s.heap a oe D (some od) := by
  obtain ⟨ha, _⟩ := I.pin (a, oe) (List.mem_append_left _ List.mem_cons_self)
  obtain ⟨vs, hd⟩ := hf
  have hx : ObjOk X.prog X.w H s.heap dd (.xd fs) := I.hok dd _ hx
  obtain ⟨mA, hns, hr⟩ := hx
  obtain ⟨od, ho, hl⟩ := lookIn_ns hns
  exact ⟨od, ha, hz.1, by unfold PySem.W.notCls; rw [hd] <;> rfl, by rw [hz.2]; exact ho⟩
def rIsY (K : Frag) (a : Addr) (cls : Value) (dd : Addr) : List V → Hp → VK → Prop := fun xs H Q => ∃ D fs, cls = .ref D ∧ ExcC K D ∧ H dd = some (.xd fs) ∧ rIsE K D a xs H Q
theorem call_isY {a dd : Addr} {oe : Obj} {cls : Value} {pn : List (Addr × Obj)} (hz : Zc cls (some dd) oe) (hf : ∃ vs, oe.data = .fields vs) : CallR (X.suite a ((a, oe) :: pn)) (.builtin "isinstance") (rIsY X.K a cls dd) := by
  intro pins s σ H xs us Q I r h
  obtain ⟨D, fs, rfl, C, hx, c, cv, b, rfl, hcv, e, q⟩ := h
  cases r with
  | cons rx rr =>
    cases rr with
    | cons rt rr =>
      cases rr
      cases rx
      have ec := hcv _ rt
      subst ec
      obtain ⟨od, J⟩ := inst_y I hz hf hx
      exact PySem.W.kia_one (kit_exd C) I.kIn J e (fun z => nomatch z) fun tk => ⟨.bl b, H, I.kept (t' := tk) fun _ _ z => z, rfl, q⟩
def bIsY (K : Frag) (a : Addr) (cls : Value) (dd : Addr) : DC := fun ds G Q => ∃ D d c b fs, cls = .ref D ∧ ExcC K D ∧ ds = [.ref a, d] ∧ clsOf d = some c ∧ kitOne K (.ref D) c = some b ∧ G dd = some (xdG fs) ∧ Q (.bl b) G
theorem cd_isY {a dd : Addr} {oe : Obj} {cls : Value} {pn : List (Addr × Obj)} (hz : Zc cls (some dd) oe) (hv : ∃ vs, oe.data = .fields vs) : CallD (X.suite a ((a, oe) :: pn)) (.builtin "isinstance") (bIsY X.K a cls dd) := by
  refine ⟨_, call_isY hz hv, fun ds vs H G R Q r w ⟨D, d, c, b, fs, ec, C, e, hc, hk, g, q⟩ f => ?_⟩
  subst e
  obtain ⟨vs', hx, _⟩ := wd_xd w g
  cases r with
  | cons r1 r2 =>
    cases r2 with
    | cons r2 r3 =>
      cases r3
      cases r1
      exact ⟨D, vs', ec, C, hx, _, c, b, rfl, clsOf_rel r2 hc, hk, f _ G _ H q (TKs.refl H) w (.bl b)⟩
theorem w_isY {a C dd : Addr} {d : DV} {v : Value} {b : Bool} {fs : List (Str × DV)} {G : DG} {Q : DK} (x : ExcC X.K C) (hc : clsOf d = some v) (hk : kitOne X.K (.ref C) v = some b) (g : G dd = some (xdG fs)) (h : Q (.bl b) G) : bIsY X.K a (.ref C) dd [.ref a, d] G Q := ⟨C, d, v, b, fs, rfl, x, rfl, hc, hk, g, h⟩
def dIsEt (K : Frag) (cls : Value) (a dd : Addr) (i : Nat) (cs : List Addr) : TD := fun δ G Q => δ[i]? = some (some (.ref a)) ∧ ∃ D b fs, cls = .ref D ∧ ExcC K D ∧ kitAny K (.ref D) (cs.map Value.ref) = some b ∧ cs.length ≤ sizeLine ∧ G dd = some (xdG fs) ∧ Q (.bl b) G
def rIsEtY (K : Frag) (a : Addr) (cls : Value) (dd : Addr) : List V → Hp → VK → Prop := fun xs H Q => ∃ D fs, cls = .ref D ∧ ExcC K D ∧ H dd = some (.xd fs) ∧
  ∃ (tp : Addr) (cs : List V) (us : List Value) (b : Bool), xs = [.ref a, .ref tp] ∧ H tp = some (.tup cs) ∧ Paired ClsV cs us ∧ PySem.W.kitAny K (.ref D) us = some b ∧ Q (.bl b) H
theorem call_isEtY {a dd : Addr} {oe : Obj} {cls : Value} {pn : List (Addr × Obj)} (hz : Zc cls (some dd) oe) (hf : ∃ vs, oe.data = .fields vs) : CallR (X.suite a ((a, oe) :: pn)) (.builtin "isinstance") (rIsEtY X.K a cls dd) := by
  intro pins s σ H xs us Q I r h
  obtain ⟨D, fs, rfl, C, hx, tp, cs, ws, b, rfl, hT, k, e, q⟩ := h
  obtain ⟨u1, u2, rfl, r1, r2⟩ := r.two
  cases r1
  cases (show u2 = Value.ref tp from r2)
  obtain ⟨od, J⟩ := inst_y I hz hf hx
  obtain ⟨_, its, rv, o, h1, h2, n, h3⟩ := (show ObjOk X.prog X.w H s.heap tp (.tup cs) from I.hok tp _ hT)
  have e3 := ClsV.all k rv
  subst e3
  obtain ⟨oc, od', dt, sl⟩ := o
  simp only at h2 h3
  subst h2 h3
  exact PySem.W.kia_tup (kit_exd C) I.kIn J h1 e (fun z => nomatch z) fun tk => ⟨.bl b, H, I.kept (t' := tk) fun _ _ z => z, rfl, q⟩
theorem de_isEt {a dd : Addr} {oe : Obj} {cls : Value} {pn : List (Addr × Obj)} {i : Nat} {x : Str} {p p1 p2 pos : Pos} {es : List Expr} {x1} {cs : List Addr} (hz : Zc cls (some dd) oe) (hv : ∃ vs, oe.data = .fields vs) (hi : X.mg "isinstance" = none) (hg : Gl X "isinstance")
    (he : PE (X.suite a ((a, oe) :: pn)) (.Name x p1) (tVar i)) (ha : PA (X.suite a ((a, oe) :: pn)) es (tRefs cs))
    (hs : starEach [(.Name x p1 : Expr), .Tuple es x1 p2] X.env = (false, eval (.Name x p1) X.env) :: starEach [(.Tuple es x1 p2 : Expr)] X.env := by rfl) (hs1 : starEach [(.Tuple es x1 p2 : Expr)] X.env = (false, eval (.Tuple es x1 p2) X.env) :: starEach [] X.env := by rfl) (hpl : (backTo pos (starEach [(.Tuple es x1 p2 : Expr)] X.env)).any (·.1) = false := by rfl) :
    DE (X.suite a ((a, oe) :: pn)) (.Call (.Name "isinstance" p) [.Name x p1, .Tuple es x1 p2] [] pos) (dIsEt X.K cls a dd i cs) := by
  refine PE_mono (pe_callB (call_isEtY hz hv) hg hi PyProof.Rows.boot_isinstance (pa_cons he (pa_cons (pe_tup ha) pa_nil hs1) hs)) fun σ H Q ⟨δ, G, R, sl, w, ⟨hsl, D, b, fs, ec, C, hk, hl, g, q⟩, f⟩ => ?_
  obtain ⟨v, e1, r1⟩ := sl.get hsl
  cases r1
  refine ⟨_, e1, by rw [List.length_map]; exact hl, fun tp np => ?_⟩
  have s' := same_new np (.tup (cs.map V.ref))
  have w' := w.same s'
  obtain ⟨vs', hx, _⟩ := wd_xd w' g
  exact ⟨D, vs', ec, C, hx, tp, cs.map V.ref, _, b, rfl, upd_same, cls_refs cs, hk, f _ G _ _ q (TKs.of s') w' (.bl b)⟩
theorem w_isEt {a C dd : Addr} {i : Nat} {cs : List Addr} {b : Bool} {fs : List (Str × DV)} {δ : DSt} {G : DG} {Q : DK} (hs : δ[i]? = some (some (.ref a))) (x : ExcC X.K C) (hk : kitAny X.K (.ref C) (cs.map Value.ref) = some b) (hl : cs.length ≤ sizeLine) (g : G dd = some (xdG fs)) (h : Q (.bl b) G) : dIsEt X.K (.ref C) a dd i cs δ G Q := ⟨hs, C, b, fs, rfl, x, hk, hl, g, h⟩
end
end DD.Y
/-! list.index of a text in a list of texts; displays of dicts with texts as keys -/
namespace DD
open PySem PySem.W L2 SX Cm
section
variable {X : Cx}
/-! displays -/
def dPairs : List (TD × TD) → DSt → DG → (List (DV × DV) → DG → Prop) → Prop
  | [], _, G, Q => Q [] G
  | (tk, tv) :: r, δ, G, Q => tk δ G fun x G1 => tv δ G1 fun y G2 => dPairs r δ G2 fun ps G3 => Q ((x, y) :: ps) G3
inductive PR (K : Frag) (H : Hp) : List (V × V) → List (DV × DV) → Prop
  | nil : PR K H [] []
  | cons {v u : V} {x y : DV} {vs : List (V × V)} {ps : List (DV × DV)} : RV K H v x → RV K H u y → PR K H vs ps → PR K H ((v, u) :: vs) ((x, y) :: ps)
theorem lift_pairs {K : Frag} {σ : St} : ∀ (trs : List (TD × TD)) {δ : DSt} {G : DG} {H : Hp} {Qd : List (DV × DV) → DG → Prop} {Qh : List (V × V) → Hp → Prop}, Sl K H σ δ → Wd K H G → dPairs trs δ G Qd →
    (∀ ps G' H' vs, Qd ps G' → TKs K H H' → Wd K H' G' → PR K H' vs ps → Qh vs H') → tPairs (trs.map fun t => (up K t.1, up K t.2)) σ H Qh
  | [], δ, G, H, _, _, sl, w, h, f => f [] G H [] h (TKs.refl H) w .nil
  | (tk, tv) :: r, δ, G, H, _, _, sl, w, h, f => ⟨δ, G, _, sl, w, h, fun x G1 vx H1 h1 t1 w1 r1 => ⟨δ, G1, _, sl.mono t1, w1, h1, fun y G2 vy H2 h2 t2 w2 r2 =>
    lift_pairs r (sl.mono (t1.trans t2)) w2 h2 fun ps G' H' vs q t w' pr => f ((x, y) :: ps) G' H' ((vx, vy) :: vs) q ((t1.trans t2).trans t) w' (.cons (r1.mono (t2.trans t)) (r2.mono t) pr)⟩⟩
structure DPs (X : Cx) (pos : Pos) (keys : List (Option Expr)) (values : List Expr) (trs : List (TD × TD)) : Prop where
  run : PPs X pos keys values (trs.map fun t => (up X.K t.1, up X.K t.2))
theorem dps_nil {pos : Pos} : DPs X pos [] [] [] := ⟨pps_nil⟩
theorem dps_cons {pos : Pos} {k v : Expr} {ks : List (Option Expr)} {vs : List Expr} {tk tv : TD} {trs : List (TD × TD)} (hk : DE X k tk) (hv : DE X v tv) (hr : DPs X pos ks vs trs) : DPs X pos (some k :: ks) (v :: vs) ((tk, tv) :: trs) := ⟨pps_cons hk hv hr.run⟩
end
end DD
/-! dicts with numbers as keys, over data -/
namespace DD
open PySem PySem.W L2 SX Cm
def keyI (z : Int) : Key := .inl z
section
variable {X : Cx} {o i e e2 value : Expr} {pos pos' apos cpos : Pos} {td ti tv : TD}
def dDGetI (td ti : TD) : TD := fun δ G Q => td δ G fun x G1 => ti δ G1 fun y G2 => ∃ p kvs z v, x = .ref p ∧ y = .int z ∧ G2 p = some (.dct kvs) ∧ valD kvs (keyI z) = some v ∧ Q v G2
theorem de_dgetI (hu : X.A.units + 1 < cLine) (ho : DE X o td) (hi : DE X i ti) (hs : NoSl i := by rfl) : DE X (.Subscript o i pos) (dDGetI td ti) :=
  PE_mono (pe_dget hu ho hi hs) fun σ H Q ⟨δ, G, R, sl, w, q, f⟩ => ⟨δ, G, _, sl, w, q, fun x G1 vx H1 q1 t1 w1 r1 => ⟨δ, G1, _, sl.mono t1, w1, q1, fun y G2 vy H2 ⟨p, kvs, z, v, e1, e2, eG, ev, q2⟩ t2 w2 r2 => by
    subst e1 e2
    cases r1
    cases r2
    obtain ⟨vs, hv, kr⟩ := wd_dct w2 eG
    rcases kr.val (keyI z) with ⟨_, h⟩ | ⟨v', d', h1, h2, rv⟩
    · rw [ev] at h; cases h
    · rw [ev] at h2; cases h2
      refine ⟨p, v', rfl, ?_, f _ _ _ _ q2 (t1.trans t2) w2 rv⟩
      have := DGet.k (k := keyI z) hv
      rw [h1] at this
      exact this⟩⟩
def dDPutI (td ti tv : TD) : TDS := fun D δ G => tv δ G fun v G1 => td δ G1 fun x G2 => ti δ G2 fun y G3 => ∃ p kvs z, x = .ref p ∧ y = .int z ∧ G3 p = some (.dct kvs) ∧ kvs.length < sizeLine ∧ D.nx δ (dupd G3 p (.dct (putD kvs (keyI z) v)))
theorem ds_dputI (hu : X.A.units + 1 < cLine) (ho : DE X o td) (hi : DE X i ti) (hv : DE X value tv) (hs : swapsWith value (some (.Subscript o i pos')) pos.line X.env = pure false := by rfl) : DS X (.Assign [.Subscript o i pos'] value pos) (dDPutI td ti tv) :=
  PS_mono (ps_dput hu ho hi hv hs) fun D σ H ⟨D', δ, G, sl, w, l, h⟩ => ⟨δ, G, _, sl, w, h, fun v G1 vv H1 q1 t1 w1 r1 => ⟨δ, G1, _, sl.mono t1, w1, q1, fun x G2 vx H2 q2 t2 w2 r2 => ⟨δ, G2, _, sl.mono (t1.trans t2), w2, q2, fun y G3 vy H3 ⟨p, kvs, z, e1, e2, eG, hl, q3⟩ t3 w3 r3 => by
    subst e1 e2
    cases r2
    cases r3
    obtain ⟨vs, hv, kr⟩ := wd_dct w3 eG
    have t13 := (t1.trans t2).trans t3
    have t4 : TKs X.K H3 (upd H3 p (.dK (putK vs (keyI z) vv))) := tks_dct hv
    refine ⟨p, _, rfl, DPut.k (k := keyI z) hv (by rw [kr.len]; exact hl), l.nx _ _ _ _ q3 (t13.trans t4) ?_ (sl.mono (t13.trans t4))⟩
    exact w3.put ⟨_, eG, fun L φ z => by cases z⟩ t4 fun O => ⟨_, upd_same, (kr.put (keyI z) (r1.mono (t2.trans t3))).mono t4⟩⟩⟩⟩
end
theorem pr_keysI {K : Frag} {H : Hp} : ∀ {kvs : List (Int × DV)} {vs : List (V × V)}, PR K H vs (kvs.map fun kv => (DV.int kv.1, kv.2)) → ∃ vk : List (Key × V), vs = vk.map (fun kv => (kV kv.1, kv.2)) ∧ vk.length = kvs.length ∧
    ∀ {us : List (Key × V)} {ds : List (Key × DV)}, KRV K H us ds → KRV K H (mergeK us vk) (kvs.foldl (fun m kv => putD m (keyI kv.1) kv.2) ds)
  | [], _, .nil => ⟨[], rfl, rfl, fun h => h⟩
  | kv :: r, _, .cons (v := v) (u := u) h1 h2 t => by
    obtain ⟨vk, e, l, g⟩ := pr_keysI t
    cases h1
    exact ⟨(keyI kv.1, u) :: vk, by rw [e]; rfl, by rw [List.length_cons, List.length_cons, l], fun h => g (h.put (keyI kv.1) h2)⟩
def dDispI (trs : List (TD × TD)) : TD := fun δ G Q => ∀ p, G p = none → dPairs trs δ (dupd G p (.dct [])) fun ps G2 => G2 p = some (.dct []) ∧ ∃ kvs : List (Int × DV), ps = kvs.map (fun kv => (DV.int kv.1, kv.2)) ∧ kvs.length ≤ 15 ∧ Q (.ref p) (dupd G2 p (.dct (kvs.foldl (fun m kv => putD m (keyI kv.1) kv.2) [])))
section
variable {X : Cx}
theorem de_dispI {pos : Pos} {keys : List (Option Expr)} {values : List Expr} {trs : List (TD × TD)} (h : DPs X pos keys values trs) (hall : keys.all (·.isSome) = true := by rfl) (hl : keys.length = values.length := by rfl) (h0 : keys ≠ [] := by exact fun z => nomatch z)
    (h15 : keys.length ≤ 15 := by decide) : DE X (.Dict keys values pos) (dDispI trs) := by
  refine PE_mono (pe_disp h.run hall hl h0 h15) fun σ H Q ⟨δ, G, R, sl, w, q, f⟩ => fun p np => ?_
  have s := same_new np (.dK [])
  have w1 : Wd X.K (upd H p (.dK [])) (dupd G p (.dct [])) := w.new np fun O => ⟨[], upd_same, .nil⟩
  refine lift_pairs trs (sl.mono (TKs.of s)) w1 (q p (w.free np)) fun ps G' H' vs ⟨eG, kvs, ep, hl, q2⟩ t w' pr => ?_
  subst ep
  obtain ⟨us, hu, kr⟩ := wd_dct w' eG
  cases kr
  obtain ⟨vk, ev, ln, mg⟩ := pr_keysI pr
  have t2 : TKs X.K H' (upd H' p (.dK (mergeK [] vk))) := tks_dct hu
  exact ⟨hu, vk, ev, by omega, f _ _ _ _ q2 (((TKs.of s).trans t).trans t2) (w'.put ⟨_, eG, fun L φ z => by cases z⟩ t2 fun O => ⟨_, upd_same, (mg .nil).mono t2⟩) (.ref p)⟩
theorem w_dgetI {td ti : TD} {δ : DSt} {G : DG} {Q : DK} (h : td δ G fun x G1 => ti δ G1 fun y G2 => ∃ p kvs z v, x = .ref p ∧ y = .int z ∧ G2 p = some (.dct kvs) ∧ valD kvs (keyI z) = some v ∧ Q v G2) : dDGetI td ti δ G Q := h
theorem w_dputI {td ti tv : TD} {D : DEnds} {δ : DSt} {G : DG} (h : tv δ G fun v G1 => td δ G1 fun x G2 => ti δ G2 fun y G3 => ∃ p kvs z, x = .ref p ∧ y = .int z ∧ G3 p = some (.dct kvs) ∧ kvs.length < sizeLine ∧ D.nx δ (dupd G3 p (.dct (putD kvs (keyI z) v)))) : dDPutI td ti tv D δ G := h
theorem w_dispI {trs : List (TD × TD)} {δ : DSt} {G : DG} {Q : DK} (h : ∀ p, G p = none → dPairs trs δ (dupd G p (.dct [])) fun ps G2 => G2 p = some (.dct []) ∧ ∃ kvs : List (Int × DV), ps = kvs.map (fun kv => (DV.int kv.1, kv.2)) ∧ kvs.length ≤ 15 ∧ Q (.ref p) (dupd G2 p (.dct (kvs.foldl (fun m kv => putD m (keyI kv.1) kv.2) [])))) : dDispI trs δ G Q := h
end
end DD
/-! xs != [] of any list -/
namespace DD
open PySem PySem.Spec PyProof.Rows PySem.W L2 SX Cm
def rNeNil (K : Frag) : R2 := fun x y H Q => ∃ a b xs, x = .ref a ∧ y = .ref b ∧ SqL K H a xs ∧ SqL K H b [] ∧ Q (.bl (!xs.isEmpty)) H
section
variable {X : Cx}
theorem op_neNil (hu : X.A.units + 64 < cLine) : OpR X (compareOp .NotEq) (rNeNil X.K) := by
  intro pins s σ H x y v u Q I rx ry h
  obtain ⟨a, b, xs, rfl, rfl, ha, hb, q⟩ := h
  cases xs with
  | nil => exact op_neD hu pins s σ H _ _ v u Q I rx ry ⟨.list [], .list [], .lst ha .nil, .lst hb .nil, rfl, rfl, q⟩
  | cons z t =>
    cases rx
    cases ry
    obtain ⟨us, r1, p1, _⟩ := I.list ha
    obtain ⟨ws, r2, p2, _⟩ := I.list hb
    cases r2
    cases r1 with
    | cons h1 t1 => exact SeqAt.RcNeAt.lists_lengths p1.isList p2.isList (by simp) (by omega) _ _ _ _ ⟨.bl true, H, I, rfl, q⟩
def bNeNil : D2 := fun x y G Q => ∃ p q xs, x = .ref p ∧ y = .ref q ∧ G p = some (.lst xs) ∧ G q = some (.lst []) ∧ Q (.bl (!xs.isEmpty)) G
theorem od_neNil (hu : X.A.units + 64 < cLine) : OpD X (compareOp .NotEq) bNeNil := by
  refine ⟨_, op_neNil hu, fun x y vx vy H G R Q rx ry w h f => ?_⟩
  obtain ⟨p, q, xs, rfl, rfl, e1, e2, h⟩ := h
  cases rx
  cases ry
  obtain ⟨us, h1, r1⟩ := wd_list w e1
  obtain ⟨vs, h2, r2⟩ := wd_list w e2
  cases r2
  exact ⟨_, _, us, rfl, rfl, SqL.of h1, SqL.of h2, by rw [r1.isEmpty]; exact flat_up w f h⟩
theorem w_neNil {p q : Addr} {xs : List DV} {G : DG} {Q : DK} (e1 : G p = some (.lst xs)) (e2 : G q = some (.lst [])) (h : Q (.bl (!xs.isEmpty)) G) : bNeNil (.ref p) (.ref q) G Q := ⟨p, q, xs, rfl, rfl, e1, e2, h⟩
end
end DD
/-! xs == [] of any list -/
namespace DD
open PySem PySem.W L2 SX Cm
end DD
/-! sets of maps (a number and a tuple of numbers), all put in for the first time, up to some 1,200 of them -/
namespace MS
open PySem PySem.Spec PyProof.Rows L2
/-! ### the round i, 5 i + 1, .. in tables that grow to 2,048 places -/
def MkW (m : Nat) : Prop := m ∈ [7, 31, 127, 511, 2047]
/-- the places gone through, as bits of a number, and where one stands then -/
def orb (m : Nat) : Nat → Nat → Nat → Nat × Nat
  | 0, i, acc => (acc, i)
  | n + 1, i, acc => orb m n ((i * 5 + 1) % (m + 1)) (acc ||| 2 ^ i)
theorem lcg_front (m i : Nat) : ∀ k, lcgI m ((i * 5 + 1) % (m + 1)) k = lcgI m i (k + 1)
  | 0 => rfl
  | k + 1 => by
    show (lcgI m ((i * 5 + 1) % (m + 1)) k * 5 + 1) % (m + 1) = (lcgI m i (k + 1) * 5 + 1) % (m + 1)
    rw [lcg_front m i k]
theorem orb_end (m : Nat) : ∀ n i acc, (orb m n i acc).2 = lcgI m i n
  | 0, _, _ => rfl
  | n + 1, i, acc => (orb_end m n _ _).trans (lcg_front m i n)
theorem orb_hit (m j : Nat) : ∀ n i acc, (orb m n i acc).1.testBit j = true → acc.testBit j = true ∨ ∃ k, k < n ∧ lcgI m i k = j
  | 0, _, _, h => .inl h
  | n + 1, i, acc, h => by
    rcases orb_hit m j n _ _ h with h1 | ⟨k, h1, h2⟩
    · rw [Nat.testBit_or, Bool.or_eq_true, Nat.testBit_two_pow, decide_eq_true_eq] at h1
      rcases h1 with h1 | h1
      · exact .inl h1
      · exact .inr ⟨0, Nat.succ_pos _, h1⟩
    · exact .inr ⟨k + 1, Nat.succ_lt_succ h1, by rw [← lcg_front]; exact h2⟩
theorem orb_all : ([7, 31, 127, 511, 2047].all fun m => orb m (m + 1) 0 0 == (2 ^ (m + 1) - 1, 0)) = true := by decide +kernel
theorem orb_of {m : Nat} (hm : MkW m) : orb m (m + 1) 0 0 = (2 ^ (m + 1) - 1, 0) := eq_of_beq (List.all_eq_true.mp orb_all m hm)
theorem lcg_met {m j : Nat} (hm : MkW m) (hj : j ≤ m) : ∃ k, k ≤ m ∧ lcgI m 0 k = j := by
  rcases orb_hit m j (m + 1) 0 0 (by rw [orb_of hm, Nat.testBit_two_pow_sub_one, decide_eq_true_eq]; omega) with h | ⟨k, h1, h2⟩
  · rw [Nat.zero_testBit] at h; cases h
  · exact ⟨k, Nat.le_of_lt_succ h1, h2⟩
theorem lcg_back {m : Nat} (hm : MkW m) : lcgI m 0 (m + 1) = 0 := by rw [← orb_end m (m + 1) 0 0, orb_of hm]
theorem lcg_plus (m i a : Nat) : ∀ k, lcgI m (lcgI m i a) k = lcgI m i (a + k)
  | 0 => rfl
  | k + 1 => by
    show (lcgI m (lcgI m i a) k * 5 + 1) % (m + 1) = (lcgI m i (a + k) * 5 + 1) % (m + 1)
    rw [lcg_plus m i a k]
theorem lcg_any {m i j : Nat} (hm : MkW m) (hi : i ≤ m) (hj : j ≤ m) : ∃ k, k ≤ m ∧ lcgI m i k = j := by
  obtain ⟨a, la, rfl⟩ := lcg_met hm hi
  obtain ⟨b, lb, rfl⟩ := lcg_met hm hj
  by_cases c : a ≤ b
  · exact ⟨b - a, by omega, by rw [lcg_plus, show a + (b - a) = b by omega]⟩
  · refine ⟨m + 1 - a + b, by omega, ?_⟩
    rw [lcg_plus, show a + (m + 1 - a + b) = m + 1 + b by omega, ← lcg_plus, lcg_back hm]
theorem run_any {m j : Nat} (hm : MkW m) (h : Int) (hj : j ≤ m) : ∃ n, n ≤ m + 12 ∧ runI m (SetTable.bits h) n = j := by
  obtain ⟨k, lk, e⟩ := lcg_any hm (runI_le m (SetTable.bits h) 12) hj
  refine ⟨12 + k, by omega, ?_⟩
  rw [runI_tail (bits_lt h), e]
theorem way_any {m j : Nat} (hm : MkW m) (h : Int) (hj : j ≤ m) : ∃ k, k < 10 * SetTable.turns m ∧ way m h k = j := by
  obtain ⟨n, ln, e⟩ := run_any hm h hj
  obtain ⟨k, lk, e'⟩ := run_nth m (SetTable.bits h) n
  refine ⟨k, ?_, ?_⟩
  · unfold SetTable.turns; omega
  · show (nth m _ k).j = j
    rw [e']; exact e
theorem way_in {m : Nat} {h : Int} {k : Nat} : way m h k ≤ m := by
  have a : SetTable.bits h % (m + 1) ≤ m := Nat.le_of_lt_succ (Nat.mod_lt _ (Nat.succ_pos _))
  have b := runEnd_bd a
  have c := nth_in (m := m) k (runAt m (SetTable.bits h % (m + 1)) (SetTable.bits h)) (by
    show _ % (m + 1) + (_ - _ % (m + 1)) ≤ m
    omega)
  exact Nat.le_trans (Nat.le_add_right _ _) c
/-! ### a table of n places taken -/
structure TabM (t : SetTable) (n : Nat) : Prop where
  ris : Ris t.place.toList
  dm : t.dummies = #[]
  sz : t.place.size = n
  mok : MkW t.mask
theorem TabM.first {t : SetTable} {n : Nat} (T : TabM t n) (hl : n ≤ t.mask) (h : Int) :
    ∃ K, K < 10 * SetTable.turns t.mask ∧ way t.mask h K ∉ t.place.toList ∧ ∀ k, k < K → way t.mask h k ∈ t.place.toList := by
  obtain ⟨j, lj, nj⟩ := st_missing t.place.toList (t.mask + 1) (by have := T.sz; rw [Array.length_toList]; omega)
  obtain ⟨k, lk, e⟩ := way_any T.mok h (Nat.le_of_lt_succ lj)
  obtain ⟨K, a, b, c⟩ := st_least (p := fun q => way t.mask h q ∉ t.place.toList) k (by rw [show way t.mask h k = j from e]; exact nj)
  exact ⟨K, Nat.lt_of_le_of_lt a lk, b, fun q hq => Classical.byContradiction fun z => c q hq z⟩
theorem TabM.put {t : SetTable} {n : Nat} (T : TabM t n) {j : Nat} (hj : j ∉ t.place.toList) : SetTable.below t.place j ≤ n ∧ TabM (t.put j).1 (n + 1) ∧ (t.put j).1.fill = n + 1 := by
  obtain ⟨c1, _, _⟩ := below_cut T.ris j
  have sz1 : (t.put j).1.place.size = n + 1 := by
    rw [← Array.length_toList, put_place, len_ins _ (by rw [Array.length_toList]; exact c1), Array.length_toList, T.sz]
  have dm1 := put_dm T.dm j
  refine ⟨by rw [← T.sz]; exact c1, ⟨ris_insert T.ris fun e => hj (List.mem_of_getElem? (by rw [Array.getElem?_toList]; exact e)), dm1, sz1, T.mok⟩, ?_⟩
  show (t.put j).1.place.size + (t.put j).1.dummies.size = n + 1
  rw [sz1, dm1] <;> rfl
/-! ### laid anew -/
theorem free_any {m : Nat} (hm : MkW m) (owner : Array (Option Nat)) (h : Int) {j : Nat} (hj : j ≤ m) (hf : oAt owner j = none) :
    ∃ j', SetTable.layClean.free m owner (SetTable.turns m) (SetTable.bits h % (m + 1)) (SetTable.bits h) = some j' ∧ j' ≤ m ∧ oAt owner j' = none := by
  obtain ⟨n, ln, e⟩ := run_any hm h hj
  have at_n : way m h (off m (SetTable.bits h % (m + 1)) (SetTable.bits h) n) = j := by
    show (nth m (runAt m _ _) (off m _ _ n)).j = j
    rw [nth_off, itL_run]; exact e
  obtain ⟨K, a, b, c⟩ := st_least (p := fun q => oAt owner (way m h q) = none) _ (by rw [show way m h (off m (SetTable.bits h % (m + 1)) (SetTable.bits h) n) = j from at_n]; exact hf)
  refine ⟨way m h K, free_spec m owner (SetTable.turns m) n _ _ K ?_ a (fun q hq => ?_) ?_, way_in, b⟩
  · unfold SetTable.turns; omega
  · have z := c q hq
    show (oAt owner (way m h q)).isNone = false
    cases y : oAt owner (way m h q) with
    | none => exact absurd y z
    | some _ => rfl
  · show (oAt owner (way m h K)).isNone = true
    rw [show oAt owner (way m h K) = none from b] <;> rfl
/-- who sits in a table, when n of them have been laid -/
structure Sit (m n : Nat) (owner : Array (Option Nat)) : Prop where
  sz : owner.size = m + 1
  all : ∀ k, k < n → ∃ j, j ≤ m ∧ oAt owner j = some k
  ps : ∃ ps : List Nat, ps.length = n ∧ ∀ j, j ≤ m → oAt owner j ≠ none → j ∈ ps
theorem Sit.step {m n : Nat} (hm : MkW m) {owner : Array (Option Nat)} (W : Sit m n owner) (hl : n ≤ m) (h : Int) :
    ∃ j, SetTable.layClean.free m owner (SetTable.turns m) (SetTable.bits h % (m + 1)) (SetTable.bits h) = some j ∧ Sit m (n + 1) (owner.setIfInBounds j (some n)) := by
  obtain ⟨ps, lp, hp⟩ := W.ps
  obtain ⟨j0, l0, n0⟩ := st_missing ps (m + 1) (by omega)
  have f0 : oAt owner j0 = none := Classical.byContradiction fun z => n0 (hp j0 (Nat.le_of_lt_succ l0) z)
  obtain ⟨j, e, lj, fj⟩ := free_any hm owner h (Nat.le_of_lt_succ l0) f0
  have self := oAt_set_self (some n) (show j < owner.size by rw [W.sz]; omega)
  refine ⟨j, e, ⟨by rw [Array.size_setIfInBounds]; exact W.sz, fun k hk => ?_, j :: ps, by rw [List.length_cons, lp], fun i hi hn => ?_⟩⟩
  · by_cases c : k = n
    · exact ⟨j, lj, by rw [c]; exact self⟩
    · obtain ⟨i, li, ei⟩ := W.all k (by omega)
      refine ⟨i, li, ?_⟩
      rw [oAt_set_ne _ fun z => by rw [z, fj] at ei; cases ei]
      exact ei
  · by_cases c : i = j
    · rw [c]; exact List.mem_cons_self
    · rw [oAt_set_ne _ c] at hn
      exact List.mem_cons_of_mem _ (hp i hi hn)
theorem sit_fold {m : Nat} (hm : MkW m) : ∀ (hs : List Int) (n : Nat) (owner : Array (Option Nat)), Sit m n owner → n + hs.length ≤ m →
    ∃ owner', hs.foldl (stepF m) (some (owner, n)) = some (owner', n + hs.length) ∧ Sit m (n + hs.length) owner'
  | [], n, owner, W, _ => ⟨owner, rfl, W⟩
  | h :: hs, n, owner, W, l => by
    rw [List.length_cons] at l
    obtain ⟨j, e, W1⟩ := W.step hm (by omega) h
    obtain ⟨owner', f, W2⟩ := sit_fold hm hs (n + 1) _ W1 (by omega)
    have en : n + (h :: hs).length = n + 1 + hs.length := by rw [List.length_cons]; omega
    rw [en]
    refine ⟨owner', ?_, W2⟩
    rw [List.foldl_cons, stepF_some e]; exact f
theorem sit_clean {m : Nat} (hm : MkW m) {hs : Array Int} (hn : hs.size ≤ m) : ∃ owner, SetTable.layClean m hs = some owner ∧ Sit m hs.size owner := by
  obtain ⟨owner, f, W⟩ := sit_fold hm hs.toList 0 (Array.replicate (m + 1) none) ⟨by simp, fun k hk => absurd hk (Nat.not_lt_zero _), [], rfl, fun j hj z => absurd (oAt_init hj) z⟩ (by rw [Array.length_toList]; omega)
  rw [Nat.zero_add, Array.length_toList] at f W
  refine ⟨owner, ?_, W⟩
  rw [layClean_eq, f] <;> rfl
theorem relaid_new (t : SetTable) {hs : Array Int} {wanted M : Nat} (hw : SetTable.sizeAbove wanted - 1 = M) (hM : MkW M) (hn : hs.size ≤ M) :
    ∃ t' order, t.relaid hs wanted = some (t', order) ∧ order.toList.Perm (List.range hs.size) ∧ TabM t' hs.size ∧ t'.mask = M ∧ t'.led = t.led ∧ t'.plain = t.plain := by
  obtain ⟨owner, e, W⟩ := sit_clean hM hn
  have rs := ris_live (fun j => owner.getD j none) (List.range (M + 1)) (by
    unfold Ris
    first | exact List.pairwise_lt_range | exact List.pairwise_lt_range _)
  have nd : ((liveOf M owner).map (·.1)).Nodup := List.Pairwise.imp (fun h => Nat.ne_of_lt h) rs.1
  have there : ∀ k, k < hs.size → k ∈ (liveOf M owner).map (·.2) := fun k hk => by
    obtain ⟨j, lj, ej⟩ := W.all k hk
    exact List.mem_map.mpr ⟨(j, k), (mem_live W.sz).2 ⟨lj, ej⟩, rfl⟩
  have len : (liveOf M owner).length = hs.size := by
    obtain ⟨ps, lp, hp⟩ := W.ps
    have up := nat_nodup_len ((liveOf M owner).map (·.1)) ps nd fun x hx => by
      obtain ⟨⟨y, k⟩, hq, rfl⟩ := List.mem_map.mp hx
      obtain ⟨b1, b2⟩ := (mem_live W.sz).1 hq
      exact hp y b1 (by rw [b2]; exact fun z => nomatch z)
    have dn := nat_nodup_len (List.range hs.size) ((liveOf M owner).map (·.2)) List.nodup_range fun k hk => there k (List.mem_range.mp hk)
    rw [List.length_map, lp] at up
    rw [List.length_map, List.length_range] at dn
    omega
  refine ⟨tabOf t M owner, ((liveOf M owner).map (·.2)).toArray, by rw [relaid_eq, hw, e] <;> rfl, perm_range hs.size _ (by rw [List.toList_toArray, List.length_map, len]) there, ⟨rs.1, rfl, ?_, hM⟩, rfl, rfl, rfl⟩
  show ((liveOf M owner).map (·.1)).toArray.size = hs.size
  rw [List.size_toArray, List.length_map, len]
theorem grow_5 : SetTable.sizeAbove (SetTable.grown 5) = 32 ∧ SetTable.sizeAbove (SetTable.grown 19) = 128 ∧ SetTable.sizeAbove (SetTable.grown 77) = 512 ∧ SetTable.sizeAbove (SetTable.grown 307) = 2048 := by decide +kernel
end MS
/-! the set of maps in the heap -/
namespace MS
open PySem PySem.Spec PyProof.Rows L2
abbrev mh (P : Program) (w : World) (k : MK) : Int := mapKeyHash (intKind P w) k
abbrev IsM (P : Program) (w : World) (h : Heap) (k : MK) (a : Addr) : Prop := IsMapKey (intKind P w) h k a
/-- how a row of the table is written -/
abbrev entM (P : Program) (w : World) (p : Addr × MK) : Int × Value := (mh P w p.2, .ref p.1)
section
variable {P : Program} {w : World} {A : Around} {E : Value → Shared → Prop} {s : Shared}
/-! ### small questions asked of maps -/
theorem ofA_tup {d : Nat} {b : Addr} {o : Obj} {xs : Array Value} {n : Nat} {Q : Bool → Shared → Prop} (hT : s.TypeIs (.ref b) "tuple") (hO : s.heap.get? b = some o) (hD : o.data = .seq xs n)
    (hx : ∀ v ∈ xs.toList, ∀ R : Bool → Shared → Prop, R false s → wpAny (model P w) A (ofAClassStatement d v) R E s) (h : Q false s) : wpAny (model P w) A (ofAClassStatement (d + 1) (.ref b)) Q E s := by
  unfold ofAClassStatement
  refine wpAny_bind (wpAny_typeOf hT ?_)
  dsimp only
  simp only [show (("tuple" : String) == "tuple") = true from by decide, if_true, Bool.not_true, Bool.false_eq_true, if_false]
  try refine wpAny_bind (wpAny_pure ?_)
  try simp only [Bool.not_true, Bool.false_eq_true, if_false]
  refine wpAny_bind (wpAny_seqItems hO hD ?_)
  dsimp only
  refine wpAny_bind ?_
  rw [← Array.forIn_toList]
  refine wpAny_forIn_list _ (fun rest r s' => r.1 = none ∧ s' = s ∧ ∀ v ∈ rest, v ∈ xs.toList) _ ?_ ?_ _ _ ⟨rfl, rfl, fun _ hv => hv⟩
  · rintro v rest r s' ⟨e, rfl, all⟩
    refine wpAny_bind (hx v (all v List.mem_cons_self) _ ?_)
    simp only [Bool.false_eq_true, if_false]
    exact wpAny_pure ⟨rfl, rfl, fun u hu => all u (List.mem_cons_of_mem _ hu)⟩
  · rintro ⟨r1, r2⟩ s' ⟨e, rfl, _⟩
    simp only at e
    subst e
    exact wpAny_pure h
theorem hashBy_tupD {d : Nat} {b : Addr} {o : Obj} {xs : Array Value} {n : Nat} {Q : Bool → Shared → Prop} (hT : s.TypeIs (.ref b) "tuple") (hO : s.heap.get? b = some o) (hD : o.data = .seq xs n)
    (hx : ∀ v ∈ xs.toList, ∀ R : Bool → Shared → Prop, R true s → wpAny (model P w) A (hashByValue d v) R E s) (h : Q true s) : wpAny (model P w) A (hashByValue (d + 1) (.ref b)) Q E s := by
  unfold hashByValue
  refine wpAny_bind (wpAny_specialOf hT F.slot_tuple_hash.lookup ?_)
  dsimp only
  refine wpAny_bind (wpAny_seqItems hO hD ?_)
  refine wpAny_bind ?_
  show wpAny _ _ (forIn xs _ _) _ _ s
  rw [← Array.forIn_toList]
  refine wpAny_forIn_list _ (fun rest r s' => r.1 = none ∧ s' = s ∧ ∀ v ∈ rest, v ∈ xs.toList) _ ?_ ?_ _ _ ⟨rfl, rfl, fun _ hv => hv⟩
  · rintro v rest r s' ⟨e, rfl, all⟩
    refine wpAny_bind (hx v (all v List.mem_cons_self) _ ?_)
    simp only [Bool.not_true, Bool.false_eq_true, if_false]
    exact wpAny_pure ⟨rfl, rfl, fun u hu => all u (List.mem_cons_of_mem _ hu)⟩
  · rintro ⟨r1, r2⟩ s' ⟨e, rfl, _⟩
    simp only at e
    subst e
    exact wpAny_pure h
theorem ofA_map {k : MK} {b : Addr} {Q : Bool → Shared → Prop} (hk : IsM P w s.heap k b) (h : Q false s) : wpAny (model P w) A (ofAClassStatement 8 (.ref b)) Q E s := by
  have hT := hk.typeIs
  obtain ⟨o, u, c, n, hO, _, hD, h1, h2⟩ := hk
  refine ofA_tup hT hO hD (fun v hv R hR => ?_) h
  rcases List.mem_cons.mp hv with rfl | hv
  · obtain ⟨t, rfl⟩ := Value.isInt_shape h1
    rw [ofAClass_int]; exact wpAny_pure hR
  · rw [List.mem_singleton.mp hv]
    have hT2 := h2.typeIs
    obtain ⟨o2, its, n2, hO2, _, hD2, hi⟩ := h2
    refine ofA_tup hT2 hO2 hD2 (fun v hv R hR => ?_) hR
    obtain ⟨i, t, rfl⟩ := items_int hi v hv
    rw [ofAClass_int]; exact wpAny_pure hR
theorem hashBy_map {k : MK} {b : Addr} {Q : Bool → Shared → Prop} (hk : IsM P w s.heap k b) (h : Q true s) : wpAny (model P w) A (hashByValue 8 (.ref b)) Q E s := by
  have hT := hk.typeIs
  obtain ⟨o, u, c, n, hO, _, hD, h1, h2⟩ := hk
  refine hashBy_tupD hT hO hD (fun v hv R hR => ?_) h
  rcases List.mem_cons.mp hv with rfl | hv
  · obtain ⟨t, rfl⟩ := Value.isInt_shape h1
    rw [hashBy_int]; exact wpAny_pure hR
  · rw [List.mem_singleton.mp hv]
    have hT2 := h2.typeIs
    obtain ⟨o2, its, n2, hO2, _, hD2, hi⟩ := h2
    refine hashBy_tupD hT2 hO2 hD2 (fun v hv R hR => ?_) hR
    obtain ⟨i, t, rfl⟩ := items_int hi v hv
    rw [hashBy_int]; exact wpAny_pure hR
/-- a search among maps shows nothing -/
theorem seen_map {k : MK} {b : Addr} {Q : Bool → Shared → Prop} (hk : IsM P w s.heap k b) {ys : List Value} (hy : ∀ y ∈ ys, ∃ k' c, y = Value.ref c ∧ IsM P w s.heap k' c) (h : Q false s) :
    wpAny (model P w) A (searchCouldBeSeen (.ref b) ys) Q E s := by
  unfold searchCouldBeSeen
  refine wpAny_bind ?_
  refine wpAny_forIn_list _ (fun rest r s' => r.1 = none ∧ s' = s ∧ ∀ y ∈ rest, y ∈ ys) _ ?_ ?_ _ _ ⟨rfl, rfl, fun _ hv => hv⟩
  · rintro v rest r s' ⟨e, rfl, all⟩
    obtain ⟨k', c, rfl, hc⟩ := hy v (all v List.mem_cons_self)
    have more : ∀ y ∈ rest, y ∈ ys := fun u hu => all u (List.mem_cons_of_mem _ hu)
    dsimp only
    by_cases z : (b == c || (carriedByValue (.ref b) && carriedByValue (.ref c))) = true
    · exact wp_if_pos z (wpAny_pure ⟨rfl, rfl, more⟩)
    refine wp_if_neg z (wpAny_bind (wpAny_eqIsQuiet_map hk ?_))
    simp only [Bool.not_true, Bool.false_eq_true, if_false]
    refine wpAny_bind (wpAny_eqIsQuiet_map hc ?_)
    simp only [Bool.not_true, Bool.false_eq_true, if_false]
    refine wpAny_bind (ofA_map hk ?_)
    simp only [Bool.false_eq_true, if_false]
    refine wpAny_bind (ofA_map hc ?_)
    simp only [Bool.false_eq_true, if_false]
    exact wpAny_pure ⟨rfl, rfl, more⟩
  · rintro ⟨r1, r2⟩ s' ⟨e, rfl, _⟩
    simp only at e
    subst e
    exact wpAny_pure h
/-! ### the set -/
structure SetM (P : Program) (w : World) (h : Heap) (a : Addr) (L : List (Addr × MK)) (es : Array (Int × Value)) (ep : Nat) (t : SetTable) : Prop where
  ob : ∃ o, h.get? a = some o ∧ o.ExactSet ∧ o.data = .set es ep t
  rows : es.toList = L.map (entM P w)
  tab : TabM t L.length
  nd : (L.map (·.2)).Nodup
  keys : ∀ p ∈ L, IsM P w h p.2 p.1
  plain : t.plain = true
  led : w.params.followText "set-order" = true ∨ t.led = true
  room : L.length * 5 < t.mask * 3
variable {a : Addr} {L : List (Addr × MK)} {es : Array (Int × Value)} {ep : Nat} {t : SetTable}
theorem size_rows (h : es.toList = L.map (entM P w)) : es.size = L.length := by
  rw [← Array.length_toList, h, List.length_map]
theorem fits_of (T : TabM t L.length) (h : es.toList = L.map (entM P w)) (l : L.length ≤ t.mask) : t.fits es.size = true := by
  unfold SetTable.fits SetTable.fill
  rw [size_rows h, T.dm, Bool.and_eq_true, beq_iff_eq, decide_eq_true_eq, T.sz]
  exact ⟨rfl, l⟩
theorem SetM.fits (R : SetM P w s.heap a L es ep t) : t.fits es.size = true := fits_of R.tab R.rows (by have := R.room; omega)
theorem SetM.entry (R : SetM P w s.heap a L es ep t) {i : Nat} {p : Addr × MK} (h : L[i]? = some p) : es[i]? = some (entM P w p) := by
  rw [← Array.getElem?_toList, R.rows, List.getElem?_map, h]; rfl
theorem mask_1 {m : Nat} (h : MkW m) : m % 2 = 1 ∧ 7 ≤ m ∧ m ≤ 2047 := by
  unfold MkW at h
  simp only [List.mem_cons, List.not_mem_nil, or_false] at h
  rcases h with rfl | rfl | rfl | rfl | rfl <;> decide
theorem SetM.gw (R : SetM P w s.heap a L es ep t) : ¬ t.gaveWay = true := by
  unfold SetTable.gaveWay
  rw [(mask_1 R.tab.mok).1]; decide
abbrev st0 (m : Nat) (h : Int) : SetTable.Probe := runAt m (SetTable.bits h % (m + 1)) (SetTable.bits h)
theorem no_dummy (m : Nat) : ∀ (n : Nat) (p : SetTable.Probe), p.dummy = none → (nth m p n).dummy = none
  | 0, _, h => h
  | n + 1, p, h => no_dummy m n (adv m p) (by unfold adv; split <;> exact h)
/-- the search for a map that isn't there, from the c-th step of its way on -/
theorem look_new (R : SetM P w s.heap a L es ep t) {x : Addr} {k : MK} (hx : IsM P w s.heap k x) (hu : A.units + 1 < cLine) (hn : k ∉ L.map (·.2)) {K : Nat} (hKf : K < 10 * SetTable.turns t.mask)
    (hK : way t.mask (mh P w k) K ∉ t.place.toList) (hB : ∀ c, c < K → way t.mask (mh P w k) c ∈ t.place.toList) {Q : SetFound → Shared → Prop} (hQ : Q (.free (way t.mask (mh P w k) K) false) s) :
    ∀ (f c : Nat) (stand : Option SetTable.Probe), stand.getD (t.probeStart (mh P w k)) = nth t.mask (st0 t.mask (mh P w k)) c → c ≤ K → K - c < f →
      wpAny (model P w) A (setSearchFrom a (.ref x) (mh P w k) true f stand) Q E s
  | 0, _, _, _, _, l => absurd l (Nat.not_lt_zero _)
  | f + 1, c, stand, es0, lc, l => by
    obtain ⟨o, hO, hE, hD⟩ := R.ob
    rw [setSearchFrom_succ]
    refine wpAny_bind (wpAny_setState_of hO hD R.fits ?_)
    dsimp only
    refine wp_if_neg R.gw ?_
    try refine wpAny_bind (wpAny_pure ?_)
    have sh : ∀ q, nth t.mask (nth t.mask (st0 t.mask (mh P w k)) c) q = nth t.mask (st0 t.mask (mh P w k)) (c + q) := fun q => (nth_add t.mask c _ q).symm
    have ej : ∀ q, (nth t.mask (nth t.mask (st0 t.mask (mh P w k)) c) q).j = way t.mask (mh P w k) (c + q) := fun q => congrArg SetTable.Probe.j (sh q)
    rcases go_spec t R.tab.ris R.tab.dm (fun i => (es[i]?.map (·.1)).getD 0) (mh P w k) (10 * SetTable.turns t.mask) (K - c) (nth t.mask (st0 t.mask (mh P w k)) c) (no_dummy _ c _ rfl) (by omega)
      (fun q hq => by rw [ej]; exact hB _ (by omega)) (by rw [ej, show c + (K - c) = K by omega]; exact hK) with ⟨q, i, lq, ei, _, _, pr⟩ | ⟨_, pr⟩
    · have pr2 : t.probe (fun i => (es[i]?.map (·.1)).getD 0) (mh P w k) (stand.getD (t.probeStart (mh P w k))) = some (.candidate (way t.mask (mh P w k) (c + q)) i (nth t.mask (st0 t.mask (mh P w k)) (c + (q + 1)))) := by
        rw [es0, ← ej, ← sh]; exact pr
      rw [pr2]
      dsimp only
      rw [ej] at ei
      have li : i < L.length := by
        have z := (List.getElem?_eq_some_iff.mp ei).1
        rw [Array.length_toList, R.tab.sz] at z
        exact z
      have hp : L[i]? = some L[i] := List.getElem?_eq_getElem li
      generalize L[i] = p at hp
      have hm : p ∈ L := List.mem_of_getElem? hp
      have ne : p.2 ≠ k := fun z => hn (z ▸ List.mem_map_of_mem hm)
      have sl : t.slot (way t.mask (mh P w k) (c + q)) = .live i := slot_live R.tab.ris ei
      have rest : wpAny (model P w) A (searchRest a (.ref x) (mh P w k) true f es t (way t.mask (mh P w k) (c + q)) i (nth t.mask (st0 t.mask (mh P w k)) (c + (q + 1)))) Q E s := by
        unfold searchRest
        rw [R.entry hp]
        dsimp only
        refine wpAny_bind (wpAny_holding (wpAny_eqBool_map hu (R.keys p hm) hx ?_))
        rw [decide_eq_false ne]
        refine wpAny_bind (wpAny_setState_of hO hD R.fits ?_)
        dsimp only
        refine wp_if_neg (by simp) ?_
        try refine wpAny_bind (wpAny_pure ?_)
        rw [sameMem]
        dsimp only
        simp only [if_true, sl, R.entry hp]
        refine wpAny_bind (wpAny_isSame_ref_self (wpAny_bind (wpAny_pure ?_)))
        simp only [if_true]
        refine wp_if_neg (by simp) ?_
        exact look_new R hx hu hn hKf hK hB hQ f (c + (q + 1)) _ rfl (by omega) (by omega)
      by_cases y : t.led = true
      · refine wp_if_neg (by simp [y]) ?_
        try refine wpAny_bind (wpAny_pure ?_)
        exact rest
      · refine wp_if_pos (by simp [y]) (wpAny_bind (seen_map hx (fun v hv => ?_) ?_))
        · obtain ⟨e, he, rfl⟩ := List.mem_map.mp hv
          have h1 : e ∈ es ∧ e.1 = mh P w k := by simpa using he
          have h2 : e ∈ es.toList := by simpa using h1.1
          rw [R.rows] at h2
          obtain ⟨p2, m2, rfl⟩ := List.mem_map.mp h2
          exact ⟨p2.2, p2.1, rfl, R.keys p2 m2⟩
        · refine wp_if_neg (by decide) ?_
          try refine wpAny_bind (wpAny_pure ?_)
          exact rest
    · have pr2 : t.probe (fun i => (es[i]?.map (·.1)).getD 0) (mh P w k) (stand.getD (t.probeStart (mh P w k))) = some (.empty (way t.mask (mh P w k) K) none) := by
        have z := ej (K - c)
        rw [show c + (K - c) = K by omega] at z
        rw [es0, ← z]; exact pr
      rw [pr2]
      exact wpAny_pure hQ
theorem search_new (R : SetM P w s.heap a L es ep t) {x : Addr} {k : MK} (hx : IsM P w s.heap k x) (hu : A.units + 1 < cLine) (hn : k ∉ L.map (·.2)) {Q : SetFound → Shared → Prop}
    (hQ : ∀ j, j ∉ t.place.toList → Q (.free j false) s) : wpAny (model P w) A (setSearch a (.ref x) (mh P w k) true) Q E s := by
  obtain ⟨K, l, e, b⟩ := R.tab.first (by have := R.room; omega) (mh P w k)
  have big : 10 * SetTable.turns t.mask ≤ 20620 := by
    have := mask_1 R.tab.mok
    unfold SetTable.turns; omega
  unfold setSearch
  exact look_new R hx hu hn l e b (hQ _ e) 100000 0 none rfl (Nat.zero_le _) (by omega)
end
end MS
/-! maps put into a set -/
namespace MS
open PySem PySem.Spec PyProof.Rows L2
theorem take_rng {α : Type} (L : List α) : ∀ n, (List.range n).filterMap (fun i => L[i]?) = L.take n
  | 0 => by simp
  | n + 1 => by
    rw [List.range_succ, List.filterMap_append, take_rng L n, List.take_succ]
    cases h : L[n]? <;> simp [h]
section
variable {P : Program} {w : World} {A : Around} {E : Value → Shared → Prop} {s : Shared}
variable {a : Addr} {L : List (Addr × MK)} {es : Array (Int × Value)} {ep : Nat} {t : SetTable}
theorem order_m {order : Array Nat} (hr : es.toList = L.map (entM P w)) (hp : order.toList.Perm (List.range L.length)) :
    ∃ L2 : List (Addr × MK), (order.filterMap (es[·]?)).toList = L2.map (entM P w) ∧ L2.Perm L := by
  refine ⟨order.toList.filterMap fun i => L[i]?, ?_, ?_⟩
  · rw [Array.toList_filterMap, List.map_filterMap]
    congr 1
    funext i
    rw [← Array.getElem?_toList, hr, List.getElem?_map]
  · have z := hp.filterMap (fun i => L[i]?)
    rw [take_rng, List.take_length] at z
    exact z
/-- what holds a map isn't the set -/
theorem isM_same {h h' : Heap} {k : MK} {b : Addr} {o : Obj} (x : IsM P w h k b) (hO : h.get? a = some o) (hD : o.data = .set es ep t) (hs : Heap.SameBut a h h') : IsM P w h' k b := by
  have ne : ∀ {c : Addr} {q : Obj} {xs : Array Value} {n : Nat}, h.get? c = some q → q.data = .seq xs n → c ≠ a := fun hq hd z => by
    subst z
    obtain rfl := Option.some.inj (hq.symm.trans hO)
    rw [hD] at hd
    exact nomatch hd
  obtain ⟨o1, u, c, n, g1, c1, d1, i1, o2, its, n2, g2, c2, d2, i2⟩ := x
  exact ⟨o1, u, c, n, (hs.2 b (ne g1 d1)).trans g1, c1, d1, i1, o2, its, n2, (hs.2 c (ne g2 d2)).trans g2, c2, d2, i2⟩
theorem isM_keep {h h' : Heap} {k : MK} {b : Addr} (x : IsM P w h k b) (hk : ∀ c o, h.get? c = some o → h'.get? c = some o) : IsM P w h' k b := by
  obtain ⟨o1, u, c, n, g1, c1, d1, i1, o2, its, n2, g2, r⟩ := x
  exact ⟨o1, u, c, n, hk _ _ g1, c1, d1, i1, o2, its, n2, hk _ _ g2, r⟩
theorem relay_m {o : Obj} (hO : s.heap.get? a = some o) (hE : o.ExactSet) (hD : o.data = .set es ep t) (hr : es.toList = L.map (entM P w)) (T : TabM t L.length) (lm : L.length ≤ t.mask) (nd : (L.map (·.2)).Nodup)
    (keys : ∀ p ∈ L, IsM P w s.heap p.2 p.1) (pl : t.plain = true) (ld : w.params.followText "set-order" = true ∨ t.led = true) {wanted M : Nat} (hw : SetTable.sizeAbove wanted = M + 1) (hM : MkW M) (room : L.length * 5 < M * 3) {Q : Unit → Shared → Prop}
    (hQ : ∀ h' L' es' ep' t', Heap.SameBut a s.heap h' → SetM P w h' a L' es' ep' t' → L'.Perm L → Q () { s with heap := h' }) : wpAny (model P w) A (setRelay a wanted) Q E s := by
  have bM := mask_1 hM
  have sz := size_rows hr
  obtain ⟨t', order, e, pm, T', em, el, epl⟩ := relaid_new t (hs := es.map (·.1)) (wanted := wanted) (M := M) (by omega) hM (by rw [Array.size_map, sz]; omega)
  rw [Array.size_map, sz] at pm T'
  obtain ⟨L2, r2, p2⟩ := order_m hr pm
  have sz2 : (order.filterMap (es[·]?)).size = es.size := by rw [size_rows r2, p2.length_eq, sz]
  rw [setRelay_eq]
  refine wpAny_bind (wpAny_setState_of hO hD (fits_of T hr lm) ?_)
  dsimp only
  refine wp_if_neg (by rw [sizeLine_eq, hw]; omega) ?_
  try refine wpAny_bind (wpAny_pure ?_)
  rw [e]
  dsimp only
  refine wpAny_bind (wp_if_neg (by rw [sz2]; simp) ?_)
  try refine wpAny_bind (wpAny_pure ?_)
  refine wpAny_pure ?_
  dsimp only
  refine wpAny_storeSet_of hO hD ?_ (by rw [sz2, sz, sizeLine_eq]; omega)
  have sb : Heap.SameBut a s.heap (s.heap.update a (Obj.putSet (order.filterMap (es[·]?)) t')) := Heap.SameBut.update ..
  refine hQ _ L2 _ _ t' sb ⟨⟨_, store_at hO hD, ⟨hE.1, hE.2.1, hE.2.2⟩, rfl⟩, r2, ?_, (p2.map (·.2)).nodup_iff.mpr nd, fun p hp => isM_same (keys p (p2.mem_iff.mp hp)) hO hD sb, epl.trans pl, ?_, ?_⟩ p2
  · rw [p2.length_eq]; exact T'
  · rw [el]; exact ld
  · rw [p2.length_eq, em]; exact room
/-- a new map is put in -/
theorem add_new (R : SetM P w s.heap a L es ep t) {x : Addr} {k : MK} (hx : IsM P w s.heap k x) (hu : A.units + 1 < cLine) (hn : k ∉ L.map (·.2)) (few : L.length < 1200) {Q : Bool → Shared → Prop}
    (hQ : ∀ b h' L' es' ep' t', Heap.SameBut a s.heap h' → SetM P w h' a L' es' ep' t' → L'.Perm ((x, k) :: L) → Q b { s with heap := h' }) :
    wpAny (model P w) A (setAddHashed a (.ref x) (mh P w k)) Q E s := by
  obtain ⟨o, hO, hE, hD⟩ := R.ob
  have sz := size_rows R.rows
  have room := R.room
  have bM := mask_1 R.tab.mok
  unfold setAddHashed
  refine wpAny_holding ?_
  rw [show (100000 : Nat) = 99999 + 1 from rfl, setAddHashedIn_succ]
  refine wpAny_bind (wpAny_setState_of hO hD R.fits ?_)
  dsimp only
  refine wp_if_neg (by simp [byScan, Value.scannable]) ?_
  try refine wpAny_bind (wpAny_pure ?_)
  refine wpAny_bind (search_new R hx hu hn fun j hj => ?_)
  dsimp only
  refine wpAny_bind (wpAny_setState_of hO hD R.fits ?_)
  dsimp only
  obtain ⟨q2, q3, q9⟩ := R.tab.put hj
  have q1 : (t.put j).2 = SetTable.below t.place j := rfl
  have q4 : (t.put j).1.mask = t.mask := rfl
  have q5 : (t.put j).1.led = t.led := rfl
  have q6 : (t.put j).1.plain = true := R.plain
  generalize t.put j = pt at q1 q3 q4 q5 q6 q9 ⊢
  obtain ⟨t1, p⟩ := pt
  dsimp only at q1 q3 q4 q5 q6 q9 ⊢
  subst q1
  first
    | (refine wpAny_bind ?_; refine wp_if_pos q6 ?_; refine hashBy_map hx ?_)
    | refine wp_if_pos q6 (wpAny_bind (hashBy_map hx ?_))
  simp only [if_true]
  have rin : (SetTable.insertAt es (SetTable.below t.place j) (mh P w k, Value.ref x)).toList = (L.take (SetTable.below t.place j) ++ (x, k) :: L.drop (SetTable.below t.place j)).map (entM P w) := by
    rw [SetTable.toList_insertAt, R.rows, List.map_append, List.map_cons, List.map_take, List.map_drop]
  have pm := put_perm L (SetTable.below t.place j) (x, k)
  have nd1 : ((L.take (SetTable.below t.place j) ++ (x, k) :: L.drop (SetTable.below t.place j)).map (·.2)).Nodup := by
    refine (pm.map (·.2)).nodup_iff.mpr ?_
    rw [List.map_cons]
    exact List.nodup_cons.mpr ⟨hn, R.nd⟩
  generalize SetTable.insertAt es (SetTable.below t.place j) (mh P w k, Value.ref x) = es1 at rin ⊢
  generalize L.take (SetTable.below t.place j) ++ (x, k) :: L.drop (SetTable.below t.place j) = L1 at pm nd1 rin
  have len1 : L1.length = L.length + 1 := pm.length_eq
  have sz1 := size_rows rin
  refine wpAny_bind (wpAny_storeSet_of hO hD ?_ (by rw [sz1, len1, sizeLine_eq]; omega))
  have sb : Heap.SameBut a s.heap (s.heap.update a (Obj.putSet es1 t1)) := Heap.SameBut.update ..
  have hO1 := store_at (es' := es1) (t' := t1) hO hD
  generalize s.heap.update a (Obj.putSet es1 t1) = h1 at sb hO1 ⊢
  have keys1 : ∀ p ∈ L1, IsM P w h1 p.2 p.1 := fun p hp => by
    rcases List.mem_cons.mp (pm.mem_iff.mp hp) with e | hp
    · rw [e]; exact isM_same hx hO hD sb
    · exact isM_same (R.keys p hp) hO hD sb
  have ld1 : w.params.followText "set-order" = true ∨ t1.led = true := by rw [q5]; exact R.led
  have T1 : TabM t1 L1.length := by rw [len1]; exact q3
  by_cases full : t1.tooFull = true
  · first
      | (refine wpAny_bind ?_; refine wp_if_pos (by simp [full]) ?_)
      | (refine wp_if_pos (by simp [full]) ?_; refine wpAny_bind ?_)
    have hf : (L.length + 1) * 5 ≥ t1.mask * 3 := by
      have z := full
      unfold SetTable.tooFull at z
      rw [decide_eq_true_eq, q9] at z
      exact z
    rw [q4] at hf
    rw [sz]
    obtain ⟨M, eM, oM, rM⟩ : ∃ M, SetTable.sizeAbove (SetTable.grown (L.length + 1)) = M + 1 ∧ MkW M ∧ (L.length + 1) * 5 < M * 3 := by
      have z := R.tab.mok
      unfold MkW at z
      simp only [List.mem_cons, List.not_mem_nil, or_false] at z
      have g := grow_5
      rcases z with z | z | z | z | z <;> rw [z] at hf room
      · rw [show L.length + 1 = 5 by omega]; exact ⟨31, g.1, by unfold MkW; decide, by decide⟩
      · rw [show L.length + 1 = 19 by omega]; exact ⟨127, g.2.1, by unfold MkW; decide, by decide⟩
      · rw [show L.length + 1 = 77 by omega]; exact ⟨511, g.2.2.1, by unfold MkW; decide, by decide⟩
      · rw [show L.length + 1 = 307 by omega]; exact ⟨2047, g.2.2.2, by unfold MkW; decide, by decide⟩
      · omega
    refine relay_m (s := { s with heap := h1 }) hO1 ⟨hE.1, hE.2.1, hE.2.2⟩ rfl rin T1 (by rw [q4]; omega) nd1 keys1 q6 ld1 eM oM (by rw [len1]; exact rM) ?_
    intro h2 L2 es2 ep2 t2 sb2 R2 pm2
    exact wpAny_pure (hQ true h2 L2 es2 ep2 t2 (sb.trans sb2) R2 (pm2.trans pm))
  · first
      | refine wp_if_neg (by simp [full]) ?_
      | (refine wpAny_bind ?_; refine wp_if_neg (by simp [full]) ?_; refine wpAny_pure ?_)
    have z := full
    unfold SetTable.tooFull at z
    rw [decide_eq_true_eq, q9] at z
    exact wpAny_pure (hQ true h1 L1 es1 _ t1 sb ⟨⟨_, hO1, ⟨hE.1, hE.2.1, hE.2.2⟩, rfl⟩, rin, T1, nd1, keys1, q6, ld1, by rw [len1]; omega⟩ pm)
theorem SetM.keep {h h' : Heap} (R : SetM P w h a L es ep t) (hk : ∀ c o, h.get? c = some o → h'.get? c = some o) : SetM P w h' a L es ep t := by
  obtain ⟨o, hO, r⟩ := R.ob
  exact ⟨⟨o, hk a o hO, r⟩, R.rows, R.tab, R.nd, fun p hp => isM_keep (R.keys p hp) hk, R.plain, R.led, R.room⟩
abbrev newSet (w : World) : Obj := { cls := .type "set", dict := none, data := .set #[] 0 (.fresh 0 0 (!w.params.followText "set-order")) }
theorem set_none {h : Heap} (hO : h.get? a = some (newSet w)) : SetM P w h a [] #[] 0 (.fresh 0 0 (!w.params.followText "set-order")) where
  ob := ⟨_, hO, ⟨rfl, rfl, rfl⟩, rfl⟩
  rows := rfl
  tab := ⟨List.Pairwise.nil, rfl, rfl, by show (7 : Nat) ∈ _; decide⟩
  nd := List.nodup_nil
  keys := fun p z => nomatch z
  plain := rfl
  led := by
    show _ ∨ (!w.params.followText "set-order") = true
    cases w.params.followText "set-order" <;> simp
  room := by show 0 * 5 < 7 * 3; decide
end
end MS
/-! set(xs) of a list of maps that all are different -/
namespace MS
open PySem PySem.Spec PyProof.Rows L2
theorem perm_next {α : Type} {ks L L' : List α} {i : Nat} {x : α} (g : L.Perm (ks.take i)) (h : ks[i]? = some x) (pm : L'.Perm (x :: L)) : L'.Perm (ks.take (i + 1)) := by
  rw [List.take_succ, h]
  exact pm.trans ((g.cons x).trans (List.perm_append_singleton x _).symm)
theorem not_yet {ks L : List (Addr × MK)} {i : Nat} {x : Addr × MK} (nd : (ks.map (·.2)).Nodup) (g : L.Perm (ks.take i)) (h : ks[i]? = some x) : x.2 ∉ L.map (·.2) := by
  intro z
  have z2 := (g.map (·.2)).mem_iff.mp z
  obtain ⟨li, rfl⟩ := List.getElem?_eq_some_iff.mp h
  have e : ks.take (i + 1) = ks.take i ++ [ks[i]] := by rw [List.take_succ, h] <;> rfl
  have nd2 : ((ks.take (i + 1)).map (·.2)).Nodup := by
    rw [List.map_take]
    exact nd.sublist (List.take_sublist ..)
  rw [e, List.map_append, List.nodup_append] at nd2
  exact nd2.2.2 _ z2 _ (by simp) rfl
section
variable {P : Program} {w : World} {A : Around} {E : Value → Shared → Prop} {s : Shared}
/-- the loop of set.update -/
theorem update_m {I : Addr} {fp wr : List Addr} {G : Array GenState → Array GenState → Prop} {n : Nat} {Pv : Nat → Value → Prop} {St : Nat → Shared → Prop} {R : Result → Shared → Prop}
    (W : WalksS P w A.in1 I fp wr G n Pv St) (S : Addr) (nS : S ∉ fp) (ks : List (Addr × MK)) (nn : n = ks.length) (few : ks.length ≤ 1200) (nd : (ks.map (·.2)).Nodup) (val : ∀ i v, Pv i v → ∃ p, ks[i]? = some p ∧ v = .ref p.1)
    (h0 : Heap) (hk : ∀ p ∈ ks, IsM P w h0 p.2 p.1) (fS : h0.get? S = none) (fw : ∀ b ∈ wr, h0.get? b = none) (hu : A.in1.units + 1 < cLine) :
    ∀ (k i : Nat) (s : Shared), n - i = k → i ≤ n → St i s → (∀ b o, h0.get? b = some o → s.heap.get? b = some o) → (∃ L es ep t, SetM P w s.heap S L es ep t ∧ L.Perm (ks.take i)) →
      (∀ s' L es ep t, Moved (S :: wr) G s s' → SetM P w s'.heap S L es ep t → L.Perm ks → (∀ b o, h0.get? b = some o → s'.heap.get? b = some o) → R (.ok (.ret .none)) s') →
      codeAny (model P w) A (.builtin "set.update.loop" ⟨[.ref S, .ref I], []⟩) R s := by
  have nw : S ∉ wr := fun z => nS (W.sub _ z)
  have sub : ∀ b ∈ wr, b ∈ S :: wr := fun b z => List.mem_cons_of_mem _ z
  have kp : ∀ {s s' : Shared}, Moved wr G s s' → (∀ b o, h0.get? b = some o → s.heap.get? b = some o) → ∀ b o, h0.get? b = some o → s'.heap.get? b = some o := fun m k b o e =>
    m.heap b o (fun z => by rw [fw b z] at e; cases e) (k b o e)
  intro k
  induction k with
  | zero =>
    intro i s ek li st k0 ⟨L, es, ep, t, hS, g⟩ hR
    obtain rfl : i = n := by omega
    refine codeAny_builtin F.entry_set_update_loop ?_
    rw [Around.under_plainId F.plain_set_update_loop _]
    refine wpAny_bind (m := pyNext (.ref I)) (W.done s _ _ st fun s' m => ?_)
    have k1 := kp m k0
    have g1 : L.Perm ks := by rw [nn, List.take_length] at g; exact g
    refine wpAny_pure (hR s' L es ep t (m.mono sub) ?_ g1 k1)
    obtain ⟨o, hO, r⟩ := hS.ob
    exact ⟨⟨o, m.heap S o nw hO, r⟩, hS.rows, hS.tab, hS.nd, fun p hp => isM_keep (hk p (g1.mem_iff.mp hp)) k1, hS.plain, hS.led, hS.room⟩
  | succ k ih =>
    intro i s ek li st k0 ⟨L, es, ep, t, hS, g⟩ hR
    have lt : i < n := by omega
    refine codeAny_builtin F.entry_set_update_loop ?_
    rw [Around.under_plainId F.plain_set_update_loop _]
    refine wpAny_bind (m := pyNext (.ref I)) (W.item i s _ _ lt st fun v s' hP st' m => ?_)
    obtain ⟨p, hp, rfl⟩ := val i v hP
    have k1 := kp m k0
    have hS' : SetM P w s'.heap S L es ep t := by
      obtain ⟨o, hO, r⟩ := hS.ob
      exact ⟨⟨o, m.heap S o nw hO, r⟩, hS.rows, hS.tab, hS.nd, fun p hp => isM_keep (hk p (List.mem_of_mem_take (g.mem_iff.mp hp))) k1, hS.plain, hS.led, hS.room⟩
    have hx : IsM P w s'.heap p.2 p.1 := isM_keep (hk p (List.mem_of_getElem? hp)) k1
    have lL : L.length = i := by rw [g.length_eq, List.length_take]; omega
    refine wpAny_bind (m := holding [Value.ref p.1] (setAdd S (.ref p.1))) (wpAny_holding ?_)
    unfold setAdd
    refine wpAny_holding ?_
    refine wpAny_bind (wpAny_pyHash_map hu hx ?_)
    refine add_new (s := { s' with toks := s'.toks + (p.2.2.length + 3) }) hS' hx hu (not_yet nd g hp) (by omega) fun b h' L' es' ep' t' sb hS2 pm => ?_
    have k2 : ∀ b o, h0.get? b = some o → h'.get? b = some o := fun b o e => (sb.2 b (fun z => by rw [z, fS] at e; cases e)).trans (k1 b o e)
    refine wpAny_pure ⟨plainId_quiet F.plain_set_update_loop _, ih (i + 1) _ (by omega) lt (W.frame _ s' _ _ st' (Nat.le_add_right _ _) fun b hb o e => ?_) k2 ⟨L', es', ep', t', hS2, perm_next g hp pm⟩ fun s2 L2 es2 ep2 t2 m2 hS3 g3 k3 => ?_⟩
    · rw [sb.2 b (fun z : b = S => nS (by rw [← z]; exact hb))]; exact e
    · refine hR s2 L2 es2 ep2 t2 (Moved.trans W.gtrans ((m.mono sub).then_heap (Nat.le_add_right _ _) fun b o hb e => ?_) m2) hS3 g3 k3
      rw [sb.2 b (fun z : b = S => hb (by rw [z]; exact List.mem_cons_self))]; exact e
theorem none_above {h : Heap} {b : Addr} (hb : h.objs.size ≤ b) : h.get? b = none := by
  cases q : h.get? b with
  | none => rfl
  | some o => exact absurd (Nat.lt_of_lt_of_le (Heap.lt_size q) hb) (Nat.lt_irrefl _)
/-- set(xs) -/
theorem call_set_m {l : Addr} {items : Array Value} (ks : List (Addr × MK)) {Q : Value → Shared → Prop} (hh : A.handled = none) (hl : s.heap.IsList l items) (it : items.toList = ks.map fun p => Value.ref p.1)
    (hk : ∀ p ∈ ks, IsM P w s.heap p.2 p.1) (few : ks.length ≤ 1200) (nd : (ks.map (·.2)).Nodup) (hu : A.units + 4 < cLine)
    (h : ∀ (h' : Heap) (tk : Nat) L es ep t, SetM P w h' s.heap.objs.size L es ep t → L.Perm ks → (∀ b o, s.heap.get? b = some o → h'.get? b = some o) → Q (.ref s.heap.objs.size) { s with heap := h', toks := tk }) :
    wpAny (model P w) A (call (.type "set") [.ref l]) Q E s := by
  have isz : items.size = ks.length := by rw [← Array.length_toList, it, List.length_map]
  obtain ⟨c0, tl0, mro0⟩ := F.called_set.mro
  have made0 := F.called_set.made
  have sub0 := F.called_set.sub
  refine wpAny_call (codeAny_of_tree ?_)
  show wpAny _ _ (callAny (.type "set") _) _ _ s
  refine wpAny_pure ⟨Code.quiet_builtin _ (by decide +kernel), codeAny_builtin F.entry_type_call ?_⟩
  rw [Around.under_plain (weight_type_call_type "set" [.ref l] []) rfl]
  have nt := F.called_set.notType
  have cc := F.called_set.canCreate
  have tc := F.typeCall_set_1 (.ref l)
  repeat (any_goals (first | assumption | wp_step))
  refine codeAny_mono (code_set_led1 (.ref l) (E := E) (Q₁ := fun x s1 => x = .ref s.heap.objs.size ∧ s1 = { s with heap := s.heap.push (newSet w) }) ⟨rfl, rfl⟩) fun r s1 hr => ?_
  cases r with
  | error e => exact hr
  | ok fl =>
    cases fl with
    | ret x =>
      obtain ⟨rfl, rfl⟩ := hr
      have hS : (s.heap.push (newSet w)).get? s.heap.objs.size = some (newSet w) := Heap.get?_push_size _ rfl
      have tS : Shared.TypeIs { s with heap := s.heap.push (newSet w) } (.ref s.heap.objs.size) "set" := ⟨_, hS, rfl⟩
      have li := F.called_set.init.lookup
      have bi := F.called_set.init.bind (.ref s.heap.objs.size)
      repeat (any_goals (first | assumption | wp_step))
      refine codeAny_mono (codeAny_call_builtin (R := wants (fun r s2 => r = .none ∧ ∃ h' tk L es ep t, s2 = { s with heap := h', toks := tk } ∧ SetM P w h' s.heap.objs.size L es ep t ∧ L.Perm ks ∧
          (∀ b o, s.heap.get? b = some o → h'.get? b = some o)) E) F.called_set.init.plain F.entry_set_init (check_set_init_1 tS ?_)) fun r2 s2 hr2 => ?_
      · obtain ⟨ol, hO, cl, nl, dl⟩ := hl
        obtain ⟨ocls, odict, odata, oslots⟩ := ol
        simp only at cl dl
        subst cl; subst dl
        have hO' : (s.heap.push (newSet w)).get? l = some { cls := .type "list", dict := odict, data := .seq items nl, slots := oslots } := Heap.get?_push_of_some _ hO
        have q1 := F.sub_list_set
        have q2 := F.sub_list_frozenset
        have q3 : (Value.type "list" == Value.type "dict") = false := by decide
        have isl : (s.heap.push (newSet w)).IsList l items := ⟨_, hO', rfl, nl, rfl⟩
        unfold Builtin.«set.__init__» noKeywords Builtin.Frozenset.updateFrom
        generalize eI : pyIter = PI
        wp_walk
        subst eI
        refine wpAny_pyIter_list isl (wpAny_bind (wpAny_runValue ?_))
        have below : l < s.heap.objs.size := Heap.lt_size hO
        have h3 : A.in1.in1.in1.handled = none := by simp [hh]
        have zp : (s.heap.push (newSet w)).objs.size = s.heap.objs.size + 1 := Heap.size_push ..
        have nI : l ≠ (s.heap.push (newSet w)).objs.size := by rw [zp]; exact Nat.ne_of_lt (Nat.lt_succ_of_lt below)
        have nS : s.heap.objs.size ∉ [(s.heap.push (newSet w)).objs.size, l] := by
          rw [zp]
          simp only [List.mem_cons, List.mem_singleton, List.not_mem_nil, or_false, not_or]
          exact ⟨Nat.ne_of_lt (Nat.lt_succ_self _), Nat.ne_of_gt below⟩
        have val : ∀ (i : Nat) (v : Value), items[i]? = some v → ∃ p, ks[i]? = some p ∧ v = .ref p.1 := fun i v hv => by
          rw [← Array.getElem?_toList, it, List.getElem?_map] at hv
          obtain ⟨p, hp, e⟩ := Option.map_eq_some_iff.mp hv
          exact ⟨p, hp, e.symm⟩
        refine update_m ((Walks.list h3 _ l nI items).toS) s.heap.objs.size nS ks isz few nd val s.heap hk (none_above (Nat.le_refl _)) (fun b hb => none_above (by rw [List.mem_singleton.mp hb, zp]; exact Nat.le_succ _)) (by
            first | exact hu | (show A.units + 3 + 1 < cLine; omega)) (items.size - 0) 0 _ (by omega) (Nat.zero_le _)
          ⟨⟨_, Heap.get?_push_size _ rfl, rfl, rfl⟩, (isl.push _)⟩ (fun b o e => Heap.get?_push_of_some _ (Heap.get?_push_of_some _ e)) ⟨[], #[], 0, _, set_none (Heap.get?_push_of_some _ hS), List.Perm.refl _⟩ ?_
        intro s' L es ep t m hS2 g k2
        obtain ⟨h', g2, d', tk', os'⟩ := s'
        obtain rfl : g2 = s.gens := m.gens
        obtain rfl : d' = s.drawn := m.drawn
        obtain rfl : os' = s.os := m.os
        show wpAny _ _ _ _ _ _
        refine wpAny_pure ?_
        show wpAny _ _ (ret Value.none) _ _ _
        exact wpAny_pure ⟨rfl, h', tk', L, es, ep, t, rfl, hS2, g, k2⟩
      · cases r2 with
        | error e => exact hr2
        | ok fl2 =>
          cases fl2 with
          | ret r =>
            obtain ⟨rfl, h', tk, L, es, ep, t, rfl, hS2, g, k2⟩ := hr2
            repeat (any_goals (first | assumption | wp_step))
            exact h _ _ _ _ _ _ hS2 g k2
          | _ => exact hr2.elim
    | _ => exact hr.elim
end
end MS
/-! sorted(set(xs)), xs a list of places: some of them, each once -/
namespace DD
open PySem PySem.W L2 SX Cm PyProof.Rows
end DD
/-! len(set(xs)) over data, xs a list of maps that all are different -/
namespace DD
open PySem PySem.W L2 SX Cm PyProof.Rows
/-- some set of n things at a -/
def setNO (a : Addr) (n : Nat) : HO := .ext fun h => ∃ o es ep t, h.get? a = some o ∧ o.ExactSet ∧ o.data = .set es ep t ∧ t.fits es.size = true ∧ es.size = n
section
variable {X : Cx}
theorem refs_ofM : ∀ {ks : List (Addr × MK)} {us : List Value}, Vals (ks.map fun p => V.ref p.1) us → us = ks.map fun p => Value.ref p.1
  | [], _, .nil => rfl
  | p :: ks, _, .cons r t => by
    cases r
    rw [refs_ofM t]; rfl
theorem cr_setM (hc : X.calm = true) (hu : X.A.units + 64 < cLine) : CallR X (.type "set") (fun xs H Q => ∃ (l : Addr) (ks : List (Addr × MK)), xs = [V.ref l] ∧ SqL X.K H l (ks.map fun p => V.ref p.1) ∧ (∀ p ∈ ks, IsMK X.K H p.2 p.1) ∧ ks.length ≤ 1200 ∧ (ks.map (·.2)).Nodup ∧
    ∀ a, H a = none → Q (.ref a) (upd H a (setNO a ks.length))) := by
  intro pins s σ H xs us Q I r h
  obtain ⟨l, ks, rfl, hl, hk, few, nd, q⟩ := h
  rw [Vals.ref1 r]
  obtain ⟨its, rv, pl, hz⟩ := I.list hl
  have fr : H s.heap.objs.size = none := I.hok.fresh (Nat.le_refl _)
  refine MS.call_set_m (P := X.prog) (w := X.w) ks (I.ok.hd hc) pl.isList (by simpa using refs_ofM rv) (fun p hp => I.isMK (hk p hp)) few nd (by omega) fun h' tk L es ep t R g k => ?_
  have fits := MS.fits_of R.tab R.rows (by have := R.room; omega)
  have sz := (MS.size_rows R.rows).trans g.length_eq
  obtain ⟨o, hO, hE, hD⟩ := R.ob
  refine ⟨.ref s.heap.objs.size, upd H s.heap.objs.size (setNO s.heap.objs.size ks.length), I.laid (t' := tk) k (Nat.le_refl _) ⟨⟨o, es, ep, t, hO, hE, hD, fits, sz⟩, ⟨o, hO⟩, ?_⟩, rfl, q _ fr⟩
  rintro h1 h2 ⟨o', es', ep', t', a1, r'⟩ k'
  exact ⟨o', es', ep', t', k' _ a1, r'⟩
theorem cr_lnSet : CallR X (.builtin "len") (fun xs H Q => ∃ (a : Addr) (n : Nat), xs = [V.ref a] ∧ n < 2 ^ 62 ∧ H a = some (setNO a n) ∧ Q (.int n) H) := by
  intro pins s σ H xs us Q I r h
  obtain ⟨a, n, rfl, ln, ha, q⟩ := h
  rw [Vals.ref1 r]
  obtain ⟨⟨o, es, ep, t, hO, hE, hD, fits, sz⟩, _⟩ := I.hok a _ ha
  refine call_len_set hO hE hD fits (by rw [sz]; omega) ?_
  rw [sz]
  exact ⟨.int n, H, I.tok _, ⟨_, rfl⟩, q⟩
variable {e : Expr} {te : TD} {p1 p2 p3 p4 : Pos}
def dLnS (te : TD) : TD := fun δ G Q => te δ G fun x G1 => ∃ (l : Addr) (ks : List MK), x = .ref l ∧ G1 l = some (.lst (ks.map mkD)) ∧ ks.length ≤ 1200 ∧ ks.Nodup ∧ Q (.int ks.length) G1
theorem w_lnSetM {te : TD} {δ : DSt} {G : DG} {Q : DK} (h : te δ G fun x G1 => ∃ (l : Addr) (ks : List MK), x = .ref l ∧ G1 l = some (.lst (ks.map mkD)) ∧ ks.length ≤ 1200 ∧ ks.Nodup ∧ Q (.int ks.length) G1) : dLnS te δ G Q := h
theorem maps_of {K : Frag} {H : Hp} : ∀ {ks : List MK} {xs : List V}, RVs K H xs (ks.map mkD) → ∃ qs : List (Addr × MK), xs = qs.map (fun p => V.ref p.1) ∧ ks = qs.map (·.2) ∧ ∀ p ∈ qs, IsMK K H p.2 p.1
  | [], _, .nil => ⟨[], rfl, rfl, fun _ h => nomatch h⟩
  | k :: ks, _, .cons r t => by
    obtain ⟨qs, e1, e2, h⟩ := maps_of t
    obtain ⟨b, e, hb⟩ := RV.mk r
    refine ⟨(b, k) :: qs, by rw [e, e1]; rfl, by rw [e2]; rfl, fun q hq => ?_⟩
    rcases List.mem_cons.mp hq with z | z
    · rw [z]; exact hb
    · exact h q z
theorem de_lenSetM (hc : X.calm = true) (hu : X.A.units + 64 < cLine) (h1 : X.mg "len" = none) (g1 : Gl X "len") (h2 : X.mg "set" = none) (g2 : Gl X "set") (he : DE X e te)
    (s1 : starEach [.Call (.Name "set" p1) [e] [] p2] X.env = (false, eval (.Call (.Name "set" p1) [e] [] p2) X.env) :: starEach [] X.env := by rfl) (s2 : starEach [e] X.env = (false, eval e X.env) :: starEach [] X.env := by rfl) :
    DE X (.Call (.Name "len" p3) [.Call (.Name "set" p1) [e] [] p2] [] p4) (dLnS te) := by
  refine PE_mono (pe_callB cr_lnSet g1 h1 PyProof.Rows.Boot.«len» (pa_cons (pe_callTy (cr_setM hc hu) g2 h2 PyProof.Rows.Boot.«set» (pa_cons he pa_nil s2) (he := s2)) pa_nil s1) (he := s1)) fun σ H Q ⟨δ, G, R, sl, w, h, f⟩ => ⟨δ, G, _, sl, w, h, fun x G1 v H1 ⟨l, ks, ex, hl, few, nd, q⟩ t1 w1 r1 => ?_⟩
  subst ex
  cases r1
  obtain ⟨O, wo⟩ := id w1
  obtain ⟨xs, hx, rx⟩ := wo.ob l _ hl
  obtain ⟨qs, rfl, rfl, hk⟩ := maps_of rx
  rw [List.length_map] at few q
  refine ⟨l, qs, rfl, .inl (.inl hx), hk, few, nd, fun a na => ?_⟩
  have s' := same_new na (setNO a qs.length)
  have t' := TKs.of (K := X.K) s'
  exact ⟨a, qs.length, rfl, by omega, upd_same, f _ _ _ _ q (t1.trans t') (w1.same s') (.int _)⟩
end
end DD
/-! own errors whose __init__ says super().__init__(text) and stores one field or two -/
namespace DD
open PySem PySem.W L2 SX Cm NdefX
section
variable {P : Program} {w : World} {K : Frag} {mg : Str → Option Value} {base : Heap} {k : Nat} {x : Str} {C cc cda fI : Addr} {st : Stmt} {qual : Str} {dV kV doc pm ct oc : Value} {an od : Option Addr} {osl : Array (Option Value)} {f1 f2 a1 a2 z : Str} {j : Nat} {p0 p1 p2 p3 p4 p5 q1 q2 q3 q4 r1 r2 r3 r4 : Pos}
abbrev supFn (st : Stmt) (qual : Str) (cc cda : Addr) (body : List Stmt) : NF := ⟨"__init__", qual, defArgs st, body, defScope st, [("__class__", cc)], cda⟩
theorem exI2 (own : OexC K C) (kC : keepIn K (.ref C) = true) (mgC : mg x = some (.ref C)) (iC : findIn K (.ref C) "__init__" = some (some (.ref fI))) (tI : typeIn K (.ref fI) = some (.type "function"))
    (lk : K.lookup fI = some ⟨oc, od, .func (fnX "__init__" qual (defArgs st) (defBody st) (defScope st) [("__class__", cc)] dV kV doc pm an (.ref cda) ct), osl⟩) (hcd : codeIn K (.ref cda) qual = true) (T : SupC P K C cc cda) (hm : mg "super" = none)
    (eb : defBody st = [supSt z j p0 p1 p2 p3 p4 p5, .Assign [.Attribute (.Name "self" q1) f1 q2] (.Name a1 q3) q4, .Assign [.Attribute (.Name "self" r1) f2 r2] (.Name a2 r3) r4])
    (S : NScope ["self", a1, a2, "__class__"] ["self", a1, a2] ["__class__"] (defScope st)) (hks : (defScope st).names.lookup ("super" : Str) = some .globalImplicit)
    {ar : Arg} (hp : ((defArgs st).posonlyargs ++ (defArgs st).args).head? = some ar) (har : ar.arg = "self")
    (nb : findIn K (.ref C) f1 = some none) (nb2 : findIn K (.ref C) f2 = some none) (hb : L2.Binds K (fnX "__init__" qual (defArgs st) (defBody st) (defScope st) [("__class__", cc)] dV kV doc pm an (.ref cda) ct) ["self", a1, a2] [])
    (d1 : (a1 == ("__debug__" : Str)) = false) (d2 : (a1 == ("__classdict__" : Str)) = false) (d3 : (a2 == ("__debug__" : Str)) = false) (d4 : (a2 == ("__classdict__" : Str)) = false)
    (hs : ∀ (L : Addr) (b : List Stmt), swapsWith (.Call (.Attribute (.Call (.Name "super" p0) [] [] p1) "__init__" p2) [.Constant (.str z) j p3] [] p4) none p5.line (envF (supFn st qual cc cda b) fI L) = pure false)
    (hi : ∀ (L : Addr) (b : List Stmt), interactive (envF (supFn st qual cc cda b) fI L) = false)
    (hsw : ∀ (L : Addr) (b : List Stmt), swapsWith (.Name a1 q3) (some (.Attribute (.Name "self" q1) f1 q2)) q4.line (envF (supFn st qual cc cda b) fI L) = pure false)
    (hsw2 : ∀ (L : Addr) (b : List Stmt), swapsWith (.Name a2 r3) (some (.Attribute (.Name "self" r1) f2 r2)) r4.line (envF (supFn st qual cc cda b) fI L) = pure false)
    (pl : Env → Sem Bool)
    (he : ∀ env : Env, eval (.Call (.Attribute (.Call (.Name "super" p0) [] [] p1) "__init__" p2) [.Constant (.str z) j p3] [] p4) env = (do
      let ov ← attributeBase (.Call (.Name "super" p0) [] [] p1) "__init__" env (eval (.Call (.Name "super" p0) [] [] p1) env)
      standAt p2.atName
      let (f, first) ← holding [ov] (getMethod ov "__init__" (pl env))
      callWith p4 f first (backTo p4 (starEach [.Constant (.str z) j p3] env)) [])) : ExI P w K mg base 1 x C [f1, f2] := by
  refine ⟨own, kC, mgC, fI, _, _, iC, tI, ?_, hb⟩
  rw [eb] at lk
  have hself : (defScope st).names.lookup ("self" : Str) = some .local := S.par "self" List.mem_cons_self
  rw [eb]
  refine ok_sup (N := ["self", a1, a2, "__class__"]) (k := 0) lk hcd S T hks hp (by rw [har]; rfl) (by rw [har]; exact hself) hm (fun vs H Q E ⟨a, more, e, l, _⟩ => by subst e; rw [List.length_cons, l]; rfl) (fun L => hs L _) (fun L => hi L _) pl he fun A outer s H vs Q E hr ⟨a, more, e, l, ea, q⟩ => ?_
  subst e
  obtain ⟨y, y2, rfl⟩ : ∃ y y2, more = [y, y2] := by
    cases more with
    | nil => cases l
    | cons y m =>
      cases m with
      | nil => cases l
      | cons y2 m =>
        cases m with
        | nil => exact ⟨y, y2, rfl⟩
        | cons _ _ => cases l
  refine ⟨a, [y, y2], rfl, ea, _, pss_cons (ps_ost (f := f1) (pe_var (i := 0) rfl (.inl hself)) (pe_var (i := 1) rfl (.inl (S.par a1 (.tail _ List.mem_cons_self))) d1 d2) (hsw _ _)) (pss_one (ps_ost (f := f2) (pe_var (i := 0) rfl (.inl hself)) (pe_var (i := 2) rfl (.inl (S.par a2 (.tail _ (.tail _ List.mem_cons_self)))) d3 d4) (hsw2 _ _))), ?_⟩
  refine ⟨y, rfl, .ref a, rfl, a, C, rfl, own, nb, .inl ⟨ea, fun dx nd ne => ⟨y2, rfl, .ref a, rfl, a, C, rfl, own, nb2, .inr ⟨dx, [(f1, y)], upd_same, by rw [upd_ne ne, upd_same], (by show 1 ≤ 900; omega), ?_⟩⟩⟩⟩
  have z := q dx nd ne
  have eH : upd (upd (upd H dx (exd dx [(f1, y)])) a (exo a C (some dx))) dx (exd dx [(f2, y2), (f1, y)]) = upd (upd H dx (exd dx [(f2, y2), (f1, y)])) a (exo a C (some dx)) := by
    funext b
    by_cases hb : b = dx
    · rw [hb, upd_same, upd_ne ne, upd_same]
    · rw [upd_ne hb]
      by_cases ha : b = a
      · rw [ha, upd_same, upd_same]
      · rw [upd_ne ha, upd_ne hb, upd_ne ha, upd_ne hb]
  show Q .non _
  rw [eH]
  exact z
end
end DD
namespace K56
open PySem PySem.W L2 SX Cm DD
def top (i : Nat) : Stmt := PySem.Challenge.pw_takeleave_k56_too_many_maps.main.body.getD i (.Pass ⟨0, 0, 0, 0⟩)
abbrev s_p_is_whole : Stmt := top 14
abbrev s_p_is_shuffle : Stmt := top 18
abbrev s_p_is_shuffle_row : Stmt := top 19
abbrev s_p_taken_left : Stmt := top 20
abbrev s_p_least_map : Stmt := top 22
abbrev s_p_map_of : Stmt := top 23
abbrev s_p_whole_map : Stmt := top 24
abbrev s_p_map_book : Stmt := top 28
abbrev s_p_map_book_holds : Stmt := top 29
abbrev s_p_is_line : Stmt := top 30
abbrev s_p_is_map_form : Stmt := top 31
abbrev s_p_is_closed : Stmt := top 32
abbrev s_p_least_row : Stmt := top 34
abbrev s_L_mixed : Stmt := top 36
abbrev s_L_deck : Stmt := top 37
abbrev s_L_draw : Stmt := top 38
abbrev s_L_sets : Stmt := top 39
abbrev s_L_just : Stmt := top 40
abbrev s_L_read : Stmt := top 41
abbrev s_L_whole : Stmt := top 42
abbrev s_L_least : Stmt := top 43
abbrev s_L_turned : Stmt := top 44
abbrev s_L_asked : Stmt := top 45
abbrev s_L_is_just : Stmt := top 46
abbrev s_L_law : Stmt := top 47
abbrev s_p_MapSearch_init : Stmt := inClass (top 27) 0
abbrev s_p_MapSearch_lengthen : Stmt := inClass (top 27) 1
abbrev s_p_MapSearch_refuse_too_many : Stmt := inClass (top 27) 2
abbrev s_p_MapSearch_map_lines : Stmt := inClass (top 27) 3
section
variable {P : Program} {w : World} {K : Frag} {mg : Str → Option Value} {base : Heap}
theorem scMixed : FnScope ["_law_cell", "_law_k", "_law_number"] ["_law_cell", "_law_k"] (defScope s_L_mixed) := ⟨rfl, rfl, rfl, by decide +kernel, rfl, by decide +kernel, by decide +kernel⟩
theorem ok_mixed {f : Addr} {fd : FuncData} (F : Fun K "_law_mixed" "_law_mixed" s_L_mixed f fd) : FnOk P w K mg base CX0 1 f fd ["_law_cell", "_law_k"] spMixedE := by
  refine F.ok scMixed (fun vs H Q E h => ?_) (fun cdv A outer s H vs Q E hr h => ?_)
  · obtain ⟨n, k, rfl, _⟩ := h
    rfl
  obtain ⟨n, k, rfl, q⟩ := h
  refine ⟨_, pss_cons (ps_set (i := 2) scMixed.nd rfl (.inl rfl) (pe_op op_mod (pe_op op_add (pe_op op_add (pe_op op_mul (pe_op op_mod (pv 0) pe_int) pe_int) (pe_op op_mul (pv 1) pe_int)) pe_int) pe_int))
    (pss_cons (ps_set (i := 2) scMixed.nd rfl (.inl rfl) (pe_op op_mod (pe_op op_add (pe_op op_add (pe_op op_mul (pv 2) (pv 2)) (pe_op op_mul pe_int (pv 2))) (pv 1)) pe_int))
    (pss_one (ps_ret (pe_op op_mod (pe_op op_mul (pe_op op_add (pe_op op_mul (pe_op op_mod (pv 2) pe_int) pe_int) (pe_op op_fdiv (pv 2) pe_int)) pe_int) pe_int)))), ?_⟩
  refine ⟨_, rfl, _, _, rfl, rfl, (by show (0 : Int) < 2147483647; decide), _, _, rfl, rfl, .inr ⟨by decide, by decide⟩, _, rfl, _, _, rfl, rfl, .inr ⟨by decide, by decide⟩, _, _, rfl, rfl, _, _, rfl, rfl, _, _, rfl, rfl, (by show (0 : Int) < 2147483629; decide), ?_⟩
  generalize e1 : (n % 2147483647 * 48271 + k * 69621 + 7919) % 2147483629 = n1
  have b1 : 0 ≤ n1 ∧ n1 < 2147483629 := by
    constructor
    · rw [← e1]; exact Int.emod_nonneg _ (by decide)
    · rw [← e1]; exact Int.emod_lt_of_pos _ (by decide)
  refine ⟨_, rfl, _, rfl, _, _, rfl, rfl, .inl ⟨by omega, by omega⟩, _, rfl, _, _, rfl, rfl, .inl ⟨by decide, by decide⟩, _, _, rfl, rfl, _, rfl, _, _, rfl, rfl, _, _, rfl, rfl, (by show (0 : Int) < 2147483587; decide), ?_⟩
  refine ⟨_, rfl, _, _, rfl, rfl, (by show (0 : Int) < 65536; decide), _, _, rfl, rfl, .inr ⟨by decide, by decide⟩, _, rfl, _, _, rfl, rfl, ⟨by decide, by decide⟩, _, _, rfl, rfl, _, _, rfl, rfl, .inr ⟨by decide, by decide⟩, _, _, rfl, rfl, (by show (0 : Int) < 2147483563; decide), ?_⟩
  exact q _
theorem scDeck : FnScope ["_law_script", "_law_cells"] ["_law_script"] (defScope s_L_deck) := ⟨rfl, rfl, rfl, by decide +kernel, rfl, by decide +kernel, by decide +kernel⟩
theorem ok_deck {f : Addr} {fd : FuncData} (F : Fun K "_law_deck" "_law_deck" s_L_deck f fd) (mlist : mg "list" = none) (msum : mg "sum" = none) : FnOk P w K mg base CX0 1 f fd ["_law_script"] (spDeckE K) := by
  refine F.ok scDeck (fun vs H Q E h => ?_) (fun cdv A outer s H vs Q E hr h => ?_)
  · obtain ⟨a, ns, rfl, _⟩ := h
    rfl
  obtain ⟨a, ns, rfl, hS, h63, q⟩ := h
  refine ⟨_, pss_cons (ps_set (i := 1) scDeck.nd rfl (.inl rfl) (pe_callTy call_list_of (by rfl) mlist (by decide +kernel) (pa_cons (pe_slice sl_list (pv 0) po_none (po_some pe_int)) pa_nil)))
    (pss_one (ps_ret (pe_op op_cat (pe_lst (pa_cons pe_int (pa_cons (pe_op op_mod (pe_callB (cr_sum rfl) (by rfl) msum PyProof.Rows.boot_sum (pa_cons (pv 1) pa_nil)) pe_int) pa_nil))) (pe_revL (pv 1))))), ?_⟩
  refine ⟨_, rfl, 63, rfl, a, _, rfl, hS, fun p1 n1 => ?_⟩
  obtain ⟨ds, e1, l1⟩ := cut_map V.int ns none (some 63)
  rw [e1]
  refine ⟨p1, _, rfl, .inl (SqL.of upd_same), fun p2 n2 => ?_⟩
  have s1 : Same H (upd H p1 (.lst (ds.map V.int))) := same_new n1 _
  have s2 := s1.trans (same_new n2 (.lst (ds.map V.int)))
  refine ⟨_, rfl, p2, ds, rfl, SqL.of upd_same, _, _, rfl, rfl, (by show (0 : Int) < 2147483647; decide), (by show 2 ≤ sizeLine; decide), fun p3 n3 => ?_⟩
  refine ⟨_, rfl, p2, _, rfl, SqL.of (kn upd_same n3), fun p4 n4 => ?_⟩
  have s4 := (s2.trans (same_new n3 (.lst [.int 0, .int (ds.sum % 2147483647)]))).trans (same_new n4 (.lst (ds.map V.int).reverse))
  refine ⟨p3, p4, _, _, rfl, rfl, kn upd_same n4, upd_same, ?_, fun p5 n5 => ?_⟩
  · rw [sizeLine_eq, List.length_reverse, List.length_map]
    show 2 + ds.length ≤ _
    omega
  refine q p5 _ (s4.trans (same_new n5 _)) (s4.free n5) ⟨0, ds.sum % 2147483647, ds.reverse, ?_, ?_⟩
  · rw [upd_same, List.map_reverse]; rfl
  · rw [List.length_reverse]; omega
theorem scDraw : FnScope ["_law_deck_here", "_law_most", "_law_cell"] ["_law_deck_here", "_law_most"] (defScope s_L_draw) := ⟨rfl, rfl, rfl, by decide +kernel, rfl, by decide +kernel, by decide +kernel⟩
theorem ok_draw {f g : Addr} {fd gd : FuncData} (F : Fun K "_law_draw" "_law_draw" s_L_draw f fd) (G : FnOk P w K mg base CX0 1 g gd ["_law_cell", "_law_k"] spMixedE) (bG : L2.Binds K gd ["_law_cell", "_law_k"] []) (kG : PySem.W.keepIn K (.ref g) = true) (mG : mg "_law_mixed" = some (.ref g)) (mlen : mg "len" = none) :
    FnOk P w K mg base CX0 2 f fd ["_law_deck_here", "_law_most"] spTakeE := by
  refine F.ok scDraw (fun vs H Q E h => ?_) (fun cdv A outer s H vs Q E hr h => ?_)
  · obtain ⟨d, m, rfl, _⟩ := h
    rfl
  obtain ⟨d, m, rfl, ⟨k, sm, ms, hd, hl⟩, m0, m1, q⟩ := h
  refine ⟨_, pss_cons (ps_asg (pe_op op_add (pe_ix ix_list (pv 0) pe_int (fun _ _ => rfl)) pe_int) (pg_sub (pv 0) pe_int set_list))
    (pss_cons (ps_if (pt_cmpR op_lt (pe_callB call_len_seq (by rfl) mlen PySem.boot_len (pa_cons (pv 0) pa_nil)) pe_int (nomark _))
      (pss_one (ps_ret (pe_op op_mod (pe_call G hr rfl mG kG bG .nil pass0 (pa_cons (pe_ix ix_list (pv 0) pe_int (fun _ _ => rfl)) (pa_cons (pe_ix ix_list (pv 0) pe_int (fun _ _ => rfl)) pa_nil))) (pv 1)))) pss_nil)
    (pss_cons (ps_set (i := 2) scDraw.nd rfl (.inl rfl) (pe_bm0 PySem.F.plainAttrs_list PySem.F.slot_list_pop PySem.F.type_list_pop mt_pop (pv 0)))
    (pss_cons (ps_if (pt_cmpR op_lt (pv 2) (pe_op op_pow pe_int pe_int) (nomark _))
      (pss_one (ps_ret (pe_op op_mod (pe_call G hr rfl mG kG bG .nil pass0 (pa_cons (pv 2) (pa_cons (pe_ix ix_list (pv 0) pe_int (fun _ _ => rfl)) pa_nil))) (pv 1)))) pss_nil)
    (pss_cons (ps_expr (pe_bm PySem.F.plainAttrs_list PySem.F.slot_list_append PySem.F.type_list_append mt_append (pv 0) (pa_cons (pe_op op_fdivW (pv 2) (pv 1)) pa_nil)))
    (pss_one (ps_ret (pe_op op_mod (pv 2) (pv 1)))))))), ?_⟩
  have at0 : ∀ (x y : Int) (r : List V), atI (V.int x :: V.int y :: r) 0 = some (V.int x) := fun x y r => atI_nat (j := 0) rfl
  have at1 : ∀ (x y : Int) (r : List V), atI (V.int x :: V.int y :: r) 1 = some (V.int y) := fun x y r => atI_nat (j := 1) rfl
  have ix0 : ∀ n : Nat, ixN (n + 2) 0 = some 0 := fun n => by
    unfold ixN
    simp
    omega
  refine ⟨_, rfl, d, _, _, _, rfl, rfl, SqL.of hd, at0 _ _ _, _, _, rfl, rfl, _, rfl, d, _, _, 0, rfl, rfl, hd, ix0 _, ?_⟩
  have k1 : Kp [d] H (upd H d (.lst (V.int (k + 1) :: V.int sm :: ms.map V.int))) := (Kp.refl _ H).own dmE
  have hd1 : upd H d (.lst (V.int (k + 1) :: V.int sm :: ms.map V.int)) d = some (.lst (V.int (k + 1) :: V.int sm :: ms.map V.int)) := upd_same
  show tSeq _ _ _ _ (upd H d (.lst (V.int (k + 1) :: V.int sm :: ms.map V.int)))
  generalize upd H d (.lst (V.int (k + 1) :: V.int sm :: ms.map V.int)) = H1 at hd1 k1
  refine ⟨_, rfl, d, _, rfl, .inl (SqL.of hd1), _, _, rfl, rfl, _, rfl, ?_⟩
  rcases List.eq_nil_or_concat ms with rfl | ⟨ns, n, rfl⟩
  · refine iteT ?_
    refine ⟨_, rfl, d, _, _, _, rfl, rfl, SqL.of hd1, at1 _ _ _, _, rfl, d, _, _, _, rfl, rfl, SqL.of hd1, at0 _ _ _, _, _, rfl, fun r => ?_⟩
    refine ⟨_, rfl, _, _, rfl, rfl, m0, ?_⟩
    exact q _ _ (Int.emod_nonneg _ (by omega)) (Int.emod_lt_of_pos _ m0) k1 ⟨_, _, [], hd1, by decide⟩
  · rw [List.length_concat] at hl
    have hlt : ¬ ((V.int (k + 1) :: V.int sm :: (ns.concat n).map V.int).length : Int) < 3 := by
      rw [List.length_cons, List.length_cons, List.length_map, List.length_concat]; omega
    rw [decide_eq_false hlt]
    refine iteF ?_
    have hq : (V.int (k + 1) :: V.int sm :: (ns.concat n).map V.int)[(V.int (k + 1) :: V.int sm :: (ns.concat n).map V.int).length - 1]? = some (V.int n) := by
      rw [List.concat_eq_append, List.map_append]
      simp
    have hdl : (V.int (k + 1) :: V.int sm :: (ns.concat n).map V.int).dropLast = V.int (k + 1) :: V.int sm :: ns.map V.int := by
      rw [List.concat_eq_append, List.map_append]
      show (([V.int (k + 1), V.int sm] ++ ns.map V.int) ++ [V.int n]).dropLast = _
      rw [List.dropLast_concat]; rfl
    refine ⟨_, rfl, .inl ⟨rfl, _, SqL.of hd1⟩, d, _, _, rfl, rfl, hd1, hq, ?_⟩
    rw [hdl]
    have k3 : Kp [d] H (upd H1 d (.lst (V.int (k + 1) :: V.int sm :: ns.map V.int))) := k1.own dmE
    refine ⟨_, rfl, _, _, rfl, rfl, ⟨by decide, by decide, by decide⟩, _, _, rfl, rfl, _, rfl, ?_⟩
    refine ite2 (fun _ => ?_) (fun _ => ?_)
    · refine ⟨_, rfl, _, rfl, d, _, _, _, rfl, rfl, SqL.of upd_same, at0 _ _ _, _, _, rfl, fun r => ?_⟩
      refine ⟨_, rfl, _, _, rfl, rfl, m0, ?_⟩
      exact q _ _ (Int.emod_nonneg _ (by omega)) (Int.emod_lt_of_pos _ m0) k3 ⟨_, _, ns, upd_same, by omega⟩
    · refine ⟨_, rfl, .inl ⟨rfl, _, SqL.of upd_same⟩, _, rfl, _, rfl, _, _, rfl, rfl, wide_div m0 (b := 64) (by omega) (by decide) (by decide), d, _, _, rfl, rfl, upd_same, ?_, ?_⟩
      · rw [sizeLine_eq, List.length_cons, List.length_cons, List.length_map]; omega
      refine ⟨_, rfl, _, rfl, _, _, rfl, rfl, m0, ?_⟩
      refine q _ _ (Int.emod_nonneg _ (by omega)) (Int.emod_lt_of_pos _ m0) (k3.own dmE) ⟨k + 1, sm, ns ++ [n / m], ?_, ?_⟩
      · rw [upd_same, List.map_append]; rfl
      · rw [List.length_append, List.length_singleton]; omega
abbrev A_L_draw : List Str := A_E_draw
theorem h_draw (a : At K mg "_law_draw" s_L_draw A_L_draw) (b : At K mg "_law_mixed" s_L_mixed ["_law_cell", "_law_k"]) (mlen : mg "len" = none) : Has P w K mg base 2 "_law_draw" A_L_draw SP_drawE := by
  obtain ⟨g, gd, G, bG, mG⟩ := b
  exact has_drawE a fun f fd F => ok_draw F (ok_mixed G) bG G.kp mG mlen
end
set_option maxHeartbeats 1000000
local macro_rules | `(tactic| walk_at "d1") => `(tactic| first | (with_reducible refine w_go ?_) | ((with_reducible show dVar _ _ _ _); refine w_var rfl ?_) | (with_reducible refine w_exI ?_) | (with_reducible refine w_exB ?_) | (with_reducible refine w_exT ?_) | (with_reducible refine w_exS ?_) | (with_reducible refine w_parE ?_) | (with_reducible refine ly1 ?_) | (with_reducible refine ly2 ?_) | (with_reducible refine lt1' ?_) | (with_reducible refine lt2' ?_) | (with_reducible refine wx_enumT ?_) | (with_reducible refine w_callX ?_) | (with_reducible refine w_methX ?_) | (with_reducible refine w_raise ?_) | (with_reducible refine w_try ?_) | (with_reducible refine w_xSet ?_) | (with_reducible refine w_xExpr ?_) | (with_reducible refine w_xLst ?_) | (with_reducible refine w_xTup ?_) | (with_reducible refine w_xCons ?_) | (with_reducible refine w_xNil ?_) | (with_reducible refine w_xE ?_) | (with_reducible refine w_xCall ?_) | (with_reducible refine w_call0 ?_) | (with_reducible refine w_asgL ?_) | (with_reducible refine w_tupPd ?_) | (with_reducible refine wi_zip ?_) | (with_reducible refine w_delT ?_) | (with_reducible refine w_dc ?_) | (with_reducible refine w_revL ?_) | (with_reducible refine wi_revT ?_) | (with_reducible refine w_lstZip ?_) | (with_reducible refine w_chain ?_) | (with_reducible refine w_orT ?_) | (with_reducible refine w_try0 ?_) | (with_reducible refine w_xAsg ?_) | (with_reducible refine wi_zipTL ?_) | (with_reducible refine wi_zipSL ?_) | ((with_reducible show gT _ _ _ _ _ _); refine g_T ?_ rfl) | ((with_reducible show ∃ p, DV.ref _ = _ ∧ (∃ kvs, _) ∧ _); refine wx_get (by walk_at "gq") ?_) | ((with_reducible show ∃ kvs z, _ = _ ∧ _ = some (DO.dct _) ∧ _); refine wx_get2 (by walk_at "gq") ?_) | ((with_reducible show ∃ p kvs z, _ = _ ∧ _ = _ ∧ _ = some (DO.dct _) ∧ _); refine wx_in (by walk_at "gq") ?_) | ((with_reducible show List.length _ = _ ∧ _); refine w_len ?_ rfl) | ((with_reducible show List.length _ ≤ sizeLine ∧ _); refine w_sz ?_ (szl rfl)) | ((with_reducible show bIx _ (.int _) _ _); first | refine w_ix0 ?_ | refine w_ix1 ?_ | refine w_ix2 ?_ | refine w_ix3 ?_) | ((with_reducible show bIsi [_, _] _ _); first | refine w_isi (by decide) (a := "tuple") rfl rfl ?_ | refine w_isi (by decide) (a := "str") rfl rfl ?_ | refine w_isi (by decide) (a := "int") rfl rfl ?_ | refine w_isi (by decide) (a := "bool") rfl rfl ?_ | refine w_isi (by decide) (a := "NoneType") rfl rfl ?_) | ((with_reducible show ∃ ds, _ = DV.tup ds ∧ _); refine w_exT ?_) | ((with_reducible show ∃ z, _ = DV.str z ∧ _); refine w_exS ?_) | ((with_reducible show ∃ ds, [_] = [DV.tup ds] ∧ _); refine wx_enumT ?_) | ((with_reducible show bSl _ _ _ _ _); refine w_slT ?_) | ((with_reducible show bTuple [_] _ _); refine w_tupT ?_) | ((with_reducible show bLen [_] _ _); refine w_lenT ?_) | ((with_reducible show bTru _ _ _); first | refine w_truT ?_ | refine w_truN ?_ | refine w_truB ?_ | refine w_truI ?_) | ((with_reducible show bEq _ _ _ _ _); first | refine w_eqSS ?_ | refine w_eqII ?_ | refine w_neSS ?_ | refine w_neII ?_ | refine w_eqT0 ?_) | ((with_reducible show bInt _ _ (.int _) (.int _) _ _); refine w_int (by first | decide | exact ⟨by decide, by decide, by decide⟩ | exact .inl ⟨by decide, by decide⟩ | exact .inr ⟨by decide, by decide⟩) ?_) | ((with_reducible show if _ = true then _ else _); first | refine w_it (by first | rfl | decide +kernel) ?_ | refine w_if0 (by first | rfl | decide +kernel) ?_) | ((with_reducible show rcv "list" (.ref _) _ ∧ _); refine w_rcvL (by walk_at "gq") ?_) | ((with_reducible show bTuple [.ref _] _ _); refine w_tupL (by walk_at "gq") ?_) | ((with_reducible show bLen [.ref _] _ _); refine w_lenL (by walk_at "gq") ?_) | ((with_reducible show bTru (.ref _) _ _); refine w_truL (by walk_at "gq") ?_) | ((with_reducible show ∃ _ _, DV.ref _ = _ ∧ Ls _ _ _ ∧ _); refine wx_lst (by walk_at "gq") ?_) | ((with_reducible show ∃ _ _, [DV.ref _] = _ ∧ Ls _ _ _ ∧ _); refine wx_lstA (by walk_at "gq") ?_))
local macro_rules | `(tactic| walk_at "dd") => `(tactic| repeat (walk_at "d1"))
local macro_rules | `(tactic| walk_at "gq") => `(tactic| first | assumption | exact dupd_same | exact sub_get (by assumption) (by walk_at "gq") | exact upd_get (by assumption) (by walk_at "gq") (by walk_at "gn") | exact subx_get (by assumption) (by walk_at "gq") (by walk_at "gn") | (refine (dupd_ne ?_).trans ?_; (focus walk_at "gn"); walk_at "gq"))
local macro_rules | `(tactic| walk_at "gs") => `(tactic| first | assumption | exact Sub.refl _ | exact sub_tr (by assumption) (by walk_at "gs") | exact sub_up (by assumption) (by walk_at "gs") (by walk_at "g0") | exact sub_ux (by assumption) (by walk_at "gs") (by walk_at "g0") | (refine Sub.new ?_ ?_; (focus walk_at "gs"); walk_at "g0"))
local macro_rules | `(tactic| walk_at "gk") => `(tactic| first | assumption | exact dk_sub (by assumption) (by walk_at "gk") | exact dk_upd (by assumption) (by walk_at "gk") ⟨_, by walk_at "gq"⟩ | exact dk_updD (by assumption) (by walk_at "gk") ⟨_, by walk_at "gq"⟩)
local macro_rules | `(tactic| walk_at "gu") => `(tactic| first | assumption | exact Upd.refl _ _ | exact upd_in (by assumption) (by walk_at "gu"))
local macro_rules | `(tactic| walk_at "gx") => `(tactic| first | assumption | exact SubX.refl _ _ | exact subx_sub (by assumption) (by walk_at "gx") | exact subx_upd (by assumption) (by walk_at "gx") | exact subx_tr (by assumption) (by walk_at "gx"))
local macro_rules | `(tactic| walk_at "gn") => `(tactic| first | assumption | exact Ne.symm (by assumption) | exact ne_ns (by assumption) ⟨_, by walk_at "gq"⟩ | exact ne_sn (by assumption) ⟨_, by walk_at "gq"⟩)
local macro_rules | `(tactic| walk_at "g0") => `(tactic| first | assumption | exact nn_ (by assumption) (by walk_at "gs"))
theorem mid {n : Nat} (h : n ≤ 100000) : n ≤ sizeLine := Nat.le_trans h (by decide)
/-- a word as data -/
def eX (x : Cm.Wd) : DV := .str (shT x.1 (pk x))
theorem sh_of {x : Cm.Wd} (h : Shuf x.1 x.2) : ShOk x.1 (pk x) := ⟨h.n8, fun p hp => pk_lt h hp, pk_len h⟩
def eRow (ws : List Cm.Wd) : DV := .tup (ws.map eX)
section
variable {P : Program} {w : World} {K : Frag} {mg : Str → Option Value} {base : Heap}
def SP_ish : DSp := fun ds G R => ∃ n ps, ds = [.str (shT n ps)] ∧ ShOk n ps ∧ R (.bl true) G
def SP_tkS : DSp := fun ds G R => ∃ n ps, ds = [.str (shT n ps)] ∧ ShOk n ps ∧ R (.tup [.int (n : Int), .tup (ps.map fun p : Nat => .int (p : Int))]) G
def SP_isr : DSp := fun ds G R => ∃ ws, ds = [eRow ws] ∧ Good ws ∧ ws.length ≤ 100 ∧ R (.bl true) G
abbrev N_p_is_shuffle : List Str := ["thing", "taken", "stroke", "left", "letter"]
abbrev A_p_is_shuffle : List Str := ["thing"]
theorem sc_p_is_shuffle : FnScope N_p_is_shuffle A_p_is_shuffle (defScope s_p_is_shuffle) := ⟨rfl, rfl, rfl, by decide +kernel, rfl, by decide +kernel, by decide +kernel⟩
theorem h_p_is_shuffle (a : At K mg "is_shuffle" s_p_is_shuffle A_p_is_shuffle) (B : BI mg) (g_LETTERS : ∃ t, mg "LETTERS" = some (.str "abcdefgh" t)) (g_MOST_LEFT : ∃ t, mg "MOST_LEFT" = some (.int 12 t)) : Has P w K mg base 1 "is_shuffle" A_p_is_shuffle SP_ish := by
  refine at_mk a sc_p_is_shuffle fun f cdv A outer s H E hr ds G R hl h => ?_
  refine ⟨_, (dss_cons (ds_if (dt_not (dt_e (de_callB cd_isi B.isi rfl (by decide +kernel) (da_cons (dv 0) (da_cons (de_ty (n := "str") B.str rfl (by decide +kernel)) da_nil))))) (dss_one (ds_ret de_bl)) dss_nil)
    (dss_cons (ds_asg (de_bm PySem.F.plainAttrs_str PySem.F.slot_str_partition PySem.F.type_str_partition md_partition (dv 0) (da_cons de_str da_nil)) (dg_tup rfl (dgs_cons (dg_name (i := 1) sc_p_is_shuffle.nd rfl (.inr rfl)) (dgs_cons (dg_name (i := 2) sc_p_is_shuffle.nd rfl (.inl rfl)) (dgs_cons (dg_name (i := 3) sc_p_is_shuffle.nd rfl (.inl rfl)) dgs_nil)))))
    (dss_cons (ds_if (dt_w (dw_or (dt_cmp (od_eq hr.units) (dv 2) de_str (nomark _)) (dw_or1 (dt_not (dt_e (de_bm PySem.F.plainAttrs_str PySem.F.slot_str_startswith PySem.F.type_str_startswith md_startswith (de_gstr g_LETTERS rfl) (da_cons (dv 1) da_nil))))))) (dss_one (ds_ret de_bl)) dss_nil)
    (dss_one (ds_ret (de_and (de_cmp od_le (de_callB cd_len B.len rfl (by decide +kernel) (da_cons (dv 3) da_nil)) (de_gint g_MOST_LEFT rfl) (nomark _)) (de_one (de_callB (cd_all rfl) B.all rfl (by decide +kernel) (da_cons (de_lc (own := [("letter", 4)]) (lt1 (i := 4) (by decide)) rfl sc_p_is_shuffle.nd (di_str (dv 3)) (blkOk_by (own := [("letter", 4)]) (N := N_p_is_shuffle) (sc := defScope s_p_is_shuffle) (by decide +kernel)) (fun _ _ _ _ _ => pg_name (i := 4) sc_p_is_shuffle.nd rfl (Or.inl rfl)) (fun _ _ _ _ _ => dts_nil) (fun _ _ _ _ _ => (de_cmp od_in (dv 4) (dv 1) rfl))) da_nil))))))))), ?_⟩
  obtain ⟨n, ps, rfl, hs, q⟩ := h
  walk_at "dd"
  refine w_partition (by decide +kernel) (mid (Nat.le_trans (sh_len hs) (by decide))) ?_
  rw [sh_part]
  dsimp only
  walk_at "dd"
  refine w_startswith ?_
  rw [sh_start n (Nat.lt_succ_of_le hs.hn)]
  walk_at "dd"
  refine w_lenS (mid (by rw [S_len, shP, List.length_map]; have := hs.hl; omega)) ?_
  walk_at "dd"
  refine w_it (decide_eq_true (by rw [S_len, shP, List.length_map]; have := hs.hl; omega)) ?_
  walk_at "dd"
  rw [signs_S]
  refine lcs_pure (fun d => some (.bl true)) (fun _ _ => trivial) (by rw [List.length_map, shP, List.length_map]; have := hs.hl; omega) ?_ ?_
  · intro d hd G' k1 k0 _ h1 h0
    obtain ⟨c', hc', rfl⟩ := List.mem_map.mp hd
    obtain ⟨p, hp, rfl⟩ := List.mem_map.mp hc'
    walk_at "dd"
    rw [decide_eq_true (sh_in (hs.hp p hp))]
    exact h1 _ rfl
  · intro p G1 np s1 hp
    have e : ((shP ps).map fun c => DV.str ⟨#[c]⟩).filterMap (fun _ => some (DV.bl true)) = ((shP ps).map fun _ => true).map DV.bl := by
      rw [List.filterMap_map, List.map_map]; exact List.filterMap_eq_map ▸ rfl
    rw [e] at hp
    walk_at "dd"
    refine w_allL hp ?_
    have ea : (((shP ps).map fun _ => true).all id) = true := by rw [List.all_map]; exact List.all_eq_true.mpr fun _ _ => rfl
    rw [ea]
    exact ⟨G, s1, q⟩
abbrev N_p_is_shuffle_row : List Str := ["row", "word"]
abbrev A_p_is_shuffle_row : List Str := ["row"]
theorem sc_p_is_shuffle_row : FnScope N_p_is_shuffle_row A_p_is_shuffle_row (defScope s_p_is_shuffle_row) := ⟨rfl, rfl, rfl, by decide +kernel, rfl, by decide +kernel, by decide +kernel⟩
theorem h_p_is_shuffle_row (a : At K mg "is_shuffle_row" s_p_is_shuffle_row A_p_is_shuffle_row) (B : BI mg) (c_p_is_shuffle : Has P w K mg base 1 "is_shuffle" A_p_is_shuffle SP_ish) : Has P w K mg base 2 "is_shuffle_row" A_p_is_shuffle_row SP_isr := by
  refine at_mk a sc_p_is_shuffle_row fun f cdv A outer s H E hr ds G R hl h => ?_
  refine ⟨_, (dss_one (ds_ret (de_callB (cd_all rfl) B.all rfl (by decide +kernel) (da_cons (de_lc (own := [("word", 1)]) (lt1 (i := 1) (by decide)) rfl sc_p_is_shuffle_row.nd (di_tup (dv 0)) (blkOk_by (own := [("word", 1)]) (N := N_p_is_shuffle_row) (sc := defScope s_p_is_shuffle_row) (by decide +kernel)) (fun _ _ _ _ _ => pg_name (i := 1) sc_p_is_shuffle_row.nd rfl (Or.inl rfl)) (fun _ _ _ _ _ => dts_nil) (fun _ _ _ _ _ => (de_call c_p_is_shuffle (hr.mono (by omega)) rfl (da_cons (dv 1) da_nil)))) da_nil)))), ?_⟩
  obtain ⟨ws, rfl, gd, lw, q⟩ := h
  walk_at "dd"
  refine lcs_pure (fun d => some (.bl true)) (fun _ _ => trivial) (by rw [List.length_map]; omega) ?_ ?_
  · intro d hd G' k1 k0 _ h1 h0
    obtain ⟨x, hx, rfl⟩ := List.mem_map.mp hd
    walk_at "dd"
    exact ⟨_, _, rfl, sh_of (gd x hx), h1 _ rfl⟩
  · intro p G1 np s1 hp
    have e : (ws.map eX).filterMap (fun _ => some (DV.bl true)) = (ws.map fun _ => true).map DV.bl := by
      rw [List.filterMap_map, List.map_map]; exact List.filterMap_eq_map ▸ rfl
    rw [e] at hp
    walk_at "dd"
    refine w_allL hp ?_
    have ea : ((ws.map fun _ => true).all id) = true := by rw [List.all_map]; exact List.all_eq_true.mpr fun _ _ => rfl
    rw [ea]
    exact ⟨G, s1, q⟩
abbrev N_p_taken_left : List Str := ["shuffle", "taken", "left", "letter"]
abbrev A_p_taken_left : List Str := ["shuffle"]
theorem sc_p_taken_left : FnScope N_p_taken_left A_p_taken_left (defScope s_p_taken_left) := ⟨rfl, rfl, rfl, by decide +kernel, rfl, by decide +kernel, by decide +kernel⟩
theorem h_p_taken_left (a : At K mg "taken_left" s_p_taken_left A_p_taken_left) (B : BI mg) (c_p_is_shuffle : Has P w K mg base 1 "is_shuffle" A_p_is_shuffle SP_ish) (g_LETTERS : ∃ t, mg "LETTERS" = some (.str "abcdefgh" t)) : Has P w K mg base 2 "taken_left" A_p_taken_left SP_tkS := by
  refine at_mk a sc_p_taken_left fun f cdv A outer s H E hr ds G R hl h => ?_
  refine ⟨_, (dss_cons (ds_if (dt_not (dt_e (de_call c_p_is_shuffle (hr.mono (by omega)) rfl (da_cons (dv 0) da_nil)))) dss_never dss_nil)
    (dss_cons (ds_asg (de_bm PySem.F.plainAttrs_str PySem.F.slot_str_split PySem.F.type_str_split md_split (dv 0) (da_cons de_str da_nil)) (dg_lst rfl (dgs_cons (dg_name (i := 1) sc_p_taken_left.nd rfl (.inl rfl)) (dgs_cons (dg_name (i := 2) sc_p_taken_left.nd rfl (.inl rfl)) dgs_nil))))
    (dss_one (ds_ret (de_tup (da_cons (de_callB cd_len B.len rfl (by decide +kernel) (da_cons (dv 1) da_nil)) (da_cons (de_callTy cd_tuple B.tup rfl (by decide +kernel) (da_cons (de_lc (own := [("letter", 3)]) (lt1 (i := 3) (by decide)) rfl sc_p_taken_left.nd (di_str (dv 2)) (blkOk_by (own := [("letter", 3)]) (N := N_p_taken_left) (sc := defScope s_p_taken_left) (by decide +kernel)) (fun _ _ _ _ _ => pg_name (i := 3) sc_p_taken_left.nd rfl (Or.inl rfl)) (fun _ _ _ _ _ => dts_nil) (fun _ _ _ _ _ => (de_bm PySem.F.plainAttrs_str PySem.F.slot_str_index PySem.F.type_str_index md_sindex (de_gstr g_LETTERS rfl) (da_cons (dv 3) da_nil)))) da_nil)) da_nil))))))), ?_⟩
  obtain ⟨n, ps, rfl, hs, q⟩ := h
  walk_at "dd"
  refine ⟨n, ps, rfl, hs, ?_⟩
  walk_at "dd"
  refine w_split rfl (mid (by have := sh_len hs; omega)) ?_
  rw [sh_split]
  intro p np
  refine abs_new np fun G1 s1 h1 => ?_
  have h1 : G1 p = some (.lst [.str (S (shL n)), .str (S (shP ps))]) := h1
  refine g_L h1 ?_
  walk_at "dd"
  have ln : (S (shL n)).length = n := by rw [S_len]; unfold shL; rw [List.length_map, List.length_range]
  refine w_lenS (z := S (shL n)) (mid (by rw [ln]; have := hs.hn; omega)) ?_
  walk_at "dd"
  rw [signs_S]
  refine lcs_pure (fun d => some (.int ((signD d - 97 : Nat) : Int))) (fun _ _ => trivial) (by rw [List.length_map, shP, List.length_map]; have := hs.hl; omega) ?_ ?_
  · intro d hd G' k1 k0 _ e1 e0
    obtain ⟨c', hc', rfl⟩ := List.mem_map.mp hd
    obtain ⟨p, hp, rfl⟩ := List.mem_map.mp hc'
    walk_at "dd"
    refine w_sindex (sh_index p (Nat.lt_of_lt_of_le (hs.hp p hp) hs.hn)) ?_
    refine e1 _ ?_
    show some (DV.int (((97 + p) - 97 : Nat) : Int)) = some (DV.int ((p : Nat) : Int))
    rw [Nat.add_sub_cancel_left]
  · intro p2 G2 np2 s2 hp2
    have e : ((shP ps).map fun c => DV.str ⟨#[c]⟩).filterMap (fun d => some (DV.int ((signD d - 97 : Nat) : Int))) = ps.map fun p : Nat => DV.int (p : Int) := by
      rw [fm_signs (fun c => DV.int ((c - 97 : Nat) : Int)), shP, List.map_map]
      refine List.map_congr_left fun p _ => ?_
      show DV.int (((97 + p) - 97 : Nat) : Int) = DV.int ((p : Nat) : Int)
      rw [Nat.add_sub_cancel_left]
    rw [e] at hp2
    walk_at "dd"
    rw [ln]
    exact ⟨G, by walk_at "gs", q⟩
end
theorem good_take {ws : List Cm.Wd} (g : Good ws) (i : Nat) : Good (ws.take i) := fun x hx => g x (List.mem_of_mem_take hx)
theorem run_take {ws : List Cm.Wd} {i : Nat} {x : Cm.Wd} (h : ws[i]? = some x) : wrun (0, []) (ws.take (i + 1)) = wstep (wrun (0, []) (ws.take i)) x := by
  rw [List.take_add_one, h, wrun_append]; rfl
theorem map_at {us : List Int} {p : Nat} (h : p < us.length) : atI (us.map DV.int) (p : Int) = some (.int (us.getD p 0)) := by
  refine atI_nat ?_
  rw [List.getElem?_map, List.getElem?_eq_getElem h, List.getD_eq_getElem?_getD, List.getElem?_eq_getElem h]; rfl
def iF (f : Int → Int) : DV → Option DV
  | .int i => some (.int (f i))
  | _ => none
theorem iF_map (f : Int → Int) : ∀ is : List Int, (is.map DV.int).filterMap (iF f) = (is.map f).map .int
  | [] => rfl
  | i :: r => by
    show (DV.int i :: r.map DV.int).filterMap (iF f) = _
    rw [List.filterMap_cons_some (show iF f (.int i) = some (.int (f i)) from rfl), iF_map f r]; rfl
theorem le12 {x : Cm.Wd} (h : (pk x).length ≤ 12) : ((pk x).map fun p : Nat => DV.int (p : Int)).length ≤ 1000000 := by rw [List.length_map]; omega
theorem pk_ints (x : Cm.Wd) : ((pk x).map fun p : Nat => DV.int (p : Int)) = ((pk x).map fun p : Nat => (p : Int)).map .int := by rw [List.map_map]; rfl
section
variable {P : Program} {w : World} {K : Frag} {mg : Str → Option Value} {base : Heap}
def SP_wm : DSp := fun ds G R => ∃ ws, ds = [eRow ws] ∧ Good ws ∧ ws.length ≤ 20 ∧ R (.tup [.int ((wmap ws).1 : Int), .tup ((wmap ws).2.map .int)]) G
abbrev N_p_whole_map : List Str := ["row", "need", "things", "word", "n", "picks", "taken", "pick", "thing"]
abbrev A_p_whole_map : List Str := ["row"]
theorem sc_p_whole_map : FnScope N_p_whole_map A_p_whole_map (defScope s_p_whole_map) := ⟨rfl, rfl, rfl, by decide +kernel, rfl, by decide +kernel, by decide +kernel⟩
theorem h_p_whole_map (a : At K mg "whole_map" s_p_whole_map A_p_whole_map) (B : BI mg) (c_p_is_shuffle_row : Has P w K mg base 2 "is_shuffle_row" A_p_is_shuffle_row SP_isr) (c_p_taken_left : Has P w K mg base 2 "taken_left" A_p_taken_left SP_tkS) : Has P w K mg base 3 "whole_map" A_p_whole_map SP_wm := by
  refine at_mk a sc_p_whole_map fun f cdv A outer s H E hr ds G R hl h => ?_
  refine ⟨_, (dss_cons (ds_if (dt_not (dt_e (de_call c_p_is_shuffle_row (hr.mono (by omega)) rfl (da_cons (dv 0) da_nil)))) dss_never dss_nil)
    (dss_cons (ds_set (i := 1) sc_p_whole_map.nd rfl (.inr rfl) de_int)
    (dss_cons (ds_set (i := 2) sc_p_whole_map.nd rfl (.inl rfl) (de_lst da_nil))
    (dss_cons (ds_for PassesOwn.never rfl (di_tup (dv 0)) (dg_name (i := 3) sc_p_whole_map.nd rfl (.inl rfl)) (dss_cons (ds_asg (de_call c_p_taken_left (hr.mono (by omega)) rfl (da_cons (dv 3) da_nil)) (dg_tup rfl (dgs_cons (dg_name (i := 4) sc_p_whole_map.nd rfl (.inl rfl)) (dgs_cons (dg_name (i := 5) sc_p_whole_map.nd rfl (.inl rfl)) dgs_nil))))
      (dss_cons (ds_while PassesOwn.never (dt_cmp od_lt (de_callB cd_len B.len rfl (by decide +kernel) (da_cons (dv 2) da_nil)) (dv 4) (nomark _)) (dss_cons (ds_expr (de_bm PySem.F.plainAttrs_list PySem.F.slot_list_insert PySem.F.type_list_insert md_insert (dv 2) (da_cons de_int (da_cons (dv 1) da_nil))))
        (dss_one (ds_augI (i := 1) sc_p_whole_map.nd rfl (.inr rfl) de_int))))
      (dss_cons (ds_set (i := 6) sc_p_whole_map.nd rfl (.inr rfl) (de_slice (dv 2) (do_some (de_op od_sub (de_callB cd_len B.len rfl (by decide +kernel) (da_cons (dv 2) da_nil)) (dv 4))) do_none))
      (dss_one (ds_asg (de_lc (own := [("pick", 7)]) (lt1 (i := 7) (by decide)) rfl sc_p_whole_map.nd (di_tup (dv 5)) (blkOk_by (own := [("pick", 7)]) (N := N_p_whole_map) (sc := defScope s_p_whole_map) (by decide +kernel)) (fun _ _ _ _ _ => pg_name (i := 7) sc_p_whole_map.nd rfl (Or.inl rfl)) (fun _ _ _ _ _ => dts_nil) (fun _ _ _ _ _ => (de_ix (dv 6) (dv 7)))) (dg_tail (dv 2) (de_op od_sub (de_callB cd_len B.len rfl (by decide +kernel) (da_cons (dv 2) da_nil)) (dv 4)))))))))
    (dss_one (ds_ret (de_tup (da_cons (dv 1) (da_cons (de_callTy cd_tuple B.tup rfl (by decide +kernel) (da_cons (de_lc (own := [("thing", 8)]) (lt1 (i := 8) (by decide)) rfl sc_p_whole_map.nd (di_list (dv 2)) (blkOk_by (own := [("thing", 8)]) (N := N_p_whole_map) (sc := defScope s_p_whole_map) (by decide +kernel)) (fun _ _ _ _ _ => pg_name (i := 8) sc_p_whole_map.nd rfl (Or.inl rfl)) (fun _ _ _ _ _ => dts_nil) (fun _ _ _ _ _ => (de_op od_sub (de_op od_sub (dv 1) de_int) (dv 8)))) da_nil)) da_nil))))))))), ?_⟩
  obtain ⟨ws, rfl, gd, lw, q⟩ := h
  walk_at "dd"
  refine ⟨ws, rfl, gd, by omega, ?_⟩
  walk_at "dd"
  intro p np
  refine abs_new np fun G1 s1 h1 => ?_
  walk_at "dd"
  refine for_by (fun i δ G' => ∃ (x3 x4 x5 x6 : Option DV), δ = [some (eRow ws), some (.int ((wrun (0, []) (ws.take i)).1 : Int)), some (.ref p), x3, x4, x5, x6, none, none] ∧ Sub G G' ∧ G' p = some (.lst ((wrun (0, []) (ws.take i)).2.map .int))) (fun _ _ _ _ => trivial) ⟨_, _, _, _, rfl, s1, h1⟩ ?_ ?_
  · clear h1 s1
    rintro i dd δ G2 hdd ⟨x3, x4, x5, x6, rfl, s2, h2⟩
    rw [List.getElem?_map] at hdd
    obtain ⟨x, hx, rfl⟩ := Option.map_eq_some_iff.mp hdd
    have gx := gd x (List.mem_of_getElem? hx)
    have sx := sh_of gx
    have li : i < ws.length := (List.getElem?_eq_some_iff.mp hx).1
    have hs := stt0.run (good_take gd i)
    rw [Nat.zero_add, List.length_take, Nat.min_eq_left (Nat.le_of_lt li)] at hs
    rw [run_take hx]
    generalize wrun (0, []) (ws.take i) = st at h2 hs
    have b1 := hs.need
    have b2 := hs.len
    have n8 := gx.n8
    walk_at "dd"
    refine ⟨x.1, pk x, rfl, sx, ?_⟩
    walk_at "dd"
    refine w_while (fun m δ G3 => ∃ d : Nat, m = x.1 - (st.2.length + d) ∧ d ≤ x.1 - st.2.length ∧ δ = [some (eRow ws), some (.int ((st.1 + d : Nat) : Int)), some (.ref p), some (eX x), some (.int (x.1 : Int)), some (.tup ((pk x).map fun p : Nat => .int (p : Int))), x6, none, none] ∧ Sub G G3 ∧ G3 p = some (.lst ((up st.1 d st.2).map .int))) _ ⟨0, rfl, Nat.zero_le _, rfl, s2, h2⟩ ?_
    rintro m δ G3 ⟨d, rfl, hd, rfl, s3, h3⟩
    have ul := up_len st.1 d st.2
    walk_at "dd"
    rw [List.length_map, ul]
    refine w_iteD (fun hc => ?_) (fun hc => ?_)
    · walk_at "dd"
      refine w_insert (i := 0) h3 (by rw [List.length_map, ul]; omega) (by decide) ?_
      refine abs_upd h3 fun G4 u4 h4 => ?_
      walk_at "dd"
      refine w_augI rfl ?_
      walk_at "dd"
      exact ⟨x.1 - (st.2.length + (d + 1)), by omega, d + 1, rfl, by omega, rfl, sub_up u4 s3 np, h4⟩
    · obtain rfl : d = x.1 - st.2.length := by omega
      walk_at "dd"
      rw [List.length_map, ul]
      rw [show ((st.2.length + (x.1 - st.2.length) : Nat) : Int) - (x.1 : Int) = ((st.2.length + (x.1 - st.2.length) - x.1 : Nat) : Int) by omega]
      refine w_slL h3 fun q1 nq => ?_
      refine abs_new nq fun G4 s4 h4 => ?_
      rw [cutD_from, ← List.map_drop] at h4
      have h3' := s4 _ _ h3
      show dLc _ _ _ _ _ _ _ _
      walk_at "dd"
      generalize hus : up st.1 (x.1 - st.2.length) st.2 = us at h3 h3' h4 ul
      refine lcs_pure (iF fun j => (us.drop (st.2.length + (x.1 - st.2.length) - x.1)).getD j.toNat 0) (fun _ _ => trivial) (le12 (pk_len gx)) ?_ ?_
      · intro y hy G' k1 k0 s' e1 e0
        obtain ⟨j, hj, rfl⟩ := List.mem_map.mp hy
        have lj := pk_lt gx hj
        walk_at "dd"
        refine w_ixL (s' _ _ h4) (map_at (by rw [List.length_drop, ul]; omega)) ?_
        exact e1 _ rfl
      intro q2 G5 nq2 s5 h5
      rw [pk_ints, iF_map, List.map_map] at h5
      have h3'' := s5 _ _ h3'
      refine w_tl ?_
      walk_at "dd"
      rw [List.length_map, ul]
      have ne : p ≠ q2 := fun z => by rw [z, nq2] at h3'; cases h3'
      refine ⟨p, q2, st.2.length + (x.1 - st.2.length) - x.1, _, _, rfl, rfl, congrArg DV.int (by omega), h3'', h5, ne, by rw [List.length_map, ul]; omega, mid (by rw [List.length_map, List.length_map, List.length_map, ul]; have := pk_len gx; omega), ?_⟩
      refine abs_upd h3'' fun G6 u6 h6 => ?_
      walk_at "dd"
      refine ⟨_, _, _, _, rfl, sub_up u6 (s3.trans (s4.trans s5)) np, ?_⟩
      rw [h6]
      show some (DO.lst _) = some (DO.lst ((left x.1 (pk x) (up st.1 (x.1 - st.2.length) st.2)).map .int))
      unfold left
      rw [hus, ul, List.map_append, List.map_take, List.map_map, List.map_map]
      rfl
  · rintro δ G2 ⟨x3, x4, x5, x6, rfl, s2, h2⟩
    rw [List.length_map, List.take_length] at h2
    rw [List.length_map, List.take_length]
    have hs := stt0.run gd
    rw [Nat.zero_add] at hs
    walk_at "dd"
    refine lcs_pure (iF fun t => ((wrun (0, []) ws).1 : Int) - 1 - t) (fun G' s' => .inl (s' _ _ h2)) (by rw [List.length_map]; have := hs.len; omega) ?_ ?_
    · intro y hy G' k1 k0 s' e1 e0
      obtain ⟨t, ht, rfl⟩ := List.mem_map.mp hy
      walk_at "dd"
      exact e1 _ rfl
    intro q2 G5 nq2 s5 h5
    rw [iF_map] at h5
    walk_at "dd"
    exact ⟨G, s2.trans s5, q⟩
end
theorem cut_ex (ps : List Int) : ∃ c, IsCut ps c := by
  have go : ∀ (m c : Nat), m = ps.length - c → (∀ j, j < c → Stays ps j) → ∃ d, IsCut ps d := by
    intro m
    induction m with
    | zero =>
      intro c e h
      exact ⟨c, h, fun s => by have := s.lt; omega⟩
    | succ m ih =>
      intro c e h
      by_cases s : Stays ps c
      · refine ih (c + 1) (by omega) fun j hj => ?_
        rcases Nat.lt_succ_iff_lt_or_eq.mp hj with h' | rfl
        · exact h j h'
        · exact s
      · exact ⟨c, h, s⟩
  exact go _ 0 rfl fun j h => absurd h (Nat.not_lt_zero j)
noncomputable def cutC (ps : List Int) : Nat := Classical.choose (cut_ex ps)
theorem cutC_is (ps : List Int) : IsCut ps (cutC ps) := Classical.choose_spec (cut_ex ps)
/-- the least map -/
noncomputable def lmO (n : Int) (ps : List Int) : MK := (n - (cutC ps : Int), cutM (cutC ps) ps)
noncomputable def mapP (ws : List Cm.Wd) : MK := lmO ((wmap ws).1 : Int) (wmap ws).2
theorem flat_ints : ∀ l : List Int, (l.map DV.int).all flatD = true
  | [] => rfl
  | i :: r => by show (true && _) = true; rw [flat_ints r]; rfl
theorem eqV_int (i j : Int) : eqV (.int i) (.int j) = decide (i = j) := by first | rfl | (unfold eqV; rfl) | simp [eqV]
theorem in_ints (i : Int) : ∀ l : List Int, inD (.int i) (l.map DV.int) = decide (i ∈ l)
  | [] => by first | rfl | simp [inD, inV]
  | j :: r => by
    have ih := in_ints i r
    by_cases h : i = j
    · subst h
      rw [decide_eq_true (List.mem_cons_self ..)]
      simp [inD, inV, toV, eqV_int]
    · have e : decide (i ∈ j :: r) = decide (i ∈ r) := decide_eq_decide.mpr ⟨fun m => by rcases List.mem_cons.mp m with z | z; exact absurd z h; exact z, List.mem_cons_of_mem _⟩
      rw [e, ← ih]
      have h' : ¬ j = i := fun z => h z.symm
      simp [inD, inV, toV, eqV_int, h']
section
variable {P : Program} {w : World} {K : Frag} {mg : Str → Option Value} {base : Heap}
def SP_lm : DSp := fun ds G R => ∃ (n : Int) (ps : List Int), ds = [.int n, .tup (ps.map .int)] ∧ ps.length ≤ 10000 ∧ n.natAbs ≤ 10000 ∧ R (mkD (lmO n ps)) G
abbrev N_p_least_map : List Str := ["n", "picks", "cut", "pick"]
abbrev A_p_least_map : List Str := ["n", "picks"]
theorem sc_p_least_map : FnScope N_p_least_map A_p_least_map (defScope s_p_least_map) := ⟨rfl, rfl, rfl, by decide +kernel, rfl, by decide +kernel, by decide +kernel⟩
theorem h_p_least_map (a : At K mg "least_map" s_p_least_map A_p_least_map) (B : BI mg) : Has P w K mg base 1 "least_map" A_p_least_map SP_lm := by
  refine at_mk a sc_p_least_map fun f cdv A outer s H E hr ds G R hl h => ?_
  refine ⟨_, (dss_cons (ds_set (i := 2) sc_p_least_map.nd rfl (.inr rfl) de_int)
    (dss_cons (ds_while PassesOwn.never (dt_w (dw_and (dt_cmp od_lt (dv 2) (de_callB cd_len B.len rfl (by decide +kernel) (da_cons (dv 1) da_nil)) (nomark _)) (dw_and (dt_cmp (od_eq hr.units) (de_ix (dv 1) (dv 2)) (dv 2) (nomark _)) (dw_and1 (dt_cmp od_notin (dv 2) (de_slice (dv 1) (do_some (de_op od_add (dv 2) de_int)) do_none) rfl))))) (dss_one (ds_augI (i := 2) sc_p_least_map.nd rfl (.inr rfl) de_int)))
    (dss_one (ds_ret (de_tup (da_cons (de_op od_sub (dv 0) (dv 2)) (da_cons (de_callTy cd_tuple B.tup rfl (by decide +kernel) (da_cons (de_lc (own := [("pick", 3)]) (lt1 (i := 3) (by decide)) rfl sc_p_least_map.nd (di_tup (de_slice (dv 1) (do_some (dv 2)) do_none)) (blkOk_by (own := [("pick", 3)]) (N := N_p_least_map) (sc := defScope s_p_least_map) (by decide +kernel)) (fun _ _ _ _ _ => pg_name (i := 3) sc_p_least_map.nd rfl (Or.inl rfl)) (fun _ _ _ _ _ => dts_nil) (fun _ _ _ _ _ => (de_op od_sub (dv 3) (dv 2)))) da_nil)) da_nil))))))), ?_⟩
  obtain ⟨n, ps, rfl, lp, ln, q⟩ := h
  walk_at "dd"
  refine w_while (fun m δ G' => ∃ c : Nat, m = ps.length - c ∧ c ≤ ps.length ∧ δ = [some (.int n), some (.tup (ps.map .int)), some (.int (c : Int)), none] ∧ G' = G ∧ ∀ j, j < c → Stays ps j) _ ⟨0, rfl, Nat.zero_le _, rfl, rfl, fun j h => absurd h (Nat.not_lt_zero j)⟩ ?_
  rintro m δ G' ⟨c, rfl, hc, rfl, rfl, hst⟩
  have fin : ¬ Stays ps c → R (.tup [.int (n - (c : Int)), .tup ((cutM c ps).map .int)]) G' := fun hn => by
    obtain rfl : c = cutC ps := IsCut.uniq ⟨hst, hn⟩ (cutC_is ps)
    exact q
  have tail : ¬ Stays ps c → dRet (dTup (dCons (dOp bSub (dVar 0) (dVar 2)) (dCons (dCB bTuple (dCons (dLc (dITup (dSl (dVar 1) (dSome (dVar 2)) dNone)) (l1 3) dYes (dOp bSub (dVar 3) (dVar 2)) (List.map (fun x => x.snd) [(("pick" : Str), 3)])) dNil)) dNil))) { nx := fun x G => Less R DV.non G, rt := Less R } [some (.int n), some (.tup (ps.map .int)), some (.int (c : Int)), none] G' := fun hn => by
    have fin := fin hn
    walk_at "dd"
    rw [cutD_from]
    refine lcs_pure (iF fun t => t - (c : Int)) (fun _ _ => trivial) (by rw [List.length_drop, List.length_map]; omega) ?_ ?_
    · intro y hy G2 k1 k0 s' e1 e0
      rw [← List.map_drop] at hy
      obtain ⟨t, ht, rfl⟩ := List.mem_map.mp hy
      walk_at "dd"
      exact e1 _ rfl
    intro q2 G5 nq2 s5 h5
    rw [← List.map_drop, iF_map] at h5
    walk_at "dd"
    exact ⟨G', s5, fin⟩
  walk_at "dd"
  rw [List.length_map]
  refine w_iteD (fun h1 => ?_) (fun h1 => ?_)
  · have lc : c < ps.length := by omega
    walk_at "dd"
    obtain ⟨t, ht⟩ : ∃ t, ps[c]? = some t := ⟨_, List.getElem?_eq_getElem lc⟩
    refine ⟨.int t, atI_nat (by rw [List.getElem?_map, ht]; rfl), ?_⟩
    walk_at "dd"
    refine w_iteD (fun h2 => ?_) (fun h2 => ?_)
    · subst h2
      walk_at "dd"
      rw [show ((c : Int)) + 1 = ((c + 1 : Nat) : Int) from rfl, cutD_from, ← List.map_drop]
      refine ⟨rfl, flat_ints _, ?_⟩
      rw [in_ints]
      walk_at "dd"
      show if (!decide ((c : Int) ∈ ps.drop (c + 1))) = true then _ else _
      refine w_iteN (fun h3 => ?_) (fun h3 => ?_)
      · refine ⟨_, rfl, ?_⟩
        walk_at "dd"
        refine ⟨ps.length - (c + 1), by omega, c + 1, rfl, by omega, rfl, rfl, fun j hj => ?_⟩
        rcases Nat.lt_succ_iff_lt_or_eq.mp hj with h' | rfl
        · exact hst j h'
        · exact ⟨ht, h3⟩
      · exact tail fun s => s.2 h3
    · exact tail fun s => h2 (by have := s.1; rw [ht] at this; exact Option.some.inj this)
  · exact tail fun s => h1 (by have := s.lt; omega)
end
section
variable {P : Program} {w : World} {K : Frag} {mg : Str → Option Value} {base : Heap}
def SP_mo : DSp := fun ds G R => ∃ ws, ds = [eRow ws] ∧ Good ws ∧ ws.length ≤ 20 ∧ R (mkD (mapP ws)) G
def SP_lrd : DSp := fun ds G R => ∃ n ps, ds = [.str (shT n ps)] ∧ ShOk n ps ∧ ∀ q G1, G q = none → Sub G G1 → G1 q = some (.lst (ps.map fun p : Nat => .int (p : Int))) → R (.tup [.int (n : Int), .ref q]) G1
abbrev N_p_map_of : List Str := ["row", "n", "picks"]
abbrev A_p_map_of : List Str := ["row"]
theorem sc_p_map_of : FnScope N_p_map_of A_p_map_of (defScope s_p_map_of) := ⟨rfl, rfl, rfl, by decide +kernel, rfl, by decide +kernel, by decide +kernel⟩
theorem h_p_map_of (a : At K mg "map_of" s_p_map_of A_p_map_of) (B : BI mg) (c_p_whole_map : Has P w K mg base 3 "whole_map" A_p_whole_map SP_wm) (c_p_least_map : Has P w K mg base 1 "least_map" A_p_least_map SP_lm) : Has P w K mg base 4 "map_of" A_p_map_of SP_mo := by
  refine at_mk a sc_p_map_of fun f cdv A outer s H E hr ds G R hl h => ?_
  refine ⟨_, (dss_cons (ds_asg (de_call c_p_whole_map (hr.mono (by omega)) rfl (da_cons (dv 0) da_nil)) (dg_tup rfl (dgs_cons (dg_name (i := 1) sc_p_map_of.nd rfl (.inl rfl)) (dgs_cons (dg_name (i := 2) sc_p_map_of.nd rfl (.inl rfl)) dgs_nil))))
    (dss_one (ds_ret (de_call c_p_least_map (hr.mono (by omega)) rfl (da_cons (dv 1) (da_cons (dv 2) da_nil)))))), ?_⟩
  obtain ⟨ws, rfl, gd, lw, q⟩ := h
  have ok := wmap_ok gd
  walk_at "dd"
  refine ⟨ws, rfl, gd, lw, ?_⟩
  walk_at "dd"
  exact ⟨_, _, rfl, by omega, by omega, G, Sub.refl _, q⟩
abbrev N_L_read : List Str := ["_law_word", "_law_taken", "_law_left", "_law_letter"]
abbrev A_L_read : List Str := ["_law_word"]
theorem sc_L_read : FnScope N_L_read A_L_read (defScope s_L_read) := ⟨rfl, rfl, rfl, by decide +kernel, rfl, by decide +kernel, by decide +kernel⟩
theorem h_L_read (a : At K mg "_law_read" s_L_read A_L_read) (B : BI mg) : Has P w K mg base 1 "_law_read" A_L_read SP_lrd := by
  refine at_mk a sc_L_read fun f cdv A outer s H E hr ds G R hl h => ?_
  refine ⟨_, (dss_cons (ds_asg (de_bm PySem.F.plainAttrs_str PySem.F.slot_str_split PySem.F.type_str_split md_split (dv 0) (da_cons de_str da_nil)) (dg_lst rfl (dgs_cons (dg_name (i := 1) sc_L_read.nd rfl (.inl rfl)) (dgs_cons (dg_name (i := 2) sc_L_read.nd rfl (.inl rfl)) dgs_nil))))
    (dss_one (ds_ret (de_tup (da_cons (de_callB cd_len B.len rfl (by decide +kernel) (da_cons (dv 1) da_nil)) (da_cons (de_lc (own := [("_law_letter", 3)]) (lt1 (i := 3) (by decide)) rfl sc_L_read.nd (di_str (dv 2)) (blkOk_by (own := [("_law_letter", 3)]) (N := N_L_read) (sc := defScope s_L_read) (by decide +kernel)) (fun _ _ _ _ _ => pg_name (i := 3) sc_L_read.nd rfl (Or.inl rfl)) (fun _ _ _ _ _ => dts_nil) (fun _ _ _ _ _ => (de_bm PySem.F.plainAttrs_str PySem.F.slot_str_index PySem.F.type_str_index md_sindex de_str (da_cons (dv 3) da_nil)))) da_nil)))))), ?_⟩
  obtain ⟨n, ps, rfl, hs, q⟩ := h
  walk_at "dd"
  refine w_split rfl (mid (by have := sh_len hs; omega)) ?_
  rw [sh_split]
  intro p np
  refine abs_new np fun G1 s1 h1 => ?_
  have h1 : G1 p = some (.lst [.str (S (shL n)), .str (S (shP ps))]) := h1
  refine g_L h1 ?_
  walk_at "dd"
  have ln : (S (shL n)).length = n := by rw [S_len]; unfold shL; rw [List.length_map, List.length_range]
  refine w_lenS (z := S (shL n)) (mid (by rw [ln]; have := hs.hn; omega)) ?_
  walk_at "dd"
  rw [signs_S]
  refine lcs_pure (fun d => some (.int ((signD d - 97 : Nat) : Int))) (fun _ _ => trivial) (by rw [List.length_map, shP, List.length_map]; have := hs.hl; omega) ?_ ?_
  · intro d hd G' k1 k0 _ e1 e0
    obtain ⟨c', hc', rfl⟩ := List.mem_map.mp hd
    obtain ⟨p, hp, rfl⟩ := List.mem_map.mp hc'
    walk_at "dd"
    refine w_sindex (sh_index p (Nat.lt_of_lt_of_le (hs.hp p hp) hs.hn)) ?_
    refine e1 _ ?_
    show some (DV.int (((97 + p) - 97 : Nat) : Int)) = some (DV.int ((p : Nat) : Int))
    rw [Nat.add_sub_cancel_left]
  · intro p2 G2 np2 s2 hp2
    have e : ((shP ps).map fun c => DV.str ⟨#[c]⟩).filterMap (fun d => some (DV.int ((signD d - 97 : Nat) : Int))) = ps.map fun p : Nat => DV.int (p : Int) := by
      rw [fm_signs (fun c => DV.int ((c - 97 : Nat) : Int)), shP, List.map_map]
      refine List.map_congr_left fun p _ => ?_
      show DV.int (((97 + p) - 97 : Nat) : Int) = DV.int ((p : Nat) : Int)
      rw [Nat.add_sub_cancel_left]
    rw [e] at hp2
    walk_at "dd"
    rw [ln]
    exact Less.of (q p2 G2 (by walk_at "g0") (by walk_at "gs") hp2)
end
/-- a thing under the law's number -/
def nf (t : Int) : Int := -1 - t
def nfl (us : List Int) : List DV := (us.map nf).map .int
theorem nfl_len (us : List Int) : (nfl us).length = us.length := by unfold nfl; rw [List.length_map, List.length_map]
theorem nfl_drop (us : List Int) (n : Nat) : (nfl us).drop n = nfl (us.drop n) := by unfold nfl; rw [← List.map_drop, ← List.map_drop]
theorem nfl_take (us : List Int) (n : Nat) : (nfl us).take n = nfl (us.take n) := by unfold nfl; rw [← List.map_take, ← List.map_take]
theorem nfl_at {us : List Int} {p : Nat} (h : p < us.length) : atI (nfl us) (p : Int) = some (.int (nf (us.getD p 0))) := by
  refine atI_nat ?_
  unfold nfl
  rw [List.getElem?_map, List.getElem?_map, List.getElem?_eq_getElem h, List.getD_eq_getElem?_getD, List.getElem?_eq_getElem h]; rfl
section
variable {P : Program} {w : World} {K : Frag} {mg : Str → Option Value} {base : Heap}
def SP_lwh : DSp := fun ds G R => ∃ ws, ds = [eRow ws] ∧ Good ws ∧ ws.length ≤ 20 ∧ ∀ q G1, G q = none → Sub G G1 → G1 q = some (.ptp ((wmap ws).2.map .int)) → R (.tup [.int ((wmap ws).1 : Int), .ref q]) G1
abbrev N_L_whole : List Str := ["_law_row", "_law_stack", "_law_gone", "_law_word", "_law_many", "_law_left", "_law_top", "_law_k", "_law_thing"]
abbrev A_L_whole : List Str := ["_law_row"]
theorem sc_L_whole : FnScope N_L_whole A_L_whole (defScope s_L_whole) := ⟨rfl, rfl, rfl, by decide +kernel, rfl, by decide +kernel, by decide +kernel⟩
theorem h_L_whole (a : At K mg "_law_whole" s_L_whole A_L_whole) (B : BI mg) (c_L_read : Has P w K mg base 1 "_law_read" A_L_read SP_lrd) : Has P w K mg base 2 "_law_whole" A_L_whole SP_lwh := by
  refine at_mk a sc_L_whole fun f cdv A outer s H E hr ds G R hl h => ?_
  refine ⟨_, (dss_cons (ds_set (i := 1) sc_L_whole.nd rfl (.inl rfl) (de_lst da_nil))
    (dss_cons (ds_set (i := 2) sc_L_whole.nd rfl (.inr rfl) de_int)
    (dss_cons (ds_for PassesOwn.never rfl (di_tup (dv 0)) (dg_name (i := 3) sc_L_whole.nd rfl (.inl rfl)) (dss_cons (ds_asg (de_call c_L_read (hr.mono (by omega)) rfl (da_cons (dv 3) da_nil)) (dg_tup rfl (dgs_cons (dg_name (i := 4) sc_L_whole.nd rfl (.inl rfl)) (dgs_cons (dg_name (i := 5) sc_L_whole.nd rfl (.inl rfl)) dgs_nil))))
      (dss_cons (ds_while PassesOwn.never (dt_cmp od_lt (de_callB cd_len B.len rfl (by decide +kernel) (da_cons (dv 1) da_nil)) (dv 4) (nomark _)) (dss_cons (ds_set (i := 2) sc_L_whole.nd rfl (.inr rfl) (de_op od_add (dv 2) de_int))
        (dss_one (ds_expr (de_bm PySem.F.plainAttrs_list PySem.F.slot_list_insert PySem.F.type_list_insert md_insert (dv 1) (da_cons de_int (da_cons (de_op od_sub de_int (dv 2)) da_nil)))))))
      (dss_cons (ds_set (i := 6) sc_L_whole.nd rfl (.inr rfl) (de_slice (dv 1) (do_some (de_op od_sub (de_callB cd_len B.len rfl (by decide +kernel) (da_cons (dv 1) da_nil)) (dv 4))) do_none))
      (dss_one (ds_set (i := 1) sc_L_whole.nd rfl (.inl rfl) (de_op od_add (de_slice (dv 1) do_none (do_some (de_op od_sub (de_callB cd_len B.len rfl (by decide +kernel) (da_cons (dv 1) da_nil)) (dv 4)))) (de_lc (own := [("_law_k", 7)]) (lt1 (i := 7) (by decide)) rfl sc_L_whole.nd (di_list (dv 5)) (blkOk_by (own := [("_law_k", 7)]) (N := N_L_whole) (sc := defScope s_L_whole) (by decide +kernel)) (fun _ _ _ _ _ => pg_name (i := 7) sc_L_whole.nd rfl (Or.inl rfl)) (fun _ _ _ _ _ => dts_nil) (fun _ _ _ _ _ => (de_ix (dv 6) (dv 7)))))))))))
    (dss_one (ds_ret (de_tup (da_cons (dv 2) (da_cons (de_callTy cd_tupP B.tup rfl (by decide +kernel) (da_cons (de_lc (own := [("_law_thing", 8)]) (lt1 (i := 8) (by decide)) rfl sc_L_whole.nd (di_list (dv 1)) (blkOk_by (own := [("_law_thing", 8)]) (N := N_L_whole) (sc := defScope s_L_whole) (by decide +kernel)) (fun _ _ _ _ _ => pg_name (i := 8) sc_L_whole.nd rfl (Or.inl rfl)) (fun _ _ _ _ _ => dts_nil) (fun _ _ _ _ _ => (de_op od_add (dv 2) (dv 8)))) da_nil)) da_nil)))))))), ?_⟩
  obtain ⟨ws, rfl, gd, lw, q⟩ := h
  walk_at "dd"
  intro p np
  refine abs_new np fun G1 s1 h1 => ?_
  walk_at "dd"
  refine for_by (fun i δ G' => ∃ (p : Addr) (x3 x4 x5 x6 : Option DV), δ = [some (eRow ws), some (.ref p), some (.int ((wrun (0, []) (ws.take i)).1 : Int)), x3, x4, x5, x6, none, none] ∧ G p = none ∧ Sub G G' ∧ G' p = some (.lst (nfl (wrun (0, []) (ws.take i)).2))) (fun _ _ _ _ => trivial) ⟨p, _, _, _, _, rfl, np, s1, h1⟩ ?_ ?_
  · clear h1 s1 np p
    rintro i dd δ G2 hdd ⟨p, x3, x4, x5, x6, rfl, np, s2, h2⟩
    rw [List.getElem?_map] at hdd
    obtain ⟨x, hx, rfl⟩ := Option.map_eq_some_iff.mp hdd
    have gx := gd x (List.mem_of_getElem? hx)
    have sx := sh_of gx
    have li : i < ws.length := (List.getElem?_eq_some_iff.mp hx).1
    have hs := stt0.run (good_take gd i)
    rw [Nat.zero_add, List.length_take, Nat.min_eq_left (Nat.le_of_lt li)] at hs
    rw [run_take hx]
    generalize wrun (0, []) (ws.take i) = st at h2 hs
    have b1 := hs.need
    have b2 := hs.len
    have n8 := gx.n8
    walk_at "dd"
    refine ⟨x.1, pk x, rfl, sx, ?_⟩
    intro ql G3 nl s3 hql
    have h3 := s3 _ _ h2
    have npl : p ≠ ql := fun z => by rw [← z, h2] at nl; cases nl
    have s23 : Sub G G3 := s2.trans s3
    clear h2
    walk_at "dd"
    refine w_while (fun m δ G4 => ∃ d : Nat, m = x.1 - (st.2.length + d) ∧ d ≤ x.1 - st.2.length ∧ δ = [some (eRow ws), some (.ref p), some (.int ((st.1 + d : Nat) : Int)), some (eX x), some (.int (x.1 : Int)), some (.ref ql), x6, none, none] ∧ Sub G G4 ∧ G4 p = some (.lst (nfl (up st.1 d st.2))) ∧ G4 ql = some (.lst ((pk x).map fun p : Nat => .int (p : Int)))) _ ⟨0, rfl, Nat.zero_le _, rfl, s23, h3, hql⟩ ?_
    rintro m δ G4 ⟨d, rfl, hd, rfl, s4, h4, hq4⟩
    have ul := up_len st.1 d st.2
    walk_at "dd"
    rw [nfl_len, ul]
    refine w_iteD (fun hc => ?_) (fun hc => ?_)
    · walk_at "dd"
      refine w_insert (i := 0) h4 (by rw [nfl_len, ul]; omega) (by decide) ?_
      refine abs_upd h4 fun G5 u5 h5 => ?_
      walk_at "dd"
      refine ⟨x.1 - (st.2.length + (d + 1)), by omega, d + 1, rfl, by omega, rfl, sub_up u5 s4 np, ?_, upd_get u5 hq4 npl.symm⟩
      rw [h5]
      show some (DO.lst (.int (0 - (((st.1 + d : Nat) : Int) + 1)) :: nfl (up st.1 d st.2))) = some (DO.lst (.int (nf ((st.1 + d : Nat) : Int)) :: nfl (up st.1 d st.2)))
      rw [show 0 - (((st.1 + d : Nat) : Int) + 1) = nf ((st.1 + d : Nat) : Int) by unfold nf; omega]
    · obtain rfl : d = x.1 - st.2.length := by omega
      walk_at "dd"
      rw [nfl_len, ul]
      rw [show ((st.2.length + (x.1 - st.2.length) : Nat) : Int) - (x.1 : Int) = ((st.2.length + (x.1 - st.2.length) - x.1 : Nat) : Int) by omega]
      refine w_slL h4 fun q1 nq => ?_
      refine abs_new nq fun G5 s5 h5 => ?_
      rw [cutD_from, nfl_drop] at h5
      have h4' := s5 _ _ h4
      have hq5 := s5 _ _ hq4
      walk_at "dd"
      rw [nfl_len, ul]
      rw [show ((st.2.length + (x.1 - st.2.length) : Nat) : Int) - (x.1 : Int) = ((st.2.length + (x.1 - st.2.length) - x.1 : Nat) : Int) by omega]
      refine w_slL h4' fun q2 nq2 => ?_
      refine abs_new nq2 fun G6 s6 h6 => ?_
      rw [cutD_to, nfl_take] at h6
      have h5' := s6 _ _ h5
      have hq6 := s6 _ _ hq5
      walk_at "dd"
      generalize hus : up st.1 (x.1 - st.2.length) st.2 = us at h4 h4' h5 h5' h6 ul
      refine lcs_pure (iF fun j => nf ((us.drop (st.2.length + (x.1 - st.2.length) - x.1)).getD j.toNat 0)) (fun G' s' => .inl (s' _ _ hq6)) (le12 (pk_len gx)) ?_ ?_
      · intro y hy G' k1 k0 s' e1 e0
        obtain ⟨j, hj, rfl⟩ := List.mem_map.mp hy
        have lj := pk_lt gx hj
        walk_at "dd"
        refine w_ixL (s' _ _ h5') (nfl_at (by rw [List.length_drop, ul]; omega)) ?_
        exact e1 _ rfl
      intro q3 G7 nq3 s7 h7
      rw [pk_ints, iF_map, List.map_map] at h7
      have h6' := s7 _ _ h6
      refine w_addL h6' h7 (mid (by rw [nfl_len, List.length_take, List.length_map, List.length_map, ul]; have := pk_len gx; omega)) fun q4 nq4 => ?_
      refine abs_new nq4 fun G8 s8 h8 => ?_
      walk_at "dd"
      have s48 : Sub G4 G8 := s5.trans (s6.trans (s7.trans s8))
      refine ⟨q4, _, _, _, _, rfl, ?_, s4.trans s48, ?_⟩
      · cases hz : G q4 with
        | none => rfl
        | some z => have := (s4.trans (s5.trans (s6.trans s7))) _ _ hz; rw [nq4] at this; cases this
      rw [h8]
      show some (DO.lst _) = some (DO.lst (nfl (left x.1 (pk x) (up st.1 (x.1 - st.2.length) st.2))))
      unfold left nfl
      rw [hus, ul, List.map_append, List.map_append, List.map_map, List.map_map, List.map_map, List.map_map]
      rfl
  · rintro δ G2 ⟨p, x3, x4, x5, x6, rfl, np, s2, h2⟩
    rw [List.length_map, List.take_length] at h2
    rw [List.length_map, List.take_length]
    have hs := stt0.run gd
    rw [Nat.zero_add] at hs
    walk_at "dd"
    refine lcs_pure (iF fun t => ((wrun (0, []) ws).1 : Int) + t) (fun G' s' => .inl (s' _ _ h2)) (by rw [nfl_len]; have := hs.len; omega) ?_ ?_
    · intro y hy G' k1 k0 s' e1 e0
      obtain ⟨t, ht, rfl⟩ := List.mem_map.mp hy
      walk_at "dd"
      exact e1 _ rfl
    intro q2 G5 nq2 s5 h5
    unfold nfl at h5
    rw [iF_map] at h5
    have e : ((wrun (0, []) ws).2.map nf).map (fun t => ((wrun (0, []) ws).1 : Int) + t) = (wmap ws).2 := by
      rw [List.map_map]
      refine List.map_congr_left fun t _ => ?_
      show _ + nf t = _ - 1 - t
      unfold nf; omega
    rw [e] at h5
    walk_at "dd"
    refine w_tupP h5 fun q3 nq3 => ?_
    refine abs_new nq3 fun G6 s6 h6 => ?_
    walk_at "dd"
    refine Less.of (q q3 G6 ?_ (s2.trans (s5.trans s6)) h6)
    cases hz : G q3 with
    | none => rfl
    | some z => have := (s2.trans s5) _ _ hz; rw [nq3] at this; cases this
end
local macro_rules | `(tactic| walk_at "dx") => `(tactic| repeat (first | walk_at "d1" | ((with_reducible show dVarT _ _ _ _); refine w_varT rfl (by walk_at "gq") ?_)))
local macro_rules | `(tactic| walk_at "dm") => `(tactic| repeat (first | walk_at "d1" | (with_reducible refine w_fldS ?_) | (with_reducible refine w_fld ?_)))
theorem mapP_nil : mapP [] = (0, []) := by
  have e : cutC [] = 0 := IsCut.uniq (cutC_is []) ⟨fun j h => absurd h (Nat.not_lt_zero j), fun s => by have := s.lt; cases this⟩
  show ((0 : Int) - (cutC [] : Int), cutM (cutC []) []) = _
  rw [e]; rfl
/-- rows alike stay alike behind a word more -/
theorem mapP_cong {r r' : List Cm.Wd} {x : Cm.Wd} (g : Good r) (g' : Good r') (gx : Shuf x.1 x.2) (h : mapP r = mapP r') : mapP (r ++ [x]) = mapP (r' ++ [x]) := by
  have ok : ∀ {ws : List Cm.Wd}, Good ws → Okk (wrun (0, []) ws) := fun gd => (stt0.run gd).inn
  have es : ∀ ws : List Cm.Wd, wrun (0, []) (ws ++ [x]) = wstep (wrun (0, []) ws) x := fun ws => by rw [wrun_append]; rfl
  have e1 : ((wrun (0, []) r).1 : Int) - (cutC (pks (wrun (0, []) r)) : Int) = ((wrun (0, []) r').1 : Int) - (cutC (pks (wrun (0, []) r')) : Int) := congrArg Prod.fst h
  have e2 : cutM (cutC (pks (wrun (0, []) r))) (pks (wrun (0, []) r)) = cutM (cutC (pks (wrun (0, []) r'))) (pks (wrun (0, []) r')) := congrArg Prod.snd h
  have q := step_cong (ok g) (ok g') (cutC_is _) (cutC_is _) e1 e2 gx (cutC_is (pks (wstep (wrun (0, []) r) x))) (cutC_is (pks (wstep (wrun (0, []) r') x)))
  rw [← es, ← es] at q
  exact Prod.ext q.1 q.2
structure ClsM (K : Frag) (C : Addr) : Prop where
  c : Cls K C
  few : NoAttr K C "few"
  rows : NoAttr K C "rows"
  longest : NoAttr K C "longest"
def fsM (few : List Cm.Wd) (pd pl : Addr) : List (Str × DV) := [("few", eRow few), ("rows", .ref pd), ("longest", .ref pl)]
abbrev fm1 (few : List Cm.Wd) : List (Str × DV) := [("few", eRow few)]
abbrev fm2 (few : List Cm.Wd) (pd : Addr) : List (Str × DV) := [("few", eRow few), ("rows", .ref pd)]
theorem mput1 (few : List Cm.Wd) : oputO "few" (eRow few) [] = fm1 few := rfl
theorem mput2 (few : List Cm.Wd) (pd : Addr) : oputO "rows" (.ref pd) (fm1 few) = fm2 few pd := by unfold fm1; rw [oputO, if_neg (by decide +kernel)]; rfl
theorem mput3 (few : List Cm.Wd) (pd pl : Addr) : oputO "longest" (.ref pl) (fm2 few pd) = fsM few pd pl := by unfold fm2; rw [oputO, if_neg (by decide +kernel), oputO, if_neg (by decide +kernel)]; rfl
noncomputable def bkO (P : Program) (w : World) (ob : Obj) (bk : List (List Cm.Wd)) : DO := mdG P w ob (bk.map fun r => (mapP r, eRow r))
section
variable {P : Program} {w : World} {K : Frag} {mg : Str → Option Value} {base : Heap}
/-- a search stands at a -/
structure Srch (P : Program) (w : World) (C : Addr) (few : List Cm.Wd) (a pd pl : Addr) (ob : Obj) (st : List (List Cm.Wd) × List (List Cm.Wd)) (G : DG) : Prop where
  o : G a = some (.obj C (fsM few pd pl))
  d : G pd = some (bkO P w ob st.1)
  l : G pl = some (.lst (st.2.map eRow))
def SP_msi (P : Program) (w : World) (C : Addr) : DSp := fun ds G R => ∃ a few, ds = [.ref a, eRow few] ∧ G a = some (.obj C []) ∧ ∀ pd pl ob G8, G pd = none → G pl = none → Frm [a] G G8 → Srch P w C few a pd pl ob ([[]], [[]]) G8 → R .non G8
def SP_mli (P : Program) (w : World) (C : Addr) : DSp := fun ds G R => ∃ few a pd pl ob st, ds = [.ref a] ∧ Srch P w C few a pd pl ob st G ∧ R (.tup (st.1.map fun r => .tup [mkD (mapP r), eRow r])) G
abbrev N_p_MapSearch_init : List Str := ["self", "few"]
abbrev A_p_MapSearch_init : List Str := ["self", "few"]
theorem sc_p_MapSearch_init : FnScope N_p_MapSearch_init A_p_MapSearch_init (defScope s_p_MapSearch_init) := ⟨rfl, rfl, rfl, by decide +kernel, rfl, by decide +kernel, by decide +kernel⟩
theorem h_p_MapSearch_init {C : Addr} (a : AtI K mg C "MapSearch" "MapSearch.__init__" s_p_MapSearch_init A_p_MapSearch_init) (B : BI mg) (T : ClsM K C) : HasI P w K mg base 1 C "MapSearch" A_p_MapSearch_init (SP_msi P w C) := by
  refine ati_mk a sc_p_MapSearch_init fun f cdv A outer s H E hr ds G R hl h => ?_
  refine ⟨_, (dss_cons (ds_fld (dv 0) (dv 1))
    (dss_cons (ds_fld (dv 0) (de_mdisp (DD.hu2_of hr) (de_tup (da_cons de_int (da_cons (de_tup da_nil) da_nil))) (de_tup da_nil)))
    (dss_one (ds_fld (dv 0) (de_lst (da_cons (de_tup da_nil) da_nil)))))), ?_⟩
  obtain ⟨a, few, rfl, ha, q⟩ := h
  obtain ⟨hC, nF, nR, nL⟩ := T
  walk_at "dm"
  refine ⟨_, _, _, rfl, ha, hC, nF, (by show 0 < 1000; decide), ?_⟩
  refine abs_upd ha fun G1 u1 h1 => ?_
  rw [mput1] at h1
  walk_at "dm"
  intro pd n2
  refine abs_new n2 fun G2 s2 h2 => ?_
  walk_at "dm"
  refine ⟨(0, []), [], rfl, rfl, h2, fun ob => ?_⟩
  refine abs_upd h2 fun G3 u3 h3 => ?_
  have da : pd ≠ a := fun e => by rw [e, h1] at n2; cases n2
  have a3 : G3 a = some (.obj C (fm1 few)) := (u3 a da.symm).trans (s2 _ _ h1)
  walk_at "dm"
  refine ⟨_, _, _, rfl, a3, hC, nR, (by show 1 < 1000; decide), ?_⟩
  refine abs_upd a3 fun G4 u4 h4 => ?_
  rw [mput2] at h4
  walk_at "dm"
  intro pl n5
  refine abs_new n5 fun G5 s5 h5 => ?_
  walk_at "dm"
  have a5 := s5 _ _ h4
  refine ⟨_, _, _, rfl, a5, hC, nL, (by show 2 < 1000; decide), ?_⟩
  refine abs_upd a5 fun G6 u6 h6 => ?_
  rw [mput3] at h6
  have d4 := (u4 pd da).trans h3
  have la : pl ≠ a := fun e => by rw [e, h4] at n5; cases n5
  have ld : pl ≠ pd := fun e => by rw [e, d4] at n5; cases n5
  have nd : G pd = none := by
    cases e : G pd with
    | none => rfl
    | some o => have := (u1 pd da).trans e; rw [n2] at this; cases this
  have nl : G pl = none := by
    cases e : G pl with
    | none => rfl
    | some o => have := (u4 pl la).trans ((u3 pl ld).trans (s2 _ _ ((u1 pl la).trans e))); rw [n5] at this; cases this
  have fr : Frm [a] G G6 := fun x o hx e => by
    have xa : x ≠ a := fun z => hx (List.mem_singleton.mpr z)
    have xd : x ≠ pd := fun z => by rw [z, nd] at e; cases e
    exact (u6 x xa).trans (s5 _ _ ((u4 x xa).trans ((u3 x xd).trans (s2 _ _ ((u1 x xa).trans e)))))
  refine Less.of (q pd pl ob G6 nd nl fr ⟨h6, ?_, (u6 pl la).trans h5⟩)
  rw [(u6 pd da).trans (s5 _ _ d4)]
  show _ = some (mdG P w ob [(mapP [], eRow [])])
  rw [mapP_nil]
  rfl
abbrev N_p_MapSearch_refuse_too_many : List Str := ["self"]
abbrev A_p_MapSearch_refuse_too_many : List Str := ["self"]
theorem sc_p_MapSearch_refuse_too_many : FnScope N_p_MapSearch_refuse_too_many A_p_MapSearch_refuse_too_many (defScope s_p_MapSearch_refuse_too_many) := ⟨rfl, rfl, rfl, by decide +kernel, rfl, by decide +kernel, by decide +kernel⟩
abbrev N_p_MapSearch_map_lines : List Str := ["self"]
abbrev A_p_MapSearch_map_lines : List Str := ["self"]
theorem sc_p_MapSearch_map_lines : FnScope N_p_MapSearch_map_lines A_p_MapSearch_map_lines (defScope s_p_MapSearch_map_lines) := ⟨rfl, rfl, rfl, by decide +kernel, rfl, by decide +kernel, by decide +kernel⟩
theorem h_p_MapSearch_map_lines {C : Addr} (a : AtM K C "map_lines" "MapSearch.map_lines" s_p_MapSearch_map_lines A_p_MapSearch_map_lines) (B : BI mg) (T : ClsM K C) : HasM P w K mg base 1 C "map_lines" A_p_MapSearch_map_lines (SP_mli P w C) := by
  refine atm_mk a sc_p_MapSearch_map_lines fun f cdv A outer s H E hr ds G R hl h => ?_
  refine ⟨_, (dss_one (ds_ret (de_mitems rfl B.tup rfl (de_fld (dv 0))))), ?_⟩
  obtain ⟨few, a, pd, pl, ob, st, rfl, S, q⟩ := h
  obtain ⟨hC, nF, nR, nL⟩ := T
  walk_at "dm"
  unfold dMItems
  walk_at "dm"
  refine ⟨_, _, _, _, rfl, S.o, hC, nR, rfl, ?_⟩
  refine ⟨_, _, _, rfl, S.d, ?_⟩
  rw [List.map_map]
  exact Less.of q
end
/-- a row and a word behind it -/
def eApp : DV → DV → DV
  | .tup a, e => .tup (a ++ [e])
  | d, _ => d
theorem more_map (few : List Cm.Wd) (lon : List (List Cm.Wd)) : ((lon.map eRow).flatMap fun d => (few.map eX).map (eApp d)) = (lon.flatMap (Bfs.more few)).map eRow := by
  rw [List.flatMap_map, List.map_flatMap]
  refine congrArg (fun f => lon.flatMap f) (funext fun r => ?_)
  unfold Bfs.more
  rw [List.map_map, List.map_map]
  refine List.map_congr_left fun x _ => ?_
  show DV.tup (r.map eX ++ [eX x]) = DV.tup ((r ++ [x]).map eX)
  rw [List.map_append]; rfl
theorem val_bk (bk : List (List Cm.Wd)) (k : MK) : (valM (bk.map fun r => (mapP r, eRow r)) k).isSome = decide (k ∈ bk.map mapP) := by
  unfold valM
  rw [Option.isSome_map, Bool.eq_iff_iff, List.find?_isSome, decide_eq_true_iff]
  constructor
  · rintro ⟨kv, h, e⟩
    obtain ⟨r, hr, rfl⟩ := List.mem_map.mp h
    exact List.mem_map.mpr ⟨r, hr, of_decide_eq_true e⟩
  · intro h
    obtain ⟨r, hr, e⟩ := List.mem_map.mp h
    exact ⟨_, List.mem_map.mpr ⟨r, hr, rfl⟩, decide_eq_true e⟩
theorem put_bk (bk : List (List Cm.Wd)) (r : List Cm.Wd) (h : mapP r ∉ bk.map mapP) : putM (bk.map fun r => (mapP r, eRow r)) (mapP r) (eRow r) = (bk ++ [r]).map fun r => (mapP r, eRow r) := by
  unfold putM
  rw [val_bk, if_neg (by rw [decide_eq_true_iff]; exact h), List.map_append]; rfl
theorem w_mIn {P : Program} {w : World} {n : Bool} {ti td : TD} {δ : DSt} {G : DG} {Q : DK} (h : ti δ G fun y G1 => td δ G1 fun x G2 => ∃ p ob kvs k, x = .ref p ∧ y = mkD k ∧ G2 p = some (mdG P w ob kvs) ∧ Q (.bl (ng n (valM kvs k).isSome)) G2) : dMIn P w n ti td δ G Q := h
theorem w_mPut {P : Program} {w : World} {td ti tv : TD} {D : DEnds} {δ : DSt} {G : DG} (h : tv δ G fun v G1 => td δ G1 fun x G2 => ti δ G2 fun y G3 => ∃ p ob kvs k ds, x = .ref p ∧ y = mkD k ∧ v = .tup ds ∧ G3 p = some (mdG P w ob kvs) ∧ kvs.length < sizeLine ∧ ∀ ob', D.nx δ (dupd G3 p (mdG P w ob' (putM kvs k v)))) : dMPut P w td ti tv D δ G := h
theorem mset (few : List Cm.Wd) (pd pl pl' : Addr) : oputO "longest" (.ref pl') (fsM few pd pl) = fsM few pd pl' := by unfold fsM; rw [oputO, if_neg (by decide +kernel), oputO, if_neg (by decide +kernel), oputO, if_pos rfl]
theorem run_take1 {rows : List (List Cm.Wd)} {st : List (List Cm.Wd) × List (List Cm.Wd)} {i : Nat} {r : List Cm.Wd} (h : rows[i]? = some r) : Bfs.run mapP st (rows.take (i + 1)) = Bfs.add mapP (Bfs.run mapP st (rows.take i)) r := by
  rw [List.take_add_one, h, Bfs.run_append]; rfl
theorem run_len (rows : List (List Cm.Wd)) : ∀ st : List (List Cm.Wd) × List (List Cm.Wd), (Bfs.run mapP st rows).1.length ≤ st.1.length + rows.length ∧ (Bfs.run mapP st rows).2.length ≤ st.2.length + rows.length := by
  induction rows with
  | nil => intro st; exact ⟨Nat.le_refl _, Nat.le_refl _⟩
  | cons r rows ih =>
    intro st
    have := ih (Bfs.add mapP st r)
    have e : (Bfs.add mapP st r).1.length ≤ st.1.length + 1 ∧ (Bfs.add mapP st r).2.length ≤ st.2.length + 1 := by
      unfold Bfs.add; split
      · exact ⟨Nat.le_succ _, Nat.le_succ _⟩
      · exact ⟨by rw [List.length_append]; exact Nat.le_refl _, by rw [List.length_append]; exact Nat.le_refl _⟩
    show (Bfs.run mapP (Bfs.add mapP st r) rows).1.length ≤ st.1.length + (rows.length + 1) ∧ (Bfs.run mapP (Bfs.add mapP st r) rows).2.length ≤ st.2.length + (rows.length + 1)
    omega
section
variable {P : Program} {w : World} {K : Frag} {mg : Str → Option Value} {base : Heap}
/-- one word longer -/
def SP_len (P : Program) (w : World) (C : Addr) : DSp := fun ds G R => ∃ few a pd pl ob st, ds = [.ref a] ∧ Srch P w C few a pd pl ob st G ∧ Good few ∧ (∀ r ∈ st.2, Good r ∧ r.length ≤ 19) ∧ st.1.length + (st.2.flatMap (Bfs.more few)).length ≤ 100000 ∧
  ∀ pl' ob' G8, G pl' = none → Frm [a, pd] G G8 → Srch P w C few a pd pl' ob' (Bfs.run mapP (st.1, []) (st.2.flatMap (Bfs.more few))) G8 → R .non G8
abbrev N_p_MapSearch_lengthen : List Str := ["self", "row", "word", "longer", "done"]
abbrev A_p_MapSearch_lengthen : List Str := ["self"]
theorem sc_p_MapSearch_lengthen : FnScope N_p_MapSearch_lengthen A_p_MapSearch_lengthen (defScope s_p_MapSearch_lengthen) := ⟨rfl, rfl, rfl, by decide +kernel, rfl, by decide +kernel, by decide +kernel⟩
theorem h_p_MapSearch_lengthen {C : Addr} (a : AtM K C "lengthen" "MapSearch.lengthen" s_p_MapSearch_lengthen A_p_MapSearch_lengthen) (B : BI mg) (T : ClsM K C) (c_p_map_of : Has P w K mg base 4 "map_of" A_p_map_of SP_mo) : HasM P w K mg base 5 C "lengthen" A_p_MapSearch_lengthen (SP_len P w C) := by
  refine atm_mk a sc_p_MapSearch_lengthen fun f cdv A outer s H E hr ds G R hl h => ?_
  refine ⟨_, (dss_cons (ds_setLc2 (i := 3) (own := [("row", 1), ("word", 2)]) (vs1 := [2]) (ti1 := dITup (dFld K (dVar 0) "few")) (lt1 (i := 1) (by decide)) (lt1 (i := 2) (by decide)) (by decide) rfl sc_p_MapSearch_lengthen.nd rfl rfl (sw_true rfl rfl rfl (by decide +kernel)) (di_list (de_fld (dv 0))) (blkOk_by (own := [("row", 1), ("word", 2)]) (N := N_p_MapSearch_lengthen) (sc := defScope s_p_MapSearch_lengthen) (by decide +kernel)) (fun _ _ _ _ _ => pg_name (i := 1) sc_p_MapSearch_lengthen.nd rfl (Or.inl rfl)) (fun _ _ _ _ _ => dts_nil) (fun _ _ _ _ _ => (di_tup (de_fld (dv 0)))) (fun _ _ _ _ _ => pg_name (i := 2) sc_p_MapSearch_lengthen.nd rfl (Or.inl rfl)) (fun _ _ _ _ _ => dts_nil) (fun _ _ _ _ _ => (de_op od_add (dv 1) (de_tup (da_cons (dv 2) da_nil)))))
    (dss_cons (ds_fld (dv 0) (de_lst da_nil))
    (dss_one (ds_for PassesOwn.never rfl (di_list (dv 3)) (dg_name (i := 1) sc_p_MapSearch_lengthen.nd rfl (.inl rfl)) (dss_cons (ds_set (i := 4) sc_p_MapSearch_lengthen.nd rfl (.inl rfl) (de_call c_p_map_of (hr.mono (by omega)) rfl (da_cons (dv 1) da_nil)))
      (dss_one (ds_if (dt_mnotin (DD.hu2_of hr) (dv 4) (de_fld (dv 0))) (dss_cons (ds_mput (DD.hu2_of hr) (de_fld (dv 0)) (dv 4) (dv 1))
        (dss_one (ds_expr (de_bm PySem.F.plainAttrs_list PySem.F.slot_list_append PySem.F.type_list_append md_append (de_fld (dv 0)) (da_cons (dv 1) da_nil))))) dss_nil))))))), ?_⟩
  obtain ⟨few, a, pd, pl, ob, st, rfl, S, gf, gl, lb, q⟩ := h
  obtain ⟨hC, nF, nR, nL⟩ := T
  have gr : ∀ r ∈ st.2.flatMap (Bfs.more few), Good r ∧ r.length ≤ 20 := fun r hr => by
    obtain ⟨t, ht, hr⟩ := List.mem_flatMap.mp hr
    obtain ⟨x, hx, rfl⟩ := List.mem_map.mp hr
    refine ⟨fun y hy => ?_, by rw [List.length_append]; have := (gl t ht).2; exact Nat.succ_le_succ this⟩
    rcases List.mem_append.mp hy with z | z
    · exact (gl t ht).1 y z
    · rw [List.mem_singleton.mp z]; exact gf x hx
  walk_at "dm"
  refine w_lc2 ?_
  walk_at "dm"
  refine ⟨_, _, _, _, rfl, S.o, hC, nL, rfl, pl, _, rfl, .inl S.l, ?_⟩
  refine lc2s_pure (fun d => [some (.ref a), some d, none, none, none]) (fun _ => few.map eX) eApp (fun G' s' => .inl (s' _ _ S.l)) (by rw [more_map, List.length_map]; omega) ?_ ?_ ?_
  · intro d hd G' k1 k0 s' hk
    walk_at "dm"
    exact ⟨_, _, _, _, rfl, s' _ _ S.o, hC, nF, rfl, _, rfl, hk _ fun _ _ => trivial⟩
  · intro d hd e he G' k1 k0 s' hk
    obtain ⟨r, hr, rfl⟩ := List.mem_map.mp hd
    obtain ⟨x, hx, rfl⟩ := List.mem_map.mp he
    walk_at "dm"
    refine ⟨mid (by rw [List.length_map]; have := (gl r hr).2; show r.length + 1 ≤ _; omega), hk⟩
  intro p3 G1 np3 s1 h3
  rw [more_map] at h3
  generalize st.2.flatMap (Bfs.more few) = rows at *
  walk_at "dm"
  intro pl' npl
  refine abs_new npl fun G2 s2 h2 => ?_
  have a2 := s2 _ _ (s1 _ _ S.o)
  walk_at "dm"
  refine ⟨_, _, _, rfl, a2, hC, nL, (by show 3 < 1000; decide), ?_⟩
  refine abs_upd a2 fun G3 u3 h3' => ?_
  rw [mset] at h3'
  have p3a : p3 ≠ a := fun z => by rw [z, S.o] at np3; cases np3
  have p3d : p3 ≠ pd := fun z => by rw [z, S.d] at np3; cases np3
  have da : pd ≠ a := fun z => by have := S.d; rw [z, S.o] at this; cases this
  have la : pl' ≠ a := fun z => by rw [z, s1 _ _ S.o] at npl; cases npl
  have ld : pl' ≠ pd := fun z => by rw [z, s1 _ _ S.d] at npl; cases npl
  have l3 : pl' ≠ p3 := fun z => by rw [z, h3] at npl; cases npl
  have nl : G pl' = none := by
    cases e : G pl' with
    | none => rfl
    | some o => have := s1 _ _ e; rw [npl] at this; cases this
  have c3 : G3 p3 = some (.lst (rows.map eRow)) := (u3 p3 p3a).trans (s2 _ _ h3)
  have S3 : Srch P w C few a pd pl' ob (st.1, []) G3 := ⟨h3', (u3 pd da).trans (s2 _ _ (s1 _ _ S.d)), (u3 pl' la).trans h2⟩
  have f3 : Frm [a, pd] G G3 := fun x o hx e => by
    rw [u3 x (fun z => hx (by rw [z]; exact List.mem_cons_self ..))]
    exact s2 _ _ (s1 _ _ e)
  walk_at "dm"
  refine for_by (fun i δ G' => ∃ (ob' : Obj) (x1 x2 x4 : Option DV), δ = [some (.ref a), x1, x2, some (.ref p3), x4] ∧ Frm [a, pd] G G' ∧ G' p3 = some (.lst (rows.map eRow)) ∧ Srch P w C few a pd pl' ob' (Bfs.run mapP (st.1, []) (rows.take i)) G') ?_ ⟨_, _, _, _, rfl, f3, c3, S3⟩ ?_ ?_
  · exact fun i δ G' ⟨_, _, _, _, _, _, c', _⟩ => .inl c'
  · rintro i d δ G4 hd ⟨ob', x1, x2, x4, rfl, fr, c', S'⟩
    rw [List.getElem?_map] at hd
    obtain ⟨r, hr, rfl⟩ := Option.map_eq_some_iff.mp hd
    obtain ⟨g1, g2⟩ := gr r (List.mem_of_getElem? hr)
    have rl := run_len (rows.take i) (st.1, [])
    rw [List.length_take] at rl
    rw [run_take1 hr]
    generalize Bfs.run mapP (st.1, []) (rows.take i) = s5 at S' rl
    have rl2 : s5.1.length ≤ 100000 ∧ s5.2.length ≤ 100000 := by
      have e1 : s5.1.length ≤ st.1.length + min i rows.length := rl.1
      have e2 : s5.2.length ≤ 0 + min i rows.length := rl.2
      omega
    walk_at "dm"
    refine ⟨r, rfl, g1, g2, ?_⟩
    walk_at "dm"
    refine w_mIn ?_
    walk_at "dm"
    refine ⟨_, _, _, _, rfl, S'.o, hC, nR, rfl, _, _, _, mapP r, rfl, rfl, S'.d, ?_⟩
    rw [val_bk]
    walk_at "dm"
    show if (!decide (mapP r ∈ s5.1.map mapP)) = true then _ else _
    refine w_iteN (fun hm => ?_) (fun hm => ?_)
    · walk_at "dm"
      refine w_mPut ?_
      walk_at "dm"
      refine ⟨_, _, _, _, rfl, S'.o, hC, nR, rfl, ?_⟩
      walk_at "dm"
      refine ⟨_, _, _, mapP r, _, rfl, rfl, rfl, S'.d, (by rw [List.length_map]; exact midlt (by omega)), fun ob2 => ?_⟩
      rw [put_bk _ _ hm]
      refine abs_upd S'.d fun G5 u5 h5 => ?_
      have a5 := (u5 a da.symm).trans S'.o
      have l5 := (u5 pl' ld).trans S'.l
      walk_at "dm"
      refine ⟨_, _, _, _, rfl, a5, hC, nL, rfl, ?_⟩
      walk_at "dm"
      refine ⟨_, _, _, rfl, rfl, l5, (by rw [List.length_map]; exact midlt (by omega)), ?_⟩
      refine abs_upd l5 fun G6 u6 h6 => ?_
      walk_at "dm"
      have ea : Bfs.add mapP s5 r = (s5.1 ++ [r], s5.2 ++ [r]) := by unfold Bfs.add; rw [if_neg hm]
      rw [ea]
      refine ⟨ob2, _, _, _, rfl, fun x o hx e => ?_, (u6 p3 l3.symm).trans ((u5 p3 p3d).trans c'), ⟨(u6 a la.symm).trans a5, (u6 pd ld.symm).trans h5, ?_⟩⟩
      · have xl : x ≠ pl' := fun z => by rw [z, nl] at e; cases e
        rw [u6 x xl, u5 x (fun z => hx (by rw [z]; exact List.mem_cons_of_mem _ (List.mem_cons_self ..)))]
        exact fr x o hx e
      · rw [h6, List.map_append]; rfl
    · walk_at "dm"
      have ea : Bfs.add mapP s5 r = s5 := by unfold Bfs.add; rw [if_pos hm]
      rw [ea]
      exact ⟨ob', _, _, _, rfl, fr, c', S'⟩
  · rintro δ G' ⟨ob', x1, x2, x4, rfl, fr, c', S'⟩
    rw [List.length_map, List.take_length] at S'
    exact Less.of (q pl' ob' G' nl fr S')
end
local macro_rules | `(tactic| walk_at "dm") => `(tactic| repeat (first | walk_at "d1" | (with_reducible refine w_fldS ?_) | (with_reducible refine w_fld ?_) | (with_reducible refine w_meth ?_) | (with_reducible refine w_make ?_)))
noncomputable abbrev bfsW (few : List Cm.Wd) (n : Nat) := Bfs.bfs mapP few n
theorem run_mem2 : ∀ (rs : List (List Cm.Wd)) (st : List (List Cm.Wd) × List (List Cm.Wd)), ∀ r ∈ (Bfs.run mapP st rs).2, r ∈ st.2 ∨ r ∈ rs
  | [], _, _, h => .inl h
  | r :: rs, st, x, h => by
    rcases run_mem2 rs (Bfs.add mapP st r) x h with z | z
    · unfold Bfs.add at z
      split at z
      · exact .inl z
      · rcases List.mem_append.mp z with y | y
        · exact .inl y
        · exact .inr (List.mem_singleton.mp y ▸ List.mem_cons_self ..)
    · exact .inr (List.mem_cons_of_mem _ z)
theorem bfs_long {few : List Cm.Wd} (gf : Good few) : ∀ n, ∀ r ∈ (bfsW few n).2, Good r ∧ r.length = n
  | 0, r, h => by
    rw [List.mem_singleton.mp h]
    exact ⟨fun x hx => (nomatch hx), rfl⟩
  | n + 1, r, h => by
    rcases run_mem2 _ _ r h with z | z
    · cases z
    · obtain ⟨t, ht, hr⟩ := List.mem_flatMap.mp z
      obtain ⟨x, hx, rfl⟩ := List.mem_map.mp hr
      obtain ⟨g1, g2⟩ := bfs_long gf n t ht
      refine ⟨fun y hy => ?_, by rw [List.length_append, g2]; rfl⟩
      rcases List.mem_append.mp hy with z | z
      · exact g1 y z
      · rw [List.mem_singleton.mp z]; exact gf x hx
noncomputable def lines (bk : List (List Cm.Wd)) : DV := .tup (bk.map fun r => .tup [mkD (mapP r), eRow r])
theorem val_find (bk : List (List Cm.Wd)) (k : MK) : valM (bk.map fun r => (mapP r, eRow r)) k = (bk.find? fun r => decide (mapP r = k)).map eRow := by
  unfold valM
  rw [List.find?_map, Option.map_map]; rfl
theorem mk_plain (ps : List Int) : plains (ps.map DV.int) = true := by
  induction ps with
  | nil => rfl
  | cons p r ih => show (plain (.int p) && plains (r.map DV.int)) = true; rw [ih]; rfl
theorem mk_tx (ps : List Int) : txBs (ps.map DV.int) = true := by
  induction ps with
  | nil => rfl
  | cons p r ih => show (txB (.int p) && txBs (r.map DV.int)) = true; rw [ih]; rfl
theorem mk_dp (ps : List Int) : dpts (ps.map DV.int) ≤ 1 := by
  induction ps with
  | nil => exact Nat.zero_le _
  | cons p r ih => show max (dpt (.int p)) (dpts (r.map DV.int)) ≤ 1; exact Nat.max_le.mpr ⟨Nat.zero_le _, ih⟩
theorem mk_pl (k : MK) : plains [.int k.1, .tup (k.2.map .int)] = true := by
  show (plain (.int k.1) && (plains (k.2.map DV.int) && true)) = true
  rw [mk_plain]; rfl
theorem mk_cmp (k : MK) : Cmps [.int k.1, .tup (k.2.map .int)] := by
  refine ⟨plains_pure _ (mk_pl k), ?_, ?_⟩
  · show (txB (.int k.1) && (txBs (k.2.map DV.int) && true)) = true
    rw [mk_tx]; rfl
  · have := mk_dp k.2
    show max 0 (max (1 + dpts (k.2.map DV.int)) 0) ≤ 60
    omega
theorem mkD_inj {a b : MK} : mkD a = mkD b ↔ a = b := by
  constructor
  · intro h
    obtain ⟨n, ps⟩ := a
    obtain ⟨m, qs⟩ := b
    have h := DV.tup.inj h
    obtain ⟨h1, h2⟩ := List.cons.inj h
    have h3 := DV.tup.inj (List.cons.inj h2).1
    have e : ps = qs := by
      have inj : ∀ (l l' : List Int), l.map DV.int = l'.map DV.int → l = l' := by
        intro l
        induction l with
        | nil => intro l' h; cases l' with
          | nil => rfl
          | cons _ _ => cases h
        | cons x l ih => intro l' h; cases l' with
          | nil => cases h
          | cons y l' =>
            obtain ⟨h1, h2⟩ := List.cons.inj h
            rw [DV.int.inj h1, ih l' h2]
      exact inj ps qs h3
    exact Prod.ext (DV.int.inj h1) e
  · rintro rfl; rfl
theorem w_eqM {a b : MK} {G : DG} {Q : DK} (h : Q (.bl (decide (a = b))) G) : bEq false (mkD a) (mkD b) G Q := by
  refine w_eqTT (mk_cmp a) (mk_cmp b) (mk_pl a) (mk_pl b) ?_
  have e : decide (([.int a.1, .tup (a.2.map .int)] : List DV) = [.int b.1, .tup (b.2.map .int)]) = decide (a = b) := decide_eq_decide.mpr ⟨fun h => mkD_inj.mp (congrArg DV.tup h), fun h => by rw [h]⟩
  rw [e]; exact h
local macro_rules | `(tactic| walk_at "gk") => `(tactic| first | assumption | exact de_sub_ (by assumption) (by walk_at "gk") | exact dke_upd (by assumption) (by walk_at "gk") ⟨_, by walk_at "gq"⟩ | exact dke_updD (by assumption) (by walk_at "gk") ⟨_, by walk_at "gq"⟩)
theorem eX_wd (n : Nat) (ps : List Nat) : eX (wdOf n ps) = .str (shT n ps) := by unfold eX; rw [pk_wd]; rfl
local macro_rules | `(tactic| walk_at "gk") => `(tactic| first | assumption | exact dk_sub (by assumption) (by walk_at "gk") | exact dk_upd (by assumption) (by walk_at "gk") ⟨_, by walk_at "gq"⟩ | exact dk_updD (by assumption) (by walk_at "gk") ⟨_, by walk_at "gq"⟩)
local macro_rules | `(tactic| walk_at "gk") => `(tactic| first | assumption | exact de_sub_ (by assumption) (by walk_at "gk") | exact dke_upd (by assumption) (by walk_at "gk") ⟨_, by walk_at "gq"⟩ | exact dke_updD (by assumption) (by walk_at "gk") ⟨_, by walk_at "gq"⟩)
local macro_rules | `(tactic| walk_at "dw") => `(tactic| repeat (first | walk_at "d1" | (with_reducible refine w_mget ?_) | (with_reducible refine w_mget1 ?_) | (with_reducible refine w_min_ ?_) | (with_reducible refine w_mnew ?_) | (with_reducible refine w_mput ?_) | (with_reducible refine wi_mkeys ?_)))
theorem w_neM {a b : MK} {G : DG} {Q : DK} (h : Q (.bl (!decide (a = b))) G) : bEq true (mkD a) (mkD b) G Q := by
  refine w_neTT (mk_cmp a) (mk_cmp b) (mk_pl a) (mk_pl b) ?_
  have e : decide (([.int a.1, .tup (a.2.map .int)] : List DV) = [.int b.1, .tup (b.2.map .int)]) = decide (a = b) := decide_eq_decide.mpr ⟨fun h => mkD_inj.mp (congrArg DV.tup h), fun h => by rw [h]⟩
  rw [e]; exact h
theorem cm0 : Cmps [] := ⟨rfl, rfl, by decide⟩
theorem eRow_in {few : List Cm.Wd} {x : Cm.Wd} (h : x ∈ few) : inD (eX x) (few.map eX) = true := by
  have em : few.map eX = (few.map fun x => shT x.1 (pk x)).map DV.str := by rw [List.map_map]; rfl
  rw [em]
  show inD (.str _) _ = true
  rw [inD_strs]
  exact decide_eq_true (List.mem_map.mpr ⟨x, h, rfl⟩)
theorem eRow_flat (few : List Cm.Wd) : (few.map eX).all flatD = true := by
  have em : few.map eX = (few.map fun x => shT x.1 (pk x)).map DV.str := by rw [List.map_map]; rfl
  rw [em]; exact flat_strs _
noncomputable def kv (r : List Cm.Wd) : MK × DV := (mapP r, eRow r)
/-- what a book that holds must be -/
structure BookOk (few : List Cm.Wd) (most : Nat) (bk : List (List Cm.Wd)) : Prop where
  gf : Good few
  ne : few ≠ []
  lf : few.length ≤ 100
  lm : most ≤ 18
  lb : bk.length ≤ 1200
  rows : ∀ r ∈ bk, r.length ≤ most ∧ ∀ x ∈ r, x ∈ few
  nd : (bk.map mapP).Nodup
  nil : bk.find? (fun r => decide (mapP r = (0, []))) = some []
  cl : ∀ r ∈ bk, r.length < most → ∀ x ∈ few, ∃ s, bk.find? (fun y => decide (mapP y = mapP (r ++ [x]))) = some s ∧ s.length ≤ r.length + 1
theorem val_pre {bk : List (List Cm.Wd)} (nd : (bk.map mapP).Nodup) {i : Nat} {r : List Cm.Wd} (h : bk[i]? = some r) : valM ((bk.take i).map kv) (mapP r) = none := by
  have e := val_find (bk.take i) (mapP r)
  refine e.trans ?_
  rw [Option.map_eq_none_iff, List.find?_eq_none]
  intro y hy
  rw [decide_eq_true_iff]
  intro ey
  obtain ⟨j, hj⟩ := List.mem_iff_getElem?.mp hy
  have hj' : bk[j]? = some y ∧ j < i := by
    rw [List.getElem?_take] at hj
    split at hj
    · exact ⟨hj, by assumption⟩
    · cases hj
  have h1 : (bk.map mapP)[i]? = some (mapP r) := by rw [List.getElem?_map, h]; rfl
  have h2 : (bk.map mapP)[j]? = some (mapP r) := by rw [List.getElem?_map, hj'.1]; exact congrArg some ey
  obtain ⟨l1, g1⟩ := List.getElem?_eq_some_iff.mp h1
  obtain ⟨l2, g2⟩ := List.getElem?_eq_some_iff.mp h2
  exact (List.pairwise_iff_getElem.mp nd j i l2 l1 hj'.2) (g2.trans g1.symm)
local macro_rules | `(tactic| walk_at "gk") => `(tactic| first | assumption | exact dk_sub (by assumption) (by walk_at "gk") | exact dk_upd (by assumption) (by walk_at "gk") ⟨_, by walk_at "gq"⟩ | exact dk_updD (by assumption) (by walk_at "gk") ⟨_, by walk_at "gq"⟩)
local macro_rules | `(tactic| walk_at "dw") => `(tactic| repeat (first | walk_at "d1" | (with_reducible refine w_mget ?_) | (with_reducible refine w_mget1 ?_) | (with_reducible refine w_min_ ?_) | (with_reducible refine w_mnew ?_) | (with_reducible refine w_mput ?_) | (with_reducible refine wi_mkeys ?_) | (with_reducible refine wi_mvals ?_) | (with_reducible refine w_mdc ?_) | (with_reducible refine w_lc2 ?_) | (with_reducible refine w_fldS ?_) | (with_reducible refine w_fld ?_) | (with_reducible refine w_meth ?_) | (with_reducible refine w_make ?_)))
theorem alls_map {α : Type} (l : List α) : ((l.map fun _ => true).all id) = true := by rw [List.all_map]; exact List.all_eq_true.mpr fun _ _ => rfl
theorem alls_rep (n : Nat) : ((List.replicate n true).all id) = true := List.all_eq_true.mpr fun x hx => (List.mem_replicate.mp hx).2
theorem mapP_len {r : List Cm.Wd} (g : Good r) : (mapP r).2.length ≤ 12 * r.length := by
  have := (wmap_ok g).2.1
  show (cutM _ (wmap r).2).length ≤ _
  unfold cutM
  rw [List.length_map, List.length_drop]; omega
section
variable {P : Program} {w : World} {K : Frag} {mg : Str → Option Value} {base : Heap}
def SP_iwp : DSp := fun ds G R => ∃ i : Int, ds = [.int i] ∧ R (.bl true) G
def SP_imf : DSp := fun ds G R => ∃ m : MK, ds = [mkD m] ∧ m.2.length ≤ 10000 ∧ R (.bl true) G
def SP_isl : DSp := fun ds G R => ∃ (r few : List Cm.Wd) (most : Nat), ds = [.tup [mkD (mapP r), eRow r], eRow few, .int (most : Int)] ∧ Good few ∧ few.length ≤ 100 ∧ most ≤ 18 ∧ r.length ≤ most ∧ (∀ x ∈ r, x ∈ few) ∧ R (.bl true) G
def SP_icl (P : Program) (w : World) : DSp := fun ds G R => ∃ (p : Addr) (ob : Obj) (bk : List (List Cm.Wd)) (r s : List Cm.Wd) (x : Cm.Wd), ds = [.ref p, eRow r, eX x] ∧ G p = some (mdG P w ob (bk.map kv)) ∧ Good (r ++ [x]) ∧ r.length < 18 ∧ bk.find? (fun y => decide (mapP y = mapP (r ++ [x]))) = some s ∧ s.length ≤ r.length + 1 ∧ R (.bl true) G
def SP_mbh : DSp := fun ds G R => ∃ (few : List Cm.Wd) (most : Nat) (bk : List (List Cm.Wd)), ds = [eRow few, .int (most : Int), lines bk] ∧ BookOk few most bk ∧ R (.bl true) G
abbrev N_p_is_whole : List Str := ["thing"]
abbrev A_p_is_whole : List Str := ["thing"]
theorem sc_p_is_whole : FnScope N_p_is_whole A_p_is_whole (defScope s_p_is_whole) := ⟨rfl, rfl, rfl, by decide +kernel, rfl, by decide +kernel, by decide +kernel⟩
theorem h_p_is_whole (a : At K mg "is_whole" s_p_is_whole A_p_is_whole) (B : BI mg) : Has P w K mg base 1 "is_whole" A_p_is_whole SP_iwp := by
  refine at_mk a sc_p_is_whole fun f cdv A outer s H E hr ds G R hl h => ?_
  refine ⟨_, (dss_one (ds_ret (de_and (de_callB cd_isi B.isi rfl (by decide +kernel) (da_cons (dv 0) (da_cons (de_ty (n := "int") B.int rfl (by decide +kernel)) da_nil))) (de_one (de_not (de_callB cd_isi B.isi rfl (by decide +kernel) (da_cons (dv 0) (da_cons (de_ty (n := "bool") B.bool rfl (by decide +kernel)) da_nil)))))))), ?_⟩
  obtain ⟨i, rfl, q⟩ := h
  walk_at "dd"
  exact Less.of q
abbrev N_p_is_map_form : List Str := ["thing", "n", "picks", "pick"]
abbrev A_p_is_map_form : List Str := ["thing"]
theorem sc_p_is_map_form : FnScope N_p_is_map_form A_p_is_map_form (defScope s_p_is_map_form) := ⟨rfl, rfl, rfl, by decide +kernel, rfl, by decide +kernel, by decide +kernel⟩
theorem h_p_is_map_form (a : At K mg "is_map_form" s_p_is_map_form A_p_is_map_form) (B : BI mg) (c_p_is_whole : Has P w K mg base 1 "is_whole" A_p_is_whole SP_iwp) : Has P w K mg base 2 "is_map_form" A_p_is_map_form SP_imf := by
  refine at_mk a sc_p_is_map_form fun f cdv A outer s H E hr ds G R hl h => ?_
  refine ⟨_, (dss_cons (ds_if (dt_w (dw_or (dt_not (dt_e (de_callB cd_isi B.isi rfl (by decide +kernel) (da_cons (dv 0) (da_cons (de_ty (n := "tuple") B.tup rfl (by decide +kernel)) da_nil))))) (dw_or1 (dt_cmp (od_ne hr.units) (de_callB cd_len B.len rfl (by decide +kernel) (da_cons (dv 0) da_nil)) de_int (nomark _))))) (dss_one (ds_ret de_bl)) dss_nil)
    (dss_cons (ds_asg (dv 0) (dg_tup rfl (dgs_cons (dg_name (i := 1) sc_p_is_map_form.nd rfl (.inl rfl)) (dgs_cons (dg_name (i := 2) sc_p_is_map_form.nd rfl (.inl rfl)) dgs_nil))))
    (dss_one (ds_ret (de_and (de_call c_p_is_whole (hr.mono (by omega)) rfl (da_cons (dv 1) da_nil)) (de_and (de_callB cd_isi B.isi rfl (by decide +kernel) (da_cons (dv 2) (da_cons (de_ty (n := "tuple") B.tup rfl (by decide +kernel)) da_nil))) (de_one (de_callB (cd_all rfl) B.all rfl (by decide +kernel) (da_cons (de_lc (own := [("pick", 3)]) (lt1 (i := 3) (by decide)) rfl sc_p_is_map_form.nd (di_tup (dv 2)) (blkOk_by (own := [("pick", 3)]) (N := N_p_is_map_form) (sc := defScope s_p_is_map_form) (by decide +kernel)) (fun _ _ _ _ _ => pg_name (i := 3) sc_p_is_map_form.nd rfl (Or.inl rfl)) (fun _ _ _ _ _ => dts_nil) (fun _ _ _ _ _ => (de_call c_p_is_whole (hr.mono (by omega)) rfl (da_cons (dv 3) da_nil)))) da_nil))))))))), ?_⟩
  obtain ⟨m, rfl, lm, q⟩ := h
  walk_at "dd"
  refine ⟨_, rfl, ?_⟩
  walk_at "dd"
  refine lcs_pure (fun _ => some (.bl true)) (fun _ _ => trivial) (by rw [List.length_map]; omega) ?_ ?_
  · intro y hy G' k1 k0 s' e1 e0
    obtain ⟨t, ht, rfl⟩ := List.mem_map.mp hy
    walk_at "dd"
    refine ⟨_, rfl, ?_⟩
    exact e1 _ rfl
  intro p G1 np s1 hp
  have e : (m.2.map DV.int).filterMap (fun _ => some (DV.bl true)) = (m.2.map fun _ => true).map DV.bl := by
    rw [List.filterMap_map, List.map_map]; exact List.filterMap_eq_map ▸ rfl
  rw [e] at hp
  walk_at "dd"
  refine w_allL hp ?_
  rw [alls_map]
  exact ⟨G, s1, q⟩
abbrev N_p_is_line : List Str := ["thing", "few", "most", "done", "row", "word"]
abbrev A_p_is_line : List Str := ["thing", "few", "most"]
theorem sc_p_is_line : FnScope N_p_is_line A_p_is_line (defScope s_p_is_line) := ⟨rfl, rfl, rfl, by decide +kernel, rfl, by decide +kernel, by decide +kernel⟩
theorem h_p_is_line (a : At K mg "is_line" s_p_is_line A_p_is_line) (B : BI mg) (c_p_map_of : Has P w K mg base 4 "map_of" A_p_map_of SP_mo) (c_p_is_map_form : Has P w K mg base 2 "is_map_form" A_p_is_map_form SP_imf) : Has P w K mg base 5 "is_line" A_p_is_line SP_isl := by
  refine at_mk a sc_p_is_line fun f cdv A outer s H E hr ds G R hl h => ?_
  refine ⟨_, (dss_cons (ds_if (dt_w (dw_or (dt_not (dt_e (de_callB cd_isi B.isi rfl (by decide +kernel) (da_cons (dv 0) (da_cons (de_ty (n := "tuple") B.tup rfl (by decide +kernel)) da_nil))))) (dw_or1 (dt_cmp (od_ne hr.units) (de_callB cd_len B.len rfl (by decide +kernel) (da_cons (dv 0) da_nil)) de_int (nomark _))))) (dss_one (ds_ret de_bl)) dss_nil)
    (dss_cons (ds_asg (dv 0) (dg_tup rfl (dgs_cons (dg_name (i := 3) sc_p_is_line.nd rfl (.inl rfl)) (dgs_cons (dg_name (i := 4) sc_p_is_line.nd rfl (.inl rfl)) dgs_nil))))
    (dss_cons (ds_if (dt_w (dw_or (dt_not (dt_e (de_callB cd_isi B.isi rfl (by decide +kernel) (da_cons (dv 4) (da_cons (de_ty (n := "tuple") B.tup rfl (by decide +kernel)) da_nil))))) (dw_or1 (dt_cmp od_gt (de_callB cd_len B.len rfl (by decide +kernel) (da_cons (dv 4) da_nil)) (dv 2) (nomark _))))) (dss_one (ds_ret de_bl)) dss_nil)
    (dss_cons (ds_if (dt_not (dt_e (de_callB (cd_all rfl) B.all rfl (by decide +kernel) (da_cons (de_lc (own := [("word", 5)]) (lt1 (i := 5) (by decide)) rfl sc_p_is_line.nd (di_tup (dv 4)) (blkOk_by (own := [("word", 5)]) (N := N_p_is_line) (sc := defScope s_p_is_line) (by decide +kernel)) (fun _ _ _ _ _ => pg_name (i := 5) sc_p_is_line.nd rfl (Or.inl rfl)) (fun _ _ _ _ _ => dts_nil) (fun _ _ _ _ _ => (de_and (de_callB cd_isi B.isi rfl (by decide +kernel) (da_cons (dv 5) (da_cons (de_ty (n := "str") B.str rfl (by decide +kernel)) da_nil))) (de_one (de_cmp od_in (dv 5) (dv 1) rfl))))) da_nil)))) (dss_one (ds_ret de_bl)) dss_nil)
    (dss_one (ds_ret (de_and (de_call c_p_is_map_form (hr.mono (by omega)) rfl (da_cons (dv 3) da_nil)) (de_one (de_cmp (od_eq hr.units) (dv 3) (de_call c_p_map_of (hr.mono (by omega)) rfl (da_cons (dv 4) da_nil)) (nomark _)))))))))), ?_⟩
  obtain ⟨r, few, most, rfl, gf, lf, lm, lr, hr, q⟩ := h
  have gr : Good r := fun x hx => gf x (hr x hx)
  walk_at "dd"
  rw [List.length_map]
  refine w_iteD (fun z => by omega) (fun _ => ?_)
  walk_at "dd"
  refine lcs_pure (fun _ => some (.bl true)) (fun _ _ => trivial) (by rw [List.length_map]; omega) ?_ ?_
  · intro y hy G' k1 k0 s' e1 e0
    obtain ⟨x, hx, rfl⟩ := List.mem_map.mp hy
    walk_at "dd"
    refine w_inT (eRow_flat few) ?_
    rw [show inD (.str (shT x.1 (pk x))) (few.map eX) = true from eRow_in (hr x hx)]
    exact e1 _ rfl
  intro p G1 np s1 hp
  have e : (r.map eX).filterMap (fun _ => some (DV.bl true)) = (r.map fun _ => true).map DV.bl := by
    rw [List.filterMap_map, List.map_map]; exact List.filterMap_eq_map ▸ rfl
  rw [e] at hp
  walk_at "dd"
  refine w_allL hp ?_
  rw [alls_map]
  walk_at "dd"
  have := mapP_len gr
  refine ⟨mapP r, rfl, by omega, ?_⟩
  walk_at "dd"
  refine ⟨r, rfl, gr, by omega, ?_⟩
  walk_at "dd"
  refine w_eqM ?_
  rw [decide_eq_true rfl]
  exact ⟨G, s1, q⟩
abbrev N_p_is_closed : List Str := ["rows", "row", "word", "longer", "found"]
abbrev A_p_is_closed : List Str := ["rows", "row", "word"]
theorem sc_p_is_closed : FnScope N_p_is_closed A_p_is_closed (defScope s_p_is_closed) := ⟨rfl, rfl, rfl, by decide +kernel, rfl, by decide +kernel, by decide +kernel⟩
theorem h_p_is_closed (a : At K mg "is_closed" s_p_is_closed A_p_is_closed) (B : BI mg) (c_p_map_of : Has P w K mg base 4 "map_of" A_p_map_of SP_mo) : Has P w K mg base 5 "is_closed" A_p_is_closed (SP_icl P w) := by
  refine at_mk a sc_p_is_closed fun f cdv A outer s H E hr ds G R hl h => ?_
  refine ⟨_, (dss_cons (ds_set (i := 3) sc_p_is_closed.nd rfl (.inl rfl) (de_op od_add (dv 1) (de_tup (da_cons (dv 2) da_nil))))
    (dss_cons (ds_set (i := 4) sc_p_is_closed.nd rfl (.inl rfl) (de_mget1 (DD.hu2_of hr) (dv 0) (de_call c_p_map_of (hr.mono (by omega)) rfl (da_cons (dv 3) da_nil))))
    (dss_one (ds_ret (de_and (de_cmp od_isnot (dv 4) de_non (nomark _)) (de_one (de_cmp od_le (de_callB cd_len B.len rfl (by decide +kernel) (da_cons (dv 4) da_nil)) (de_callB cd_len B.len rfl (by decide +kernel) (da_cons (dv 3) da_nil)) (nomark _)))))))), ?_⟩
  obtain ⟨p, ob, bk, r, s, x, rfl, hp, gr, lr, hs, ls, q⟩ := h
  walk_at "dw"
  refine w_addT (mid (by rw [List.length_map]; show r.length + 1 ≤ _; omega)) ?_
  walk_at "dw"
  refine ⟨p, rfl, ⟨_, _, hp⟩, ?_⟩
  walk_at "dw"
  have er : (r.map eX) ++ [eX x] = (r ++ [x]).map eX := by rw [List.map_append]; rfl
  refine ⟨r ++ [x], congrArg (fun z => [DV.tup z]) er, gr, by rw [List.length_append]; show r.length + 1 ≤ 20; omega, ?_⟩
  walk_at "dw"
  refine ⟨_, _, mapP (r ++ [x]), rfl, hp, ?_⟩
  rw [show valM (bk.map kv) (mapP (r ++ [x])) = some (eRow s) from (val_find bk _).trans (by rw [hs]; rfl)]
  walk_at "dw"
  refine w_iteN (fun _ => ?_) (fun z => (nomatch (show eRow s = DV.non from z)))
  show dOp _ _ _ [some (.ref p), some (eRow r), some (eX x), some (.tup ((r.map eX) ++ [eX x])), some (eRow s)] _ _
  walk_at "dw"
  have e : decide (((s.map eX).length : Int) ≤ ((r.map eX ++ [eX x]).length : Int)) = true := by
    rw [List.length_append, List.length_map, List.length_map]
    exact decide_eq_true (by show (s.length : Int) ≤ ((r.length + 1 : Nat) : Int); omega)
  rw [e]
  exact Less.of q
abbrev N_p_map_book_holds : List Str := ["few", "most", "book", "line", "done", "row", "rows", "word"]
abbrev A_p_map_book_holds : List Str := ["few", "most", "book"]
theorem sc_p_map_book_holds : FnScope N_p_map_book_holds A_p_map_book_holds (defScope s_p_map_book_holds) := ⟨rfl, rfl, rfl, by decide +kernel, rfl, by decide +kernel, by decide +kernel⟩
theorem h_p_map_book_holds (a : At K mg "map_book_holds" s_p_map_book_holds A_p_map_book_holds) (B : BI mg) (c_p_is_line : Has P w K mg base 5 "is_line" A_p_is_line SP_isl) (c_p_is_closed : Has P w K mg base 5 "is_closed" A_p_is_closed (SP_icl P w)) : Has P w K mg base 6 "map_book_holds" A_p_map_book_holds SP_mbh := by
  refine at_mk a sc_p_map_book_holds fun f cdv A outer s H E hr ds G R hl h => ?_
  refine ⟨_, (dss_cons (ds_if (dt_w (dw_or (dt_not (dt_e (de_callB cd_isi B.isi rfl (by decide +kernel) (da_cons (dv 2) (da_cons (de_ty (n := "tuple") B.tup rfl (by decide +kernel)) da_nil))))) (dw_or1 (dt_not (dt_e (de_callB (cd_all rfl) B.all rfl (by decide +kernel) (da_cons (de_lc (own := [("line", 3)]) (lt1 (i := 3) (by decide)) rfl sc_p_map_book_holds.nd (di_tup (dv 2)) (blkOk_by (own := [("line", 3)]) (N := N_p_map_book_holds) (sc := defScope s_p_map_book_holds) (by decide +kernel)) (fun _ _ _ _ _ => pg_name (i := 3) sc_p_map_book_holds.nd rfl (Or.inl rfl)) (fun _ _ _ _ _ => dts_nil) (fun _ _ _ _ _ => (de_call c_p_is_line (hr.mono (by omega)) rfl (da_cons (dv 3) (da_cons (dv 0) (da_cons (dv 1) da_nil)))))) da_nil))))))) (dss_one (ds_ret de_bl)) dss_nil)
    (dss_cons (ds_set (i := 6) sc_p_map_book_holds.nd rfl (.inr rfl) (de_mdc (own := [("done", 4), ("row", 5)]) (DD.hu2_of hr) (lt2 (i := 4) (j := 5) (by decide) (by decide)) rfl sc_p_map_book_holds.nd (di_tup (dv 2)) (blkOk_by (own := [("done", 4), ("row", 5)]) (N := N_p_map_book_holds) (sc := defScope s_p_map_book_holds) (by decide +kernel)) (fun _ _ _ _ _ => pg_tup rfl (pgs_cons (pg_name (i := 4) sc_p_map_book_holds.nd rfl (Or.inl rfl)) (pgs_cons (pg_name (i := 5) sc_p_map_book_holds.nd rfl (Or.inl rfl)) pgs_nil))) (fun _ _ _ _ _ => dts_nil) (fun _ _ _ _ _ => (dv 4)) (fun _ _ _ _ _ => (dv 5))))
    (dss_cons (ds_if (dt_w (dw_or (dt_cmp (od_ne hr.units) (de_callB cd_lenM B.len rfl (by decide +kernel) (da_cons (dv 6) da_nil)) (de_callB cd_len B.len rfl (by decide +kernel) (da_cons (dv 2) da_nil)) (nomark _)) (dw_or1 (dt_cmp (od_ne hr.units) (de_mget1 (DD.hu2_of hr) (dv 6) (de_tup (da_cons de_int (da_cons (de_tup da_nil) da_nil)))) (de_tup da_nil) (nomark _))))) (dss_one (ds_ret de_bl)) dss_nil)
    (dss_one (ds_ret (de_callB (cd_all rfl) B.all rfl (by decide +kernel) (da_cons (de_lc2 (own := [("row", 5), ("word", 7)]) (vs1 := [7]) (lt1 (i := 5) (by decide)) (lt1 (i := 7) (by decide)) (by decide) rfl sc_p_map_book_holds.nd (di_mvals (dv 6)) (blkOk_by (own := [("row", 5), ("word", 7)]) (N := N_p_map_book_holds) (sc := defScope s_p_map_book_holds) (by decide +kernel)) (fun _ _ _ _ _ => pg_name (i := 5) sc_p_map_book_holds.nd rfl (Or.inl rfl)) (fun _ _ _ _ _ => (dts_one (dt_cmp od_lt (de_callB cd_len B.len rfl (by decide +kernel) (da_cons (dv 5) da_nil)) (dv 1) (nomark _)))) (fun _ _ _ _ _ => (di_tup (dv 0))) (fun _ _ _ _ _ => pg_name (i := 7) sc_p_map_book_holds.nd rfl (Or.inl rfl)) (fun _ _ _ _ _ => dts_nil) (fun _ _ _ _ _ => (de_call c_p_is_closed (hr.mono (by omega)) rfl (da_cons (dv 6) (da_cons (dv 5) (da_cons (dv 7) da_nil)))))) da_nil))))))), ?_⟩
  obtain ⟨few, most, bk, rfl, bo, q⟩ := h
  obtain ⟨gf, ne, lf, lm, lb, rows, nd, nl, cl⟩ := bo
  walk_at "dw"
  refine lcs_pure (fun _ => some (.bl true)) (fun _ _ => trivial) (by rw [List.length_map]; omega) ?_ ?_
  · intro y hy G' k1 k0 s' e1 e0
    obtain ⟨r, hr, rfl⟩ := List.mem_map.mp hy
    walk_at "dw"
    exact ⟨r, few, most, rfl, gf, lf, lm, (rows r hr).1, (rows r hr).2, e1 _ rfl⟩
  intro p G1 np s1 hp
  have e : (bk.map fun r => DV.tup [mkD (mapP r), eRow r]).filterMap (fun _ => some (DV.bl true)) = (bk.map fun _ => true).map DV.bl := by
    rw [List.filterMap_map, List.map_map]; exact List.filterMap_eq_map ▸ rfl
  rw [e] at hp
  walk_at "dw"
  refine w_allL hp ?_
  rw [alls_map]
  walk_at "dw"
  intro pd npd
  have ng : G pd = none := by
    cases z : G pd with
    | none => rfl
    | some o => have := s1 _ _ z; rw [npd] at this; cases this
  refine ⟨fun i kvs G' => kvs = (bk.take i).map kv ∧ i ≤ bk.length ∧ Sub G G' ∧ ∃ ob, G' pd = some (mdG P w ob kvs), ⟨rfl, Nat.zero_le _, s1.new ng, _, dupd_same⟩, fun _ _ _ _ => trivial, ?_, ?_⟩
  · rintro i d kvs G2 hd ⟨ek, hi, s2, ob, h2⟩
    rw [List.getElem?_map] at hd
    obtain ⟨r, hr, rfl⟩ := Option.map_eq_some_iff.mp hd
    have li : i < bk.length := (List.getElem?_eq_some_iff.mp hr).1
    walk_at "dw"
    refine ⟨mapP r, r.map eX, ob, rfl, rfl, h2, midlt (by rw [ek, List.length_map, List.length_take]; omega), fun ob' => ⟨?_, li, sub_up Upd.mk s2 ng, ob', dupd_same⟩⟩
    rw [ek]
    unfold putM
    rw [val_pre nd hr, if_neg (by decide), List.take_add_one, hr, List.map_append]
    rfl
  rintro kvs G2 ⟨ek, _, s2, ob, h2⟩
  rw [List.length_map, List.take_length] at ek
  subst ek
  walk_at "dw"
  refine ⟨pd, ob, _, rfl, h2, ?_⟩
  walk_at "dw"
  rw [List.length_map, List.length_map]
  refine w_iteN (fun z => absurd rfl z) (fun _ => ?_)
  walk_at "dw"
  refine ⟨pd, rfl, ⟨_, _, h2⟩, ?_⟩
  walk_at "dw"
  refine ⟨_, _, (0, []), rfl, h2, ?_⟩
  rw [show valM (bk.map kv) (0, []) = some (eRow []) from (val_find bk (0, [])).trans (by rw [nl]; rfl)]
  walk_at "dw"
  show bEq true (.tup []) (.tup []) _ _
  refine w_neTT cm0 cm0 rfl rfl ?_
  walk_at "dw"
  refine ⟨pd, ob, _, rfl, h2, ?_⟩
  refine lc2s_rep (.bl true) few.length (fun d δ2 xs => ∃ r, d = eRow r ∧ r ∈ bk ∧ r.length < most ∧ δ2 = [some (eRow few), some (.int (most : Int)), some (lines bk), none, none, some (eRow r), some (.ref pd), none] ∧ xs = few.map eX) (fun G' s' => s' _ _ h2) ?_ ?_ ?_ ?_ ?_
  · rintro d hd δ2 xs ⟨r, rfl, hr, lr, rfl, rfl⟩
    rw [List.length_map]; exact Nat.le_refl _
  · rw [List.length_map, List.length_map]
    exact Nat.le_trans (Nat.mul_le_mul lb lf) (by decide)
  · intro d hd G' k1 k0 s' e1 e0
    obtain ⟨y, hy, rfl⟩ := List.mem_map.mp hd
    obtain ⟨r, hr, rfl⟩ := List.mem_map.mp hy
    walk_at "dw"
    rw [List.length_map]
    refine w_iteD (fun z => ?_) (fun _ => e0)
    walk_at "dw"
    exact e1 _ _ _ ⟨r, rfl, hr, by omega, rfl, rfl⟩ fun _ _ => trivial
  · rintro d hd δ2 xs ⟨r, rfl, hr, lr, rfl, rfl⟩ y hy G' k1 k0 s' e1
    obtain ⟨x, hx, rfl⟩ := List.mem_map.mp hy
    obtain ⟨s, hs, ls⟩ := cl r hr lr x hx
    walk_at "dw"
    refine ⟨pd, ob, bk, r, s, x, rfl, s' _ _ h2, fun z hz => ?_, by omega, hs, ls, e1⟩
    rcases List.mem_append.mp hz with z1 | z1
    · exact gf z ((rows r hr).2 z z1)
    · rw [List.mem_singleton.mp z1]; exact gf x hx
  · intro p5 G5 n n5 s5 h5
    rw [← List.map_replicate (f := DV.bl)] at h5
    walk_at "dw"
    refine w_allL h5 ?_
    rw [alls_rep]
    exact ⟨G, s2.trans s5, q⟩
end
/-! how many maps there are: a search in numbers, which the kernel can go through -/
def upN (need : Nat) : Nat → List Nat → List Nat
  | 0, ts => ts
  | k + 1, ts => (need + k) :: upN need k ts
def leftN (n : Nat) (ps us : List Nat) : List Nat := us.take (us.length - n) ++ ps.map fun p => (us.drop (us.length - n)).getD p 0
def stepN (st : Nat × List Nat) (x : Nat × List Nat) : Nat × List Nat := (st.1 + (x.1 - st.2.length), leftN x.1 x.2 (upN st.1 (x.1 - st.2.length) st.2))
def hasN (c : Nat) : List Nat → Bool
  | [] => false
  | p :: r => match Nat.beq p c with
    | true => true
    | false => hasN c r
/-- the rest behind the picks that stay, with c: l the picks from c on -/
def cutN : List Nat → Nat → Nat × List Nat
  | [], c => (c, [])
  | p :: r, c => match Nat.beq p c with
    | false => (c, p :: r)
    | true => match hasN c r with
      | true => (c, p :: r)
      | false => cutN r (c + 1)
def keyN (st : Nat × List Nat) : Nat × List Nat :=
  match cutN (st.2.map fun t => st.1 - 1 - t) 0 with
  | (c, l) => (st.1 + 100 - c, l.map fun p => p + 100 - c)
def code (k : Nat × List Nat) : Nat := k.2.foldl (fun a p => a * 256 + p) k.1
def eqL : List Nat → List Nat → Bool
  | [], [] => true
  | a :: r, b :: s => match Nat.beq a b with
    | true => eqL r s
    | false => false
  | _, _ => false
def eqK (a b : Nat × List Nat) : Bool := match Nat.beq a.1 b.1 with
  | true => eqL a.2 b.2
  | false => false
inductive Tr
  | lf
  | nd (l : Tr) (c : Nat) (k : Nat × List Nat) (r : Tr)
def mem (c : Nat) (k : Nat × List Nat) : Tr → Bool
  | .lf => false
  | .nd l c' k' r => match Nat.blt c c' with
    | true => mem c k l
    | false => match Nat.blt c' c with
      | true => mem c k r
      | false => match eqK k k' with
        | true => true
        | false => mem c k r
def ins (c : Nat) (k : Nat × List Nat) : Tr → Tr
  | .lf => .nd .lf c k .lf
  | .nd l c' k' r => match Nat.blt c c' with
    | true => .nd (ins c k l) c' k' r
    | false => match Nat.blt c' c with
      | true => .nd l c' k' (ins c k r)
      | false => match eqK k k' with
        | true => .nd l c' k' r
        | false => .nd l c' k' (ins c k r)
abbrev NS := Nat × List Nat
def runN : List NS → Tr → Nat → List NS → (Tr → Nat → List NS → Bool) → Bool
  | [], t, n, acc, q => q t n acc
  | s :: ss, t, n, acc, q => match mem (code (keyN s)) (keyN s) t with
    | true => runN ss t n acc q
    | false => runN ss (ins (code (keyN s)) (keyN s) t) (n + 1) (s :: acc) q
def lvl (few : List NS) : Nat → (Tr → Nat → List NS → Bool) → Bool
  | 0, q => q (ins (code (keyN (0, []))) (keyN (0, [])) .lf) 1 [(0, [])]
  | n + 1, q => lvl few n fun t m acc => runN (acc.reverse.flatMap fun s => few.map (stepN s)) t m [] q
theorem has_iff (c : Nat) : ∀ r : List Nat, hasN c r = true ↔ c ∈ r
  | [] => by simp [hasN]
  | p :: r => by
    unfold hasN
    cases h : Nat.beq p c with
    | true => have := Nat.eq_of_beq_eq_true h; subst this; simp
    | false =>
      have n : c ≠ p := fun e => by rw [e, Nat.beq_refl] at h; cases h
      show hasN c r = true ↔ _
      rw [has_iff c r, List.mem_cons]
      exact ⟨.inr, fun z => z.resolve_left n⟩
theorem eqL_iff : ∀ a b : List Nat, eqL a b = true ↔ a = b
  | [], [] => by simp [eqL]
  | [], _ :: _ => by simp [eqL]
  | _ :: _, [] => by simp [eqL]
  | x :: a, y :: b => by
    unfold eqL
    cases h : Nat.beq x y with
    | true => have := Nat.eq_of_beq_eq_true h; subst this; show eqL a b = true ↔ _; rw [eqL_iff a b]; simp
    | false =>
      have n : x ≠ y := fun e => by rw [e, Nat.beq_refl] at h; cases h
      simp [n]
theorem eqK_iff (a b : Nat × List Nat) : eqK a b = true ↔ a = b := by
  unfold eqK
  cases h : Nat.beq a.1 b.1 with
  | true =>
    have := Nat.eq_of_beq_eq_true h
    show eqL a.2 b.2 = true ↔ _
    rw [eqL_iff]
    exact ⟨fun e => Prod.ext this e, fun e => congrArg Prod.snd e⟩
  | false =>
    refine ⟨fun z => (nomatch z), fun e => ?_⟩
    rw [e, Nat.beq_refl] at h; cases h
theorem blt_iff (a b : Nat) : Nat.blt a b = true ↔ a < b := by show Nat.ble (a + 1) b = true ↔ _; rw [Nat.ble_eq]; exact Iff.rfl
theorem mem_ins (c : Nat) (k : Nat × List Nat) (c2 : Nat) (k2 : Nat × List Nat) : ∀ t : Tr, mem c2 k2 (ins c k t) = true ↔ mem c2 k2 t = true ∨ (c2 = c ∧ k2 = k)
  | .lf => by
    show mem c2 k2 (.nd .lf c k .lf) = true ↔ (false = true) ∨ _
    unfold mem
    cases h : Nat.blt c2 c with
    | true =>
      have := (blt_iff _ _).mp h
      show (false = true) ↔ _
      exact ⟨fun z => (nomatch z), fun z => by
        rcases z with z | ⟨z, _⟩
        · cases z
        · omega⟩
    | false =>
      have h' : ¬ c2 < c := fun z => by rw [(blt_iff _ _).mpr z] at h; cases h
      cases g : Nat.blt c c2 with
      | true =>
        have := (blt_iff _ _).mp g
        show (false = true) ↔ _
        exact ⟨fun z => (nomatch z), fun z => by
        rcases z with z | ⟨z, _⟩
        · cases z
        · omega⟩
      | false =>
        have g' : ¬ c < c2 := fun z => by rw [(blt_iff _ _).mpr z] at g; cases g
        have e : c2 = c := by omega
        cases q : eqK k2 k with
        | true => exact ⟨fun _ => .inr ⟨e, (eqK_iff _ _).mp q⟩, fun _ => rfl⟩
        | false =>
          show (false = true) ↔ _
          exact ⟨fun z => (nomatch z), fun z => by
            rcases z with z | ⟨_, z⟩
            · cases z
            · rw [z, (eqK_iff k k).mpr rfl] at q; cases q⟩
  | .nd l c' k' r => by
    have il := mem_ins c k c2 k2 l
    have ir := mem_ins c k c2 k2 r
    unfold ins
    cases h : Nat.blt c c' with
    | true =>
      have hc := (blt_iff _ _).mp h
      show mem c2 k2 (.nd (ins c k l) c' k' r) = true ↔ _
      unfold mem
      cases g : Nat.blt c2 c' with
      | true => exact il
      | false =>
        have g' : ¬ c2 < c' := fun z => by rw [(blt_iff _ _).mpr z] at g; cases g
        exact ⟨.inl, fun z => z.resolve_right fun z => by omega⟩
    | false =>
      have h' : ¬ c < c' := fun z => by rw [(blt_iff _ _).mpr z] at h; cases h
      have right : mem c2 k2 (.nd l c' k' (ins c k r)) = true ↔ mem c2 k2 (.nd l c' k' r) = true ∨ (c2 = c ∧ k2 = k) := by
        unfold mem
        cases g : Nat.blt c2 c' with
        | true =>
          have := (blt_iff _ _).mp g
          exact ⟨.inl, fun z => z.resolve_right fun z => by omega⟩
        | false =>
          cases g2 : Nat.blt c' c2 with
          | true => exact ir
          | false =>
            cases q : eqK k2 k' with
            | true => exact ⟨fun _ => .inl rfl, fun _ => rfl⟩
            | false => exact ir
      cases g : Nat.blt c' c with
      | true => exact right
      | false =>
        cases q : eqK k k' with
        | false => exact right
        | true =>
          have g' : ¬ c' < c := fun z => by rw [(blt_iff _ _).mpr z] at g; cases g
          have e : c = c' := by omega
          have ek := (eqK_iff _ _).mp q
          subst e; subst ek
          show mem c2 k2 (.nd l c k r) = true ↔ _
          refine ⟨.inl, fun z => ?_⟩
          rcases z with z | ⟨z1, z2⟩
          · exact z
          · subst z1; subst z2
            unfold mem
            rw [show Nat.blt c2 c2 = false from by cases q2 : Nat.blt c2 c2 with | false => rfl | true => have := (blt_iff _ _).mp q2; omega, (eqK_iff k2 k2).mpr rfl]
/-- a state of the search in numbers -/
def castS (s : NS) : Nat × List Int := (s.1, s.2.map fun t : Nat => (t : Int))
theorem cast_up (need : Nat) (ts : List Nat) : ∀ k, (upN need k ts).map (fun t : Nat => (t : Int)) = up need k (ts.map fun t : Nat => (t : Int))
  | 0 => rfl
  | k + 1 => by show _ :: _ = _ :: _; rw [cast_up need ts k]
theorem cast_left (n : Nat) (ps us : List Nat) : (leftN n ps us).map (fun t : Nat => (t : Int)) = left n ps (us.map fun t : Nat => (t : Int)) := by
  unfold leftN left
  rw [List.map_append, List.length_map, List.map_take, List.map_map]
  refine congrArg (List.take (us.length - n) (us.map fun t : Nat => (t : Int)) ++ ·) (List.map_congr_left fun p _ => ?_)
  show (((us.drop (us.length - n)).getD p 0 : Nat) : Int) = _
  rw [← List.map_drop, List.getD_eq_getElem?_getD, List.getD_eq_getElem?_getD, List.getElem?_map]
  cases (us.drop (us.length - n))[p]? <;> rfl
def stepW (s : NS) (x : Cm.Wd) : NS := stepN s (x.1, pk x)
def stN (r : List Cm.Wd) : NS := r.foldl stepW (0, [])
theorem stN_snoc (r : List Cm.Wd) (x : Cm.Wd) : stN (r ++ [x]) = stepW (stN r) x := by unfold stN; rw [List.foldl_append]; rfl
theorem cast_step (s : NS) (x : Cm.Wd) : castS (stepW s x) = wstep (castS s) x := by
  refine Prod.ext ?_ ?_
  · show s.1 + (x.1 - s.2.length) = s.1 + (x.1 - (s.2.map fun t : Nat => (t : Int)).length)
    rw [List.length_map]
  · show (leftN x.1 (pk x) (upN s.1 (x.1 - s.2.length) s.2)).map (fun t : Nat => (t : Int)) = left x.1 (pk x) (up s.1 (x.1 - (s.2.map fun t : Nat => (t : Int)).length) (s.2.map fun t : Nat => (t : Int)))
    rw [cast_left, cast_up, List.length_map]
theorem cast_run : ∀ (r : List Cm.Wd) (s : NS), castS (r.foldl stepW s) = wrun (castS s) r
  | [], _ => rfl
  | x :: r, s => by show castS (r.foldl stepW (stepW s x)) = wrun (wstep (castS s) x) r; rw [cast_run r, cast_step]
theorem cast_stN (r : List Cm.Wd) : castS (stN r) = wrun (0, []) r := cast_run r (0, [])
theorem cutN_is {ps : List Nat} : ∀ (l : List Nat) (c : Nat), l = ps.drop c → (∀ j, j < c → Stays (ps.map fun p : Nat => (p : Int)) j) → ∃ d, cutN l c = (d, ps.drop d) ∧ IsCut (ps.map fun p : Nat => (p : Int)) d
  | [], c, e, h => by
    refine ⟨c, by show (c, []) = _; rw [e], h, fun s => ?_⟩
    have := s.lt
    rw [List.length_map] at this
    have : (ps.drop c).length = 0 := by rw [← e]; rfl
    rw [List.length_drop] at this; omega
  | p :: r, c, e, h => by
    have hp : ps[c]? = some p := by
      have := congrArg (·[0]?) e
      rw [List.getElem?_drop] at this
      exact this.symm
    have hr : ps.drop (c + 1) = r := by
      rw [← List.drop_drop, ← e]; rfl
    have gp : (ps.map fun p : Nat => (p : Int))[c]? = some (p : Int) := by rw [List.getElem?_map, hp]; rfl
    unfold cutN
    cases b : Nat.beq p c with
    | false =>
      refine ⟨c, congrArg _ e, h, fun s => ?_⟩
      have := gp.symm.trans s.1
      have : p = c := by have := Option.some.inj this; omega
      rw [this, Nat.beq_refl] at b; cases b
    | true =>
      have pc := Nat.eq_of_beq_eq_true b
      subst pc
      cases q : hasN p r with
      | true =>
        refine ⟨p, congrArg _ e, h, fun s => s.2 ?_⟩
        rw [← List.map_drop, hr]
        exact List.mem_map.mpr ⟨p, (has_iff p r).mp q, rfl⟩
      | false =>
        refine cutN_is r (p + 1) hr.symm fun j hj => ?_
        rcases Nat.lt_succ_iff_lt_or_eq.mp hj with z | rfl
        · exact h j z
        · refine ⟨gp, fun m => ?_⟩
          rw [← List.map_drop, hr] at m
          obtain ⟨x, hx, ex⟩ := List.mem_map.mp m
          have : x = j := by omega
          subst this
          rw [(has_iff x r).mpr hx] at q; cases q
def shK (k : Nat × List Nat) : MK := ((k.1 : Int) - 100, k.2.map fun p : Nat => (p : Int) - 100)
theorem shK_inj {a b : Nat × List Nat} (h : shK a = shK b) : a = b := by
  have h1 : (a.1 : Int) - 100 = (b.1 : Int) - 100 := congrArg Prod.fst h
  have h2 : a.2.map (fun p : Nat => (p : Int) - 100) = b.2.map fun p : Nat => (p : Int) - 100 := congrArg Prod.snd h
  refine Prod.ext (by omega) ?_
  have inj : ∀ l l' : List Nat, l.map (fun p : Nat => (p : Int) - 100) = l'.map (fun p : Nat => (p : Int) - 100) → l = l' := by
    intro l
    induction l with
    | nil => intro l' h; cases l' with
      | nil => rfl
      | cons _ _ => cases h
    | cons x l ih => intro l' h; cases l' with
      | nil => cases h
      | cons y l' =>
        obtain ⟨h1, h2⟩ := List.cons.inj h
        have h1 : (x : Int) - 100 = (y : Int) - 100 := h1
        rw [ih l' h2, show x = y by omega]
  exact inj _ _ h2
theorem mapP_key {r : List Cm.Wd} (g : Good r) (l : r.length ≤ 8) : mapP r = shK (keyN (stN r)) := by
  have st := stt0.run g
  have e := cast_stN r
  generalize stN r = s at e
  rw [← e] at st
  have e1 : (wmap r).1 = s.1 := by show (wrun (0, []) r).1 = _; rw [← e]; rfl
  have e2 : (wmap r).2 = (s.2.map fun t => s.1 - 1 - t).map fun p : Nat => (p : Int) := by
    show (wrun (0, []) r).2.map _ = _
    rw [← e, List.map_map]
    show (s.2.map fun t : Nat => (t : Int)).map (fun t => (s.1 : Int) - 1 - t) = _
    rw [List.map_map]
    refine List.map_congr_left fun t ht => ?_
    have := st.inn (t : Int) (List.mem_map.mpr ⟨t, ht, rfl⟩)
    have : (t : Int) < (s.1 : Int) := this.2
    show (s.1 : Int) - 1 - (t : Int) = ((s.1 - 1 - t : Nat) : Int)
    omega
  obtain ⟨d, hd, ic⟩ := cutN_is (ps := s.2.map fun t => s.1 - 1 - t) _ 0 rfl fun j hj => absurd hj (Nat.not_lt_zero j)
  have dl : d ≤ 100 := by
    by_cases z : d = 0
    · omega
    · have := (ic.1 (d - 1) (by omega)).lt
      rw [List.length_map, List.length_map] at this
      have := st.len
      have : (s.2.map fun t : Nat => (t : Int)).length ≤ 12 * (0 + r.length) := this
      rw [List.length_map] at this
      omega
  have ec : cutC ((s.2.map fun t => s.1 - 1 - t).map fun p : Nat => (p : Int)) = d := (cutC_is _).uniq ic
  unfold mapP lmO
  rw [e1, e2, ec]
  have ek : keyN s = (s.1 + 100 - d, ((s.2.map fun t => s.1 - 1 - t).drop d).map fun p => p + 100 - d) := by
    unfold keyN
    rw [List.drop_zero] at hd
    rw [hd]
  rw [ek]
  unfold shK cutM
  refine Prod.ext ?_ ?_
  · show (s.1 : Int) - (d : Int) = ((s.1 + 100 - d : Nat) : Int) - 100
    omega
  · show ((((s.2.map fun t => s.1 - 1 - t).map fun p : Nat => (p : Int)).drop d).map fun p => p - (d : Int)) = (((s.2.map fun t => s.1 - 1 - t).drop d).map fun p => p + 100 - d).map (fun p : Nat => (p : Int) - 100)
    rw [← List.map_drop, List.map_map, List.map_map]
    refine List.map_congr_left fun p _ => ?_
    show (p : Int) - (d : Int) = ((p + 100 - d : Nat) : Int) - 100
    omega
def RowOk (r : List Cm.Wd) : Prop := Good r ∧ r.length ≤ 8
def kN (r : List Cm.Wd) : Nat × List Nat := keyN (stN r)
theorem key_iff {r s : List Cm.Wd} (hr : RowOk r) (hs : RowOk s) : mapP r = mapP s ↔ kN r = kN s := by
  rw [mapP_key hr.1 hr.2, mapP_key hs.1 hs.2]
  exact ⟨shK_inj, fun e => congrArg shK e⟩
def memK (k : Nat × List Nat) (t : Tr) : Bool := mem (code k) k t
theorem memK_ins (k k2 : Nat × List Nat) (t : Tr) : memK k2 (ins (code k) k t) = true ↔ memK k2 t = true ∨ k2 = k := by
  unfold memK
  rw [mem_ins]
  exact ⟨fun z => z.imp_right And.right, fun z => z.imp_right fun e => ⟨congrArg code e, e⟩⟩
structure Rel (st : List (List Cm.Wd) × List (List Cm.Wd)) (t : Tr) (n : Nat) (acc : List NS) : Prop where
  ok : ∀ s ∈ st.1, RowOk s
  m : ∀ k, memK k t = true ↔ ∃ s ∈ st.1, kN s = k
  n : n = st.1.length
  a : acc = (st.2.map stN).reverse
theorem Rel.mem {st : List (List Cm.Wd) × List (List Cm.Wd)} {t : Tr} {n : Nat} {acc : List NS} (h : Rel st t n acc) {r : List Cm.Wd} (hr : RowOk r) : memK (kN r) t = true ↔ mapP r ∈ st.1.map mapP := by
  rw [h.m]
  constructor
  · rintro ⟨s, hs, e⟩
    exact List.mem_map.mpr ⟨s, hs, (key_iff (h.ok s hs) hr).mpr e⟩
  · intro m
    obtain ⟨s, hs, e⟩ := List.mem_map.mp m
    exact ⟨s, hs, (key_iff (h.ok s hs) hr).mp e⟩
theorem sim : ∀ (rs : List (List Cm.Wd)) (st : List (List Cm.Wd) × List (List Cm.Wd)) (t : Tr) (n : Nat) (acc : List NS) (q : Tr → Nat → List NS → Bool), (∀ r ∈ rs, RowOk r) → Rel st t n acc →
    ∃ t' n' acc', runN (rs.map stN) t n acc q = q t' n' acc' ∧ Rel (Bfs.run mapP st rs) t' n' acc'
  | [], st, t, n, acc, q, _, h => ⟨t, n, acc, rfl, h⟩
  | r :: rs, st, t, n, acc, q, ok, h => by
    have hr := ok r (List.mem_cons_self ..)
    have ok' : ∀ r ∈ rs, RowOk r := fun x hx => ok x (List.mem_cons_of_mem _ hx)
    show ∃ t' n' acc', runN (stN r :: rs.map stN) t n acc q = q t' n' acc' ∧ Rel (Bfs.run mapP (Bfs.add mapP st r) rs) t' n' acc'
    unfold runN
    have hm := h.mem hr
    show ∃ t' n' acc', (match memK (kN r) t with | true => _ | false => _) = q t' n' acc' ∧ _
    cases b : memK (kN r) t with
    | true =>
      have e : Bfs.add mapP st r = st := by unfold Bfs.add; rw [if_pos (hm.mp b)]
      rw [e]
      exact sim rs st t n acc q ok' h
    | false =>
      have e : Bfs.add mapP st r = (st.1 ++ [r], st.2 ++ [r]) := by
        unfold Bfs.add
        rw [if_neg fun z => by rw [hm.mpr z] at b; cases b]
      rw [e]
      refine sim rs _ (ins (code (keyN (stN r))) (keyN (stN r)) t) (n + 1) (stN r :: acc) q ok' ⟨fun s hs => ?_, fun k => ?_, ?_, ?_⟩
      · rcases List.mem_append.mp hs with z | z
        · exact h.ok s z
        · rw [List.mem_singleton.mp z]; exact hr
      · rw [memK_ins, h.m]
        constructor
        · rintro (⟨s, hs, e⟩ | e)
          · exact ⟨s, List.mem_append_left _ hs, e⟩
          · exact ⟨r, List.mem_append_right _ (List.mem_singleton.mpr rfl), e.symm⟩
        · rintro ⟨s, hs, e⟩
          rcases List.mem_append.mp hs with z | z
          · exact .inl ⟨s, z, e⟩
          · rw [List.mem_singleton.mp z] at e; exact .inr e.symm
      · rw [h.n, List.length_append]; rfl
      · rw [h.a, List.map_append, List.reverse_append]; rfl
theorem more_mapN (tab : List NS) (rs : List (List Cm.Wd)) : (rs.flatMap (Bfs.more (tab.map fun x => wdOf x.1 x.2))).map stN = (rs.map stN).flatMap fun s => tab.map (stepN s) := by
  induction rs with
  | nil => rfl
  | cons r rs ih =>
    rw [List.flatMap_cons, List.map_append, ih, List.map_cons, List.flatMap_cons]
    refine congrArg (· ++ _) ?_
    unfold Bfs.more
    rw [List.map_map, List.map_map]
    refine List.map_congr_left fun x _ => ?_
    show stN (r ++ [wdOf x.1 x.2]) = stepN (stN r) x
    rw [stN_snoc]
    unfold stepW
    rw [pk_wd]; rfl
theorem lvl_is {tab : List NS} (gf : Good (tab.map fun x => wdOf x.1 x.2)) : ∀ (L : Nat), L ≤ 8 → ∀ q, ∃ t n acc, lvl tab L q = q t n acc ∧ Rel (bfsW (tab.map fun x => wdOf x.1 x.2) L) t n acc
  | 0, _, q => by
    refine ⟨_, _, _, rfl, fun s hs => ?_, fun k => ?_, rfl, rfl⟩
    · rw [List.mem_singleton.mp hs]; exact ⟨fun x hx => (nomatch hx), Nat.zero_le _⟩
    · rw [memK_ins]
      constructor
      · rintro (z | e)
        · cases z
        · exact ⟨[], List.mem_singleton.mpr rfl, e.symm⟩
      · rintro ⟨s, hs, e⟩
        rw [List.mem_singleton.mp hs] at e; exact .inr e.symm
  | L + 1, hL, q => by
    obtain ⟨t, n, acc, e, h⟩ := lvl_is gf L (by omega) (fun t m acc => runN (acc.reverse.flatMap fun s => tab.map (stepN s)) t m [] q)
    have lg := bfs_long gf L
    obtain ⟨t', n', acc', e', h'⟩ := sim ((bfsW (tab.map fun x => wdOf x.1 x.2) L).2.flatMap (Bfs.more (tab.map fun x => wdOf x.1 x.2))) ((bfsW (tab.map fun x => wdOf x.1 x.2) L).1, []) t n [] q (fun r hr => by
      obtain ⟨s, hs, hr⟩ := List.mem_flatMap.mp hr
      obtain ⟨x, hx, rfl⟩ := List.mem_map.mp hr
      obtain ⟨g1, g2⟩ := lg s hs
      refine ⟨fun y hy => ?_, by rw [List.length_append, g2]; exact hL⟩
      rcases List.mem_append.mp hy with z | z
      · exact g1 y z
      · rw [List.mem_singleton.mp z]; exact gf x hx) ⟨h.ok, h.m, h.n, rfl⟩
    refine ⟨t', n', acc', ?_, h'⟩
    rw [← e', more_mapN]
    show lvl tab L _ = _
    rw [e, h.a, List.reverse_reverse]
/-- the maps of few words go on alike -/
theorem cong_few {few : List Cm.Wd} (gf : Good few) : ∀ (r r' : List Cm.Wd) (w : Cm.Wd), (∀ x ∈ r, x ∈ few) → (∀ x ∈ r', x ∈ few) → w ∈ few → mapP r = mapP r' → mapP (r ++ [w]) = mapP (r' ++ [w]) := fun r r' w h h' hw e => mapP_cong (fun x hx => gf x (h x hx)) (fun x hx => gf x (h' x hx)) (gf w hw) e
/-- for any order of the words -/
theorem bfs_perm {few few' : List Cm.Wd} (pm : few'.Perm few) (gf : Good few) (L : Nat) : (∀ k, k ∈ (bfsW few' L).1.map mapP ↔ k ∈ (bfsW few L).1.map mapP) ∧ (bfsW few' L).1.length = (bfsW few L).1.length := by
  have gf' : Good few' := fun x hx => gf x (pm.mem_iff.mp hx)
  have one : ∀ {a b : List Cm.Wd}, Good a → Good b → (∀ x ∈ a, x ∈ b) → ∀ k, k ∈ (bfsW a L).1.map mapP → k ∈ (bfsW b L).1.map mapP := by
    intro a b ga gb hab k hk
    obtain ⟨r, hr, rfl⟩ := List.mem_map.mp hk
    obtain ⟨l, hx⟩ := Bfs.upto_few a L r (Bfs.bfs_mem mapP a (cong_few ga) L r hr)
    have hu : r ∈ Bfs.upto b L := Bfs.mem_upto b (fun x h => hab x (hx x h)) l
    have f := Bfs.bfs_find mapP b (cong_few gb) L (mapP r)
    cases e : (Bfs.upto b L).find? (fun s => decide (mapP s = mapP r)) with
    | none => exact absurd (decide_eq_true rfl) (List.find?_eq_none.mp e r hu)
    | some s =>
      rw [e] at f
      refine List.mem_map.mpr ⟨s, List.mem_of_find?_eq_some f, ?_⟩
      exact of_decide_eq_true (List.find?_some (p := fun s => decide (mapP s = mapP r)) f)
  have hk : ∀ k, k ∈ (bfsW few' L).1.map mapP ↔ k ∈ (bfsW few L).1.map mapP := fun k => ⟨one gf' gf (fun x hx => pm.mem_iff.mp hx) k, one gf gf' (fun x hx => pm.mem_iff.mpr hx) k⟩
  refine ⟨hk, ?_⟩
  have p := (List.perm_ext_iff_of_nodup (Bfs.bfs_nodup mapP few' (cong_few gf') L) (Bfs.bfs_nodup mapP few (cong_few gf) L)).mpr hk
  have := p.length_eq
  rw [List.length_map, List.length_map] at this
  exact this
local macro_rules | `(tactic| walk_at "dm") => `(tactic| repeat (first | walk_at "d1" | (with_reducible refine w_mget ?_) | (with_reducible refine w_mget1 ?_) | (with_reducible refine w_min_ ?_) | (with_reducible refine w_fldS ?_) | (with_reducible refine w_fld ?_) | (with_reducible refine Y.w_methX ?_) | (with_reducible refine Y.w_raise ?_) | (with_reducible refine w_meth ?_) | (with_reducible refine w_make ?_)))
/-- how many maps there are -/
noncomputable def lnW (few : List Cm.Wd) (L : Nat) : Nat := (bfsW few L).1.length
theorem run_two : ∀ (rs : List (List Cm.Wd)) (st : List (List Cm.Wd) × List (List Cm.Wd)), (Bfs.run mapP st rs).2.length + st.1.length = (Bfs.run mapP st rs).1.length + st.2.length
  | [], st => Nat.add_comm _ _
  | r :: rs, st => by
    have ih := run_two rs (Bfs.add mapP st r)
    show (Bfs.run mapP (Bfs.add mapP st r) rs).2.length + st.1.length = (Bfs.run mapP (Bfs.add mapP st r) rs).1.length + st.2.length
    have e : (Bfs.add mapP st r).1.length + st.2.length = st.1.length + (Bfs.add mapP st r).2.length := by
      unfold Bfs.add
      split
      · rfl
      · rw [List.length_append, List.length_append]; show st.1.length + 1 + _ = _ + (_ + 1); omega
    omega
theorem bfs_two (few : List Cm.Wd) : ∀ L, (bfsW few L).2.length ≤ (bfsW few L).1.length
  | 0 => Nat.le_refl _
  | L + 1 => by
    have := run_two ((bfsW few L).2.flatMap (Bfs.more few)) ((bfsW few L).1, [])
    have e1 : bfsW few (L + 1) = Bfs.run mapP ((bfsW few L).1, []) ((bfsW few L).2.flatMap (Bfs.more few)) := rfl
    rw [e1]
    have e : ((bfsW few L).1, ([] : List (List Cm.Wd))).2.length = 0 := rfl
    omega
theorem more_len (few : List Cm.Wd) (rs : List (List Cm.Wd)) : (rs.flatMap (Bfs.more few)).length = rs.length * few.length := by
  induction rs with
  | nil => rw [List.length_nil, Nat.zero_mul]; rfl
  | cons r rs ih => rw [List.flatMap_cons, List.length_append, ih, List.length_cons, Nat.succ_mul, Nat.add_comm]; unfold Bfs.more; rw [List.length_map]
theorem room {few : List Cm.Wd} {L : Nat} (lf : few.length ≤ 10) (h : lnW few L ≤ 1200) : (bfsW few L).1.length + ((bfsW few L).2.flatMap (Bfs.more few)).length ≤ 100000 := by
  have a := bfs_two few L
  have b : (bfsW few L).2.length * few.length ≤ 1200 * 10 := Nat.mul_le_mul (Nat.le_trans a h) lf
  have h : (bfsW few L).1.length ≤ 1200 := h
  rw [more_len]; omega
theorem zero_ok {few : List Cm.Wd} {L : Nat} (h : L ≤ 0) : lnW few L ≤ 1200 := by
  obtain rfl : L = 0 := by omega
  show 1 ≤ 1200; decide
def tmF (n : Nat) : List (Str × DV) := [("most", .int 1200), ("many", .int (n : Int))]
section
variable {P : Program} {w : World} {K : Frag} {mg : Str → Option Value} {base : Heap}
def SP_rtY (P : Program) (w : World) (C eT : Addr) : Y.DSpX := fun ds G R RX => ∃ few a pd pl ob st, ds = [.ref a] ∧ Srch P w C few a pd pl ob st G ∧ (st.1.length ≤ 1200 → R .non G) ∧ (1200 < st.1.length → RX (.ref eT) (tmF st.1.length) G)
noncomputable def SP_mbY (eT : Addr) : Y.DSpX := fun ds G R RX => ∃ (few : List Cm.Wd) (most : Nat), ds = [eRow few, .int (most : Int)] ∧ Good few ∧ few.length ≤ 10 ∧ most ≤ 18 ∧ ((∀ L, L ≤ most → lnW few L ≤ 1200) → R (lines (bfsW few most).1) G) ∧
  ∀ L, L < most → (∀ L', L' ≤ L → lnW few L' ≤ 1200) → 1200 < lnW few (L + 1) → RX (.ref eT) (tmF (lnW few (L + 1))) G
theorem hY_p_MapSearch_refuse_too_many {C eT : Addr} {C : Addr} (a : AtM K C "refuse_too_many" "MapSearch.refuse_too_many" s_p_MapSearch_refuse_too_many A_p_MapSearch_refuse_too_many) (B : BI mg) (T : ClsM K C) (TM : ExI P w K mg base 1 "TooMany" eT ["many", "most"]) (g_MOST_MAPS : ∃ t, mg "MOST_MAPS" = some (.int 1200 t)) : Y.HasMX P w K mg base 3 C "refuse_too_many" A_p_MapSearch_refuse_too_many (SP_rtY P w C eT) := by
  refine Y.atmx_mk a sc_p_MapSearch_refuse_too_many fun f cdv A outer s H E hr ds G R RX hl hx h => ?_
  refine ⟨_, (dss_one (ds_if (dt_cmp od_gt (de_callB cd_lenM B.len rfl (by decide +kernel) (da_cons (de_fld (dv 0)) da_nil)) (de_gint g_MOST_MAPS rfl) (nomark _)) (dss_one (Y.ds_raise TM rfl hx (takes_of rfl rfl rfl rfl) hr rfl (da_cons (de_callB cd_lenM B.len rfl (by decide +kernel) (da_cons (de_fld (dv 0)) da_nil)) (da_cons (de_gint g_MOST_MAPS rfl) da_nil)))) dss_nil)), ?_⟩
  obtain ⟨few, a, pd, pl, ob, st, rfl, S, q, qx⟩ := h
  obtain ⟨hC, nF, nR, nL⟩ := T
  walk_at "dm"
  refine ⟨_, _, _, _, rfl, S.o, hC, nR, rfl, ?_⟩
  walk_at "dm"
  refine ⟨_, _, _, rfl, S.d, ?_⟩
  rw [List.length_map]
  walk_at "dm"
  refine w_iteD (fun z => ?_) (fun z => ?_)
  · walk_at "dm"
    refine ⟨_, _, _, _, rfl, S.o, hC, nR, rfl, ?_⟩
    walk_at "dm"
    refine ⟨_, _, _, rfl, S.d, ?_⟩
    rw [List.length_map]
    walk_at "dm"
    refine ⟨by show 2 ≤ 1000; decide, ?_⟩
    exact Y.LessX.of (qx (by omega))
  · walk_at "dm"
    exact Less.of (q (by omega))
abbrev N_p_map_book : List Str := ["few", "most", "search", "length"]
abbrev A_p_map_book : List Str := ["few", "most"]
theorem sc_p_map_book : FnScope N_p_map_book A_p_map_book (defScope s_p_map_book) := ⟨rfl, rfl, rfl, by decide +kernel, rfl, by decide +kernel, by decide +kernel⟩
theorem h_p_map_book {C eT : Addr} (a : At K mg "map_book" s_p_map_book A_p_map_book) (B : BI mg) (T : ClsM K C) (i_MapSearch : HasI P w K mg base 1 C "MapSearch" A_p_MapSearch_init (SP_msi P w C)) (m_lengthen : HasM P w K mg base 5 C "lengthen" A_p_MapSearch_lengthen (SP_len P w C)) (m_refuse_too_many : Y.HasMX P w K mg base 3 C "refuse_too_many" A_p_MapSearch_refuse_too_many (SP_rtY P w C eT)) (m_map_lines : HasM P w K mg base 1 C "map_lines" A_p_MapSearch_map_lines (SP_mli P w C)) : Y.HasX P w K mg base 6 "map_book" A_p_map_book (SP_mbY eT) := by
  refine Y.atx_mk a sc_p_map_book fun f cdv A outer s H E hr ds G R RX hl hx h => ?_
  refine ⟨_, (dss_cons (ds_set (i := 2) sc_p_map_book.nd rfl (.inl rfl) (de_make i_MapSearch (hr.mono (by omega)) rfl (da_cons (dv 0) da_nil)))
    (dss_cons (ds_for (passes_of rfl) rfl (di_range B.range rfl (da_cons (dv 1) da_nil)) (dg_name (i := 3) sc_p_map_book.nd rfl (.inl rfl)) (dss_cons (ds_expr (de_meth0 m_lengthen (hr.mono (by omega)) (dv 2)))
      (dss_one (ds_expr (Y.de_meth0X m_refuse_too_many hx (takes_of rfl rfl rfl rfl) (hr.mono (by omega)) (dv 2))))))
    (dss_one (ds_ret (de_meth0 m_map_lines (hr.mono (by omega)) (dv 2)))))), ?_⟩
  obtain ⟨few, most, rfl, gf, lf, lm, q, qx⟩ := h
  walk_at "dm"
  intro a na
  refine ⟨rfl, ?_⟩
  refine abs_new na fun G1 s1 h1 => ?_
  refine ⟨a, few, rfl, h1, fun pd pl ob G2 nd nl fr S => ⟨rfl, ?_⟩⟩
  have s2 : Sub G G2 := fun p o e => fr p o (fun z => by rw [List.mem_singleton.mp z, na] at e; cases e) (s1 p o e)
  have npd : G pd = none := by
    cases e : G pd with
    | none => rfl
    | some o => have := s1 _ _ e; rw [nd] at this; cases this
  clear fr s1 h1
  walk_at "dm"
  refine ⟨_, rfl, by omega, by omega, ?_⟩
  rw [show ((most : Int)).toNat = most from rfl]
  refine for_by (fun L δ G' => ∃ (pl : Addr) (ob : Obj) (x3 : Option DV), δ = [some (eRow few), some (.int (most : Int)), some (.ref a), x3] ∧ Sub G G' ∧ Srch P w C few a pd pl ob (bfsW few L) G' ∧ ∀ L', L' ≤ L → lnW few L' ≤ 1200) (fun _ _ _ _ => trivial) ⟨pl, ob, _, rfl, s2, S, fun L' h => zero_ok h⟩ ?_ ?_
  · clear S s2 nl pl ob
    rintro L d δ G4 hd ⟨pl, ob, x3, rfl, s4, S, hb⟩
    have hL : L < most := by have := (List.getElem?_eq_some_iff.mp hd).1; rw [rng_len] at this; exact this
    have lg := bfs_long gf L
    walk_at "dm"
    refine ⟨_, _, rfl, S.o, rfl, ?_⟩
    walk_at "dm"
    refine ⟨few, a, pd, pl, ob, _, rfl, S, gf, fun r hr => ⟨(lg r hr).1, by rw [(lg r hr).2]; omega⟩, room lf (hb L (Nat.le_refl _)), fun pl2 ob2 G5 np fr S2 => ?_⟩
    have S2 : Srch P w C few a pd pl2 ob2 (bfsW few (L + 1)) G5 := S2
    have s5 : Sub G G5 := fun p o e => fr p o (fun z => by
      rcases List.mem_cons.mp z with z | z
      · rw [z, na] at e; cases e
      · rw [List.mem_singleton.mp z, npd] at e; cases e) (s4 p o e)
    walk_at "dm"
    refine ⟨_, _, rfl, S2.o, rfl, ?_⟩
    walk_at "dm"
    refine ⟨few, a, pd, pl2, ob2, _, rfl, S2, fun ln => ?_, fun ln => ?_⟩
    · refine ⟨pl2, ob2, _, rfl, s5, S2, fun L' h => ?_⟩
      by_cases z : L' = L + 1
      · rw [z]; exact ln
      · exact hb L' (by omega)
    · exact ⟨G, s5, qx L hL hb ln⟩
  · rintro δ G4 ⟨pl, ob, x3, rfl, s4, S, hb⟩
    rw [rng_len] at S hb
    walk_at "dm"
    refine ⟨_, _, rfl, S.o, rfl, ?_⟩
    walk_at "dm"
    refine ⟨few, a, pd, pl, ob, _, rfl, S, ?_⟩
    exact ⟨G, s4, q hb⟩
end
section
variable {P : Program} {w : World} {K : Frag} {mg : Str → Option Value} {base : Heap}
noncomputable def SP_lrY (eT : Addr) : Y.DSpX := fun ds G R RX => ∃ (few : List Cm.Wd) (x : Cm.Wd) (most : Nat), ds = [eRow few, eX x, .int (most : Int)] ∧ Good few ∧ few.length ≤ 10 ∧ Shuf x.1 x.2 ∧ most ≤ 18 ∧
  (mapP [x] = mapP [] → R (.tup [.str "least", .tup [], .non]) G) ∧
  (∀ L r, L < most → (∀ L', L' ≤ L → lnW few L' ≤ 1200) → mapP [x] ∉ (bfsW few L).1.map mapP → (bfsW few (L + 1)).1.find? (fun r => decide (mapP r = mapP [x])) = some r → R (.tup [.str "least", eRow r, lines (bfsW few L).1]) G) ∧
  (∀ L, L < most → (∀ L', L' ≤ L → lnW few L' ≤ 1200) → mapP [x] ∉ (bfsW few (L + 1)).1.map mapP → 1200 < lnW few (L + 1) → RX (.ref eT) (tmF (lnW few (L + 1))) G) ∧
  ((∀ L, L ≤ most → lnW few L ≤ 1200) → mapP [x] ∉ (bfsW few most).1.map mapP → R (.tup [.str "none", lines (bfsW few most).1]) G)
abbrev N_p_least_row : List Str := ["few", "shuffle", "most", "wanted", "search", "length", "book"]
abbrev A_p_least_row : List Str := ["few", "shuffle", "most"]
theorem sc_p_least_row : FnScope N_p_least_row A_p_least_row (defScope s_p_least_row) := ⟨rfl, rfl, rfl, by decide +kernel, rfl, by decide +kernel, by decide +kernel⟩
theorem h_p_least_row {C eT : Addr} (a : At K mg "least_row" s_p_least_row A_p_least_row) (B : BI mg) (T : ClsM K C) (c_p_map_of : Has P w K mg base 4 "map_of" A_p_map_of SP_mo) (i_MapSearch : HasI P w K mg base 1 C "MapSearch" A_p_MapSearch_init (SP_msi P w C)) (m_map_lines : HasM P w K mg base 1 C "map_lines" A_p_MapSearch_map_lines (SP_mli P w C)) (m_lengthen : HasM P w K mg base 5 C "lengthen" A_p_MapSearch_lengthen (SP_len P w C)) (m_refuse_too_many : Y.HasMX P w K mg base 3 C "refuse_too_many" A_p_MapSearch_refuse_too_many (SP_rtY P w C eT)) : Y.HasX P w K mg base 7 "least_row" A_p_least_row (SP_lrY eT) := by
  refine Y.atx_mk a sc_p_least_row fun f cdv A outer s H E hr ds G R RX hl hx h => ?_
  refine ⟨_, (dss_cons (ds_set (i := 3) sc_p_least_row.nd rfl (.inl rfl) (de_call c_p_map_of (hr.mono (by omega)) rfl (da_cons (de_tup (da_cons (dv 1) da_nil)) da_nil)))
    (dss_cons (ds_set (i := 4) sc_p_least_row.nd rfl (.inl rfl) (de_make i_MapSearch (hr.mono (by omega)) rfl (da_cons (dv 0) da_nil)))
    (dss_cons (ds_if (dt_min (DD.hu2_of hr) (dv 3) (de_fld (dv 4))) (dss_one (ds_ret (de_tup (da_cons de_str (da_cons (de_tup da_nil) (da_cons de_non da_nil)))))) dss_nil)
    (dss_cons (ds_for (passes_of rfl) rfl (di_range B.range rfl (da_cons (dv 2) da_nil)) (dg_name (i := 5) sc_p_least_row.nd rfl (.inl rfl)) (dss_cons (ds_set (i := 6) sc_p_least_row.nd rfl (.inl rfl) (de_meth0 m_map_lines (hr.mono (by omega)) (dv 4)))
      (dss_cons (ds_expr (de_meth0 m_lengthen (hr.mono (by omega)) (dv 4)))
      (dss_cons (ds_if (dt_min (DD.hu2_of hr) (dv 3) (de_fld (dv 4))) (dss_one (ds_ret (de_tup (da_cons de_str (da_cons (de_mget (DD.hu2_of hr) (de_fld (dv 4)) (dv 3) (fun _ _ => rfl)) (da_cons (dv 6) da_nil)))))) dss_nil)
      (dss_one (ds_expr (Y.de_meth0X m_refuse_too_many hx (takes_of rfl rfl rfl rfl) (hr.mono (by omega)) (dv 4))))))))
    (dss_one (ds_ret (de_tup (da_cons de_str (da_cons (de_meth0 m_map_lines (hr.mono (by omega)) (dv 4)) da_nil))))))))), ?_⟩
  obtain ⟨few, x, most, rfl, gf, lf, gx, lm, q1, q2, qx, q3⟩ := h
  walk_at "dm"
  refine ⟨[x], rfl, fun y hy => (by rw [List.mem_singleton.mp hy]; exact gx), (by show 1 ≤ 20; decide), ?_⟩
  walk_at "dm"
  intro a na
  refine ⟨rfl, ?_⟩
  refine abs_new na fun G1 s1 h1 => ?_
  refine ⟨a, few, rfl, h1, fun pd pl ob G2 nd nl fr S => ⟨rfl, ?_⟩⟩
  have s2 : Sub G G2 := fun p o e => fr p o (fun z => by rw [List.mem_singleton.mp z, na] at e; cases e) (s1 p o e)
  have s1' := s1
  clear fr s1 h1
  walk_at "dm"
  refine ⟨_, _, _, _, rfl, S.o, T.c, T.rows, rfl, _, _, _, mapP [x], rfl, rfl, S.d, ?_⟩
  rw [val_bk]
  walk_at "dm"
  show if (decide (mapP [x] ∈ ([[]] : List (List Cm.Wd)).map mapP)) = true then _ else _
  refine w_iteD (fun h0 => ?_) (fun h0 => ?_)
  · walk_at "dm"
    exact ⟨G, s2, q1 (List.mem_singleton.mp h0)⟩
  walk_at "dm"
  refine ⟨_, rfl, by omega, by omega, ?_⟩
  rw [show ((most : Int)).toNat = most from rfl]
  refine for_by (fun L δ G' => ∃ (pl : Addr) (ob : Obj) (x5 x6 : Option DV), δ = [some (eRow few), some (eX x), some (.int (most : Int)), some (mkD (mapP [x])), some (.ref a), x5, x6] ∧ Sub G G' ∧ G pd = none ∧ Srch P w C few a pd pl ob (bfsW few L) G' ∧ mapP [x] ∉ (bfsW few L).1.map mapP ∧ ∀ L', L' ≤ L → lnW few L' ≤ 1200) (fun _ _ _ _ => trivial) ⟨pl, ob, _, _, rfl, s2, ?_, S, h0, fun L' h => zero_ok h⟩ ?_ ?_
  · cases e : G pd with
    | none => rfl
    | some o => have := s1' _ _ e; rw [nd] at this; cases this
  · clear S s2 nl pl ob h0
    rintro L d δ G4 hd ⟨pl, ob, x5, x6, rfl, s4, npd, S, hn, hb⟩
    have hL : L < most := by have := (List.getElem?_eq_some_iff.mp hd).1; rw [rng_len] at this; exact this
    have lg := bfs_long gf L
    walk_at "dm"
    refine ⟨_, _, rfl, S.o, rfl, ?_⟩
    walk_at "dm"
    refine ⟨few, a, pd, pl, ob, _, rfl, S, ?_⟩
    walk_at "dm"
    refine ⟨_, _, rfl, S.o, rfl, ?_⟩
    walk_at "dm"
    refine ⟨few, a, pd, pl, ob, _, rfl, S, gf, fun r hr => ⟨(lg r hr).1, by rw [(lg r hr).2]; omega⟩, room lf (hb L (Nat.le_refl _)), fun pl2 ob2 G5 np fr S2 => ?_⟩
    have S2 : Srch P w C few a pd pl2 ob2 (bfsW few (L + 1)) G5 := S2
    have s5 : Sub G G5 := fun p o e => fr p o (fun z => by
      rcases List.mem_cons.mp z with z | z
      · rw [z, na] at e; cases e
      · rw [List.mem_singleton.mp z, npd] at e; cases e) (s4 p o e)
    walk_at "dm"
    refine ⟨_, _, _, _, rfl, S2.o, T.c, T.rows, rfl, _, _, _, mapP [x], rfl, rfl, S2.d, ?_⟩
    rw [val_bk]
    walk_at "dm"
    show if (decide (mapP [x] ∈ (bfsW few (L + 1)).1.map mapP)) = true then _ else _
    refine w_iteD (fun h1 => ?_) (fun h1 => ?_)
    · walk_at "dm"
      obtain ⟨r0, hr0, er0⟩ := List.mem_map.mp h1
      obtain ⟨r, hr⟩ := Option.isSome_iff_exists.mp (List.find?_isSome (p := fun r => decide (mapP r = mapP [x]))|>.mpr ⟨r0, hr0, decide_eq_true er0⟩)
      refine ⟨_, _, _, _, rfl, S2.o, T.c, T.rows, rfl, ?_⟩
      walk_at "dm"
      refine ⟨_, _, _, mapP [x], eRow r, rfl, rfl, S2.d, (by rw [val_find, hr]; rfl), ?_⟩
      walk_at "dm"
      exact ⟨G, s5, q2 L r hL hb hn hr⟩
    · walk_at "dm"
      refine ⟨_, _, rfl, S2.o, rfl, ?_⟩
      walk_at "dm"
      refine ⟨few, a, pd, pl2, ob2, _, rfl, S2, fun ln => ?_, fun ln => ?_⟩
      · refine ⟨pl2, ob2, _, _, rfl, s5, npd, S2, h1, fun L' h => ?_⟩
        by_cases z : L' = L + 1
        · rw [z]; exact ln
        · exact hb L' (by omega)
      · exact ⟨G, s5, qx L hL hb h1 ln⟩
  · rintro δ G4 ⟨pl, ob, x5, x6, rfl, s4, npd, S, hn, hb⟩
    rw [rng_len] at S hn hb
    walk_at "dm"
    refine ⟨_, _, rfl, S.o, rfl, ?_⟩
    walk_at "dm"
    refine ⟨few, a, pd, pl, ob, _, rfl, S, ?_⟩
    walk_at "dm"
    exact ⟨G, s4, q3 hb hn⟩
end
theorem yw_xSet {te : Y.TDX} {i : Nat} {D : DEnds} {δ : DSt} {G : DG} {RX : Y.DXk} (h : te δ G (fun d G1 => D.nx (δ.set i (some d)) G1) RX) : Y.xSet i te D δ G RX := h
theorem yw_xCall {n : Nat} {dsp : Y.DSpX} {tda : TDA} {δ : DSt} {G : DG} {Q : DK} {RX : Y.DXk} (h : tda δ G fun ds G1 => ds.length = n ∧ dsp ds G1 Q RX) : Y.xCall n dsp tda δ G Q RX := h
local macro_rules | `(tactic| walk_at "dy") => `(tactic| repeat (first | walk_at "d1" | (with_reducible refine w_mget ?_) | (with_reducible refine w_mget1 ?_) | (with_reducible refine w_min_ ?_) | (with_reducible refine w_fldS ?_) | (with_reducible refine w_fld ?_) | (with_reducible refine Y.w_methX ?_) | (with_reducible refine Y.w_raise ?_) | (with_reducible refine Y.w_try ?_) | (with_reducible refine Y.w_xIf ?_) | (with_reducible refine yw_xSet ?_) | (with_reducible refine yw_xCall ?_) | (with_reducible refine Y.w_xf ?_) | (with_reducible refine w_meth ?_) | (with_reducible refine w_make ?_)))
theorem tm_many (n : Nat) : (tmF n).lookup ("many" : Str) = some (.int (n : Int)) := by
  unfold tmF
  rw [List.lookup_cons, show (("many" : Str) == "most") = false by decide +kernel]
  show List.lookup ("many" : Str) [(("many" : Str), DV.int (n : Int))] = _
  rw [List.lookup_cons, show (("many" : Str) == "many") = true by decide +kernel]
theorem tm_most (n : Nat) : (tmF n).lookup ("most" : Str) = some (.int 1200) := by
  unfold tmF
  rw [List.lookup_cons, show (("most" : Str) == "most") = true by decide +kernel]
/-- what is told of more maps than there may be -/
def refd (eT : Addr) (R : DK) : Y.DXk := fun cls fs G1 => ∃ n : Nat, cls = .ref eT ∧ fs = tmF n ∧ ∀ p G', Sub G1 G' → G' p = some (.lst [.str "refused", .int (n : Int), .int 1200]) → R (.ref p) G'
theorem mbY_mono {eT : Addr} {ds : List DV} {G : DG} {R R' : DK} {RX RX' : Y.DXk} (h : SP_mbY eT ds G R RX) (f : ∀ v G, R v G → R' v G) (fx : ∀ c fs G, RX c fs G → RX' c fs G) : SP_mbY eT ds G R' RX' := by
  obtain ⟨few, most, e, a, b, d, q, qx⟩ := h
  exact ⟨few, most, e, a, b, d, fun z => f _ _ (q z), fun L h1 h2 h3 => fx _ _ _ (qx L h1 h2 h3)⟩
theorem lrY_mono {eT : Addr} {ds : List DV} {G : DG} {R R' : DK} {RX RX' : Y.DXk} (h : SP_lrY eT ds G R RX) (f : ∀ v G, R v G → R' v G) (fx : ∀ c fs G, RX c fs G → RX' c fs G) : SP_lrY eT ds G R' RX' := by
  obtain ⟨few, x, most, e, a, b, d, lm, q1, q2, qx, q3⟩ := h
  exact ⟨few, x, most, e, a, b, d, lm, fun z => f _ _ (q1 z), fun L r h1 h2 h3 h4 => f _ _ (q2 L r h1 h2 h3 h4), fun L h1 h2 h3 h4 => fx _ _ _ (qx L h1 h2 h3 h4), fun z w => f _ _ (q3 z w)⟩
/-- what is asked of the class of the error -/
structure TooC (K : Frag) (eT eTk : Addr) (oth : List Addr) : Prop where
  x : ExcC K eT
  f : XfC K eT
  many : findIn K (.ref eT) "many" = some none
  most : findIn K (.ref eT) "most" = some none
  up : exmOne K (.ref eT) (.ref eTk) = some true
  own : kitOne K (.ref eT) (.ref eT) = some true
  ve : kitOne K (.ref eT) (.type "ValueError") = some true
  no : kitAny K (.ref eT) (oth.map Value.ref) = some false
section
variable {P : Program} {w : World} {K : Frag} {mg : Str → Option Value} {base : Heap}
def SP_ask (eT : Addr) : DSp := fun ds G R => ∃ (way : Int) (a b m : DV), ds = [.int way, a, b, m] ∧ (way = 0 → SP_mbY eT [a, m] G R (refd eT R)) ∧ (way ≠ 0 → SP_lrY eT [a, b, m] G R (refd eT R))
abbrev N_L_asked : List Str := ["_law_way", "_law_few", "_law_word", "_law_most", "_law_found", "e", "_law_others"]
abbrev A_L_asked : List Str := ["_law_way", "_law_few", "_law_word", "_law_most"]
theorem sc_L_asked : FnScope N_L_asked A_L_asked (defScope s_L_asked) := ⟨rfl, rfl, rfl, by decide +kernel, rfl, by decide +kernel, by decide +kernel⟩
theorem h_L_asked (a : At K mg "_law_asked" s_L_asked A_L_asked) (B : BI mg) {e_TooMany : Addr} (c_p_map_book : Y.HasX P w K mg base 6 "map_book" A_p_map_book (SP_mbY e_TooMany)) (c_p_least_row : Y.HasX P w K mg base 7 "least_row" A_p_least_row (SP_lrY e_TooMany)) {e_TakeError : Addr} (m_TakeError : mg "TakeError" = some (.ref e_TakeError)) {e_Twice : Addr} (m_Twice : mg "Twice" = some (.ref e_Twice)) {e_NoWord : Addr} (m_NoWord : mg "NoWord" = some (.ref e_NoWord)) {e_NoTurn : Addr} (m_NoTurn : mg "NoTurn" = some (.ref e_NoTurn)) {e_NoText : Addr} (m_NoText : mg "NoText" = some (.ref e_NoText)) {e_NoStep : Addr} (m_NoStep : mg "NoStep" = some (.ref e_NoStep)) {e_NoShuffle : Addr} (m_NoShuffle : mg "NoShuffle" = some (.ref e_NoShuffle)) {e_NoRow : Addr} (m_NoRow : mg "NoRow" = some (.ref e_NoRow)) {e_NoKind : Addr} (m_NoKind : mg "NoKind" = some (.ref e_NoKind)) {e_NoCode : Addr} (m_NoCode : mg "NoCode" = some (.ref e_NoCode)) {e_NoBook : Addr} (m_NoBook : mg "NoBook" = some (.ref e_NoBook)) (m_ValueError : mg "ValueError" = none) (m_TooMany : mg "TooMany" = some (.ref e_TooMany)) (TC : TooC K e_TooMany e_TakeError [e_NoBook, e_NoCode, e_NoKind, e_NoRow, e_NoShuffle, e_NoStep, e_NoText, e_NoTurn, e_NoWord, e_Twice]) : Has P w K mg base 8 "_law_asked" A_L_asked (SP_ask e_TooMany) := by
  refine at_mk a sc_L_asked fun f cdv A outer s H E hr ds G R hl h => ?_
  refine ⟨_, (dss_cons (ds_set (i := 4) sc_L_asked.nd rfl (.inl rfl) de_non)
    (dss_cons (Y.ds_try (i := 5) rfl rfl sc_L_asked.nd rfl rfl ⟨rfl, by decide, .inl m_TakeError⟩ (Y.dssx_if (fun _ _ => (dt_cmp (od_eq hr.units) (dv 0) de_int (nomark _))) (Y.dssx_set (i := 4) sc_L_asked.nd rfl (.inl rfl) (Y.dex_call c_p_map_book (hr.mono (by omega)) rfl (fun _ _ => (da_cons (dv 1) (da_cons (dv 3) da_nil))))) (Y.dssx_set (i := 4) sc_L_asked.nd rfl (.inl rfl) (Y.dex_call c_p_least_row (hr.mono (by omega)) rfl (fun _ _ => (da_cons (dv 1) (da_cons (dv 2) (da_cons (dv 3) da_nil))))))) (fun a oe cls dd pn hz hv => (dss_cons (ds_set (i := 6) sc_L_asked.nd rfl (.inl rfl) (Y.de_isEt hz hv B.isi rfl (pv 5) (pa_refs (pe_glob (v := .ref e_NoBook) rfl m_NoBook rfl) (pa_refs (pe_glob (v := .ref e_NoCode) rfl m_NoCode rfl) (pa_refs (pe_glob (v := .ref e_NoKind) rfl m_NoKind rfl) (pa_refs (pe_glob (v := .ref e_NoRow) rfl m_NoRow rfl) (pa_refs (pe_glob (v := .ref e_NoShuffle) rfl m_NoShuffle rfl) (pa_refs (pe_glob (v := .ref e_NoStep) rfl m_NoStep rfl) (pa_refs (pe_glob (v := .ref e_NoText) rfl m_NoText rfl) (pa_refs (pe_glob (v := .ref e_NoTurn) rfl m_NoTurn rfl) (pa_refs (pe_glob (v := .ref e_NoWord) rfl m_NoWord rfl) (pa_refs (pe_glob (v := .ref e_Twice) rfl m_Twice rfl) pa_refs0))))))))))))
      (dss_one (ds_if (dt_w (dw_and (dt_e (de_callB (Y.cd_isY hz hv) B.isi rfl (by decide +kernel) (da_cons (dv 5) (da_cons (de_gref m_TooMany rfl) da_nil)))) (dw_and (dt_e (de_callB (Y.cd_isY hz hv) B.isi rfl (by decide +kernel) (da_cons (dv 5) (da_cons (de_ty (n := "ValueError") m_ValueError rfl (by decide +kernel)) da_nil)))) (dw_and1 (dt_not (dt_e (dv 6))))))) (dss_one (ds_set (i := 4) sc_L_asked.nd rfl (.inl rfl) (de_lst (da_cons de_str (da_cons (Y.de_xf TC.f TC.many hz hv (dv 5)) (da_cons (Y.de_xf TC.f TC.most hz hv (dv 5)) da_nil)))))) dss_nil)))))
    (dss_one (ds_ret (dv 4))))), ?_⟩
  obtain ⟨way, da, db, dm, rfl, q0, q1⟩ := h
  walk_at "dy"
  refine w_iteD (fun z => ?_) (fun z => ?_)
  · walk_at "dy"
    refine mbY_mono (q0 z) (fun v Gv hv => ?_) (fun cls fs Gx hx => ?_)
    · walk_at "dy"
      exact Less.of hv
    obtain ⟨n, rfl, rfl, qn⟩ := hx
    refine ⟨TC.up, fun e dd ne nd ned => ?_⟩
    have g0 : dupd Gx dd (Y.xdG (tmF n)) dd = some (Y.xdG (tmF n)) := dupd_same
    have sx : Sub Gx (dupd Gx dd (Y.xdG (tmF n))) := (Sub.refl _).new nd
    generalize dupd Gx dd (Y.xdG (tmF n)) = G2 at g0 sx
    walk_at "dy"
    refine Y.w_isEt rfl TC.x TC.no (show 10 ≤ _ by decide) g0 ?_
    walk_at "dy"
    refine Y.w_isY TC.x rfl TC.own g0 ?_
    walk_at "dy"
    refine Y.w_isY TC.x rfl TC.ve g0 ?_
    walk_at "dy"
    refine ⟨rfl, rfl, _, .int (n : Int), g0, tm_many n, ?_⟩
    walk_at "dy"
    refine ⟨rfl, rfl, _, .int 1200, g0, tm_most n, ?_⟩
    walk_at "dy"
    intro p np
    refine abs_new np fun G3 s3 h3 => ?_
    walk_at "dy"
    exact Less.of (qn p G3 (sx.trans s3) h3)
  · walk_at "dy"
    refine lrY_mono (q1 z) (fun v Gv hv => ?_) (fun cls fs Gx hx => ?_)
    · walk_at "dy"
      exact Less.of hv
    obtain ⟨n, rfl, rfl, qn⟩ := hx
    refine ⟨TC.up, fun e dd ne nd ned => ?_⟩
    have g0 : dupd Gx dd (Y.xdG (tmF n)) dd = some (Y.xdG (tmF n)) := dupd_same
    have sx : Sub Gx (dupd Gx dd (Y.xdG (tmF n))) := (Sub.refl _).new nd
    generalize dupd Gx dd (Y.xdG (tmF n)) = G2 at g0 sx
    walk_at "dy"
    refine Y.w_isEt rfl TC.x TC.no (show 10 ≤ _ by decide) g0 ?_
    walk_at "dy"
    refine Y.w_isY TC.x rfl TC.own g0 ?_
    walk_at "dy"
    refine Y.w_isY TC.x rfl TC.ve g0 ?_
    walk_at "dy"
    refine ⟨rfl, rfl, _, .int (n : Int), g0, tm_many n, ?_⟩
    walk_at "dy"
    refine ⟨rfl, rfl, _, .int 1200, g0, tm_most n, ?_⟩
    walk_at "dy"
    intro p np
    refine abs_new np fun G3 s3 h3 => ?_
    walk_at "dy"
    exact Less.of (qn p G3 (sx.trans s3) h3)
end
section
variable {P : Program} {w : World} {K : Frag} {mg : Str → Option Value} {base : Heap}
def SP_llp : DSp := fun ds G R => ∃ (n : Nat) (ps : List Int) (p : Addr), ds = [.tup [.int (n : Int), .ref p]] ∧ G p = some (.ptp (ps.map .int)) ∧ ps.length ≤ 10000 ∧ n ≤ 10000 ∧ (∀ x ∈ ps, x < (n : Int)) ∧ R (mkD (lmO (n : Int) ps)) G
abbrev N_L_least : List Str := ["_law_there", "_law_n", "_law_picks", "_law_k", "_law_pick"]
abbrev A_L_least : List Str := ["_law_there"]
theorem sc_L_least : FnScope N_L_least A_L_least (defScope s_L_least) := ⟨rfl, rfl, rfl, by decide +kernel, rfl, by decide +kernel, by decide +kernel⟩
theorem h_L_least (a : At K mg "_law_least" s_L_least A_L_least) (B : BI mg) : Has P w K mg base 1 "_law_least" A_L_least SP_llp := by
  refine at_mk a sc_L_least fun f cdv A outer s H E hr ds G R hl h => ?_
  refine ⟨_, (dss_cons (ds_asg (dv 0) (dg_tup rfl (dgs_cons (dg_name (i := 1) sc_L_least.nd rfl (.inl rfl)) (dgs_cons (dg_name (i := 2) sc_L_least.nd rfl (.inl rfl)) dgs_nil))))
    (dss_cons (ds_set (i := 3) sc_L_least.nd rfl (.inr rfl) de_int)
    (dss_cons (ds_while PassesOwn.never (dt_w (dw_and (dt_cmp od_lt (dv 3) (dv 1) (nomark _)) (dw_and (dt_cmp od_lt (dv 3) (de_callB cd_len B.len rfl (by decide +kernel) (da_cons (dvT 2) da_nil)) (nomark _)) (dw_and (dt_cmp (od_eq hr.units) (de_ix (dvT 2) (dv 3)) (dv 3) (nomark _)) (dw_and1 (dt_cmp (od_eq hr.units) (de_bmT PySem.F.slot_tuple_count PySem.F.type_tuple_count md_cntT (dv 2) (da_cons (dv 3) da_nil)) de_int (nomark _))))))) (dss_one (ds_set (i := 3) sc_L_least.nd rfl (.inr rfl) (de_op od_add (dv 3) de_int))))
    (dss_one (ds_ret (de_tup (da_cons (de_op od_sub (dv 1) (dv 3)) (da_cons (de_callTy cd_tuple B.tup rfl (by decide +kernel) (da_cons (de_lc (own := [("_law_pick", 4)]) (lt1 (i := 4) (by decide)) rfl sc_L_least.nd (di_tup (de_slice (dvT 2) (do_some (dv 3)) do_none)) (blkOk_by (own := [("_law_pick", 4)]) (N := N_L_least) (sc := defScope s_L_least) (by decide +kernel)) (fun _ _ _ _ _ => pg_name (i := 4) sc_L_least.nd rfl (Or.inl rfl)) (fun _ _ _ _ _ => dts_nil) (fun _ _ _ _ _ => (de_op od_sub (dv 4) (dv 3)))) da_nil)) da_nil)))))))), ?_⟩
  obtain ⟨n, ps, p, rfl, hp, lp, ln, hx, q⟩ := h
  walk_at "dx"
  refine w_while (fun m δ G' => ∃ c : Nat, m = ps.length - c ∧ c ≤ ps.length ∧ δ = [some (.tup [.int (n : Int), .ref p]), some (.int (n : Int)), some (.ref p), some (.int (c : Int)), none] ∧ G' = G ∧ ∀ j, j < c → Stays ps j) _ ⟨0, rfl, Nat.zero_le _, rfl, rfl, fun j h => absurd h (Nat.not_lt_zero j)⟩ ?_
  rintro m δ G' ⟨c, rfl, hc, rfl, rfl, hst⟩
  have fin : ¬ Stays ps c → R (.tup [.int ((n : Int) - (c : Int)), .tup ((cutM c ps).map .int)]) G' := fun hn => by
    obtain rfl : c = cutC ps := IsCut.uniq ⟨hst, hn⟩ (cutC_is ps)
    exact q
  have tail : ¬ Stays ps c → dRet (dTup (dCons (dOp bSub (dVar 1) (dVar 3)) (dCons (dCB bTuple (dCons (dLc (dITup (dSl (dVarT 2) (dSome (dVar 3)) dNone)) (l1 4) dYes (dOp bSub (dVar 4) (dVar 3)) (List.map (fun x => x.snd) [(("_law_pick" : Str), 4)])) dNil)) dNil))) { nx := fun x G => Less R DV.non G, rt := Less R } [some (.tup [.int (n : Int), .ref p]), some (.int (n : Int)), some (.ref p), some (.int (c : Int)), none] G' := fun hn => by
    have fin := fin hn
    walk_at "dx"
    rw [cutD_from]
    refine lcs_pure (iF fun t => t - (c : Int)) (fun _ _ => trivial) (by rw [List.length_drop, List.length_map]; omega) ?_ ?_
    · intro y hy G2 k1 k0 s' e1 e0
      rw [← List.map_drop] at hy
      obtain ⟨t, ht, rfl⟩ := List.mem_map.mp hy
      walk_at "dx"
      exact e1 _ rfl
    intro q2 G5 nq2 s5 h5
    rw [← List.map_drop, iF_map] at h5
    walk_at "dx"
    exact ⟨G', s5, fin⟩
  walk_at "dx"
  refine w_iteD (fun h0 => ?_) (fun h0 => ?_)
  · walk_at "dx"
    rw [List.length_map]
    refine w_iteD (fun h1 => ?_) (fun h1 => ?_)
    · have lc : c < ps.length := by omega
      walk_at "dx"
      obtain ⟨t, ht⟩ : ∃ t, ps[c]? = some t := ⟨_, List.getElem?_eq_getElem lc⟩
      refine ⟨.int t, atI_nat (by rw [List.getElem?_map, ht]; rfl), ?_⟩
      walk_at "dx"
      refine w_iteD (fun h2 => ?_) (fun h2 => ?_)
      · subst h2
        walk_at "dx"
        refine w_tcnt rfl rfl hp ?_
        walk_at "dx"
        refine w_iteD (fun h3 => ?_) (fun h3 => ?_)
        · walk_at "dx"
          refine ⟨ps.length - (c + 1), by omega, c + 1, rfl, by omega, rfl, rfl, fun j hj => ?_⟩
          rcases Nat.lt_succ_iff_lt_or_eq.mp hj with h' | rfl
          · exact hst j h'
          · exact ⟨ht, (count_stays hst ht).mp (by omega)⟩
        · exact tail fun s => h3 (by have := (count_stays hst ht).mpr s.2; omega)
      · exact tail fun s => h2 (by have := s.1; rw [ht] at this; exact Option.some.inj this)
    · exact tail fun s => h1 (by have := s.lt; omega)
  · exact tail fun s => h0 (hx _ (List.mem_of_getElem? s.1))
end
set_option maxRecDepth 1000000
/-- a set of words: with so many words at most there are so many maps; words that a row of just so many does, and the maps of fewer -/
structure Set8 where
  ws : List NS
  most : Nat
  many : Nat
  just : List NS
  fewer : Nat
def sets8 : List Set8 := [⟨[(1, [0, 0]), (3, [0, 2, 1]), (2, [1, 0, 1]), (1, []), (5, [4, 0, 1, 2, 3])], 5, 1196, [], 0⟩,
  ⟨[(2, [1, 0]), (3, [2, 1, 0]), (1, []), (3, [2, 0, 1]), (3, [0, 1, 2, 0])], 6, 1191, [], 0⟩,
  ⟨[(3, [1, 2, 0]), (3, [0, 2, 1]), (2, [1, 0, 1]), (4, [3, 0, 1, 2]), (2, [1, 0]), (1, [0, 0])], 6, 1181, [], 0⟩,
  ⟨[(3, [2, 1, 0]), (2, [1]), (5, [4, 0, 1, 2, 3]), (3, [1, 2, 0])], 6, 1200, [], 0⟩,
  ⟨[(2, [0, 1, 0, 1]), (3, [2, 0, 1]), (2, [1]), (2, [0, 1, 0])], 6, 1205, [(4, [2, 1, 2]), (4, [2, 0, 0, 1]), (3, [0, 0, 1, 0, 1]), (3, [0, 0, 1, 0])], 499⟩,
  ⟨[(1, []), (2, [0, 1, 0, 1]), (3, [0, 2, 1]), (3, [0, 1, 2, 0]), (2, [1, 0, 1]), (1, [0, 0])], 5, 1212, [(5, []), (6, [0, 1, 0, 1]), (7, [0, 1, 2, 0]), (2, [1, 1, 1, 1, 1, 0, 1])], 406⟩,
  ⟨[(1, []), (5, [4, 0, 1, 2, 3]), (3, [2, 1, 0]), (4, [0, 2, 1, 3])], 6, 1202, [(7, [2, 1]), (6, [1, 0, 5, 4]), (7, [6, 0, 1, 2, 4]), (6, [5, 2, 0, 1, 3])], 539⟩,
  ⟨[(2, [1, 0]), (1, []), (2, [0, 1, 0]), (3, [0, 1, 2, 0]), (3, [2, 1, 0]), (1, [0, 0])], 5, 1221, [(3, [2, 0, 2, 0]), (4, [0, 3, 0, 1]), (2, [1, 1, 1, 1, 0]), (2, [1, 1, 0, 0, 0, 0])], 419⟩]
def never8 : List NS := [(8, [7, 6, 5, 4, 3, 2, 1, 0]), (8, [0, 0, 0, 0, 0, 0, 0, 0, 0, 0, 0, 0])]
def k1 (x : NS) : Nat × List Nat := keyN (stepN (0, []) x)
def chkA (x : Set8) : Bool := lvl x.ws (x.most - 1) fun t n _ => Nat.ble n 1200 && (Nat.ble x.many 1200 || Nat.beq n x.fewer) && x.just.all fun w => !memK (k1 w) t
def chkB (x : Set8) : Bool := lvl x.ws x.most fun t n _ => Nat.beq n x.many && (x.just.all fun w => memK (k1 w) t) && never8.all fun w => !memK (k1 w) t
theorem s8A_0 : chkA (sets8[0]) = true := by decide +kernel
theorem s8B_0 : chkB (sets8[0]) = true := by decide +kernel
theorem s8A_1 : chkA (sets8[1]) = true := by decide +kernel
theorem s8B_1 : chkB (sets8[1]) = true := by decide +kernel
theorem s8A_2 : chkA (sets8[2]) = true := by decide +kernel
theorem s8B_2 : chkB (sets8[2]) = true := by decide +kernel
theorem s8A_3 : chkA (sets8[3]) = true := by decide +kernel
theorem s8B_3 : chkB (sets8[3]) = true := by decide +kernel
theorem s8A_4 : chkA (sets8[4]) = true := by decide +kernel
theorem s8B_4 : chkB (sets8[4]) = true := by decide +kernel
theorem s8A_5 : chkA (sets8[5]) = true := by decide +kernel
theorem s8B_5 : chkB (sets8[5]) = true := by decide +kernel
theorem s8A_6 : chkA (sets8[6]) = true := by decide +kernel
theorem s8B_6 : chkB (sets8[6]) = true := by decide +kernel
theorem s8A_7 : chkA (sets8[7]) = true := by decide +kernel
theorem s8B_7 : chkB (sets8[7]) = true := by decide +kernel
theorem sets8_A : ∀ x ∈ sets8, chkA x = true := fun x hx => by
  rw [sets8] at hx
  simp only [List.mem_cons, List.not_mem_nil, or_false] at hx
  rcases hx with rfl | rfl | rfl | rfl | rfl | rfl | rfl | rfl
  · exact s8A_0
  · exact s8A_1
  · exact s8A_2
  · exact s8A_3
  · exact s8A_4
  · exact s8A_5
  · exact s8A_6
  · exact s8A_7
theorem sets8_B : ∀ x ∈ sets8, chkB x = true := fun x hx => by
  rw [sets8] at hx
  simp only [List.mem_cons, List.not_mem_nil, or_false] at hx
  rcases hx with rfl | rfl | rfl | rfl | rfl | rfl | rfl | rfl
  · exact s8B_0
  · exact s8B_1
  · exact s8B_2
  · exact s8B_3
  · exact s8B_4
  · exact s8B_5
  · exact s8B_6
  · exact s8B_7
theorem sets8_ok : ∀ x ∈ sets8, 0 < x.most ∧ x.most ≤ 6 ∧ x.ws ≠ [] ∧ x.ws.length ≤ 6 ∧ x.many ≤ 1300 ∧ ∀ y ∈ x.ws ++ x.just ++ never8, y.1 ≤ 8 ∧ (∀ p ∈ y.2, p < y.1) ∧ y.2.length ≤ 12 := by decide +kernel
def few8 (x : Set8) : List Cm.Wd := x.ws.map fun y => wdOf y.1 y.2
theorem wd8 {x : Set8} (hx : x ∈ sets8) {y : NS} (hy : y ∈ x.ws ++ x.just ++ never8) : Shuf (wdOf y.1 y.2).1 (wdOf y.1 y.2).2 := by
  obtain ⟨_, _, _, _, _, h⟩ := sets8_ok x hx
  obtain ⟨a, b, c⟩ := h y hy
  exact shuf_wd ⟨a, b, c⟩
theorem good8 {x : Set8} (hx : x ∈ sets8) : Good (few8 x) := fun w hw => by
  obtain ⟨y, hy, rfl⟩ := List.mem_map.mp hw
  exact wd8 hx (List.mem_append_left _ (List.mem_append_left _ hy))
theorem k1_is (y : NS) : kN [wdOf y.1 y.2] = k1 y := by
  show keyN (stepW (0, []) (wdOf y.1 y.2)) = keyN (stepN (0, []) y)
  unfold stepW
  rw [pk_wd]; rfl
theorem row1 {x : Set8} (hx : x ∈ sets8) {y : NS} (hy : y ∈ x.ws ++ x.just ++ never8) : RowOk [wdOf y.1 y.2] := ⟨fun z hz => by rw [List.mem_singleton.mp hz]; exact wd8 hx hy, by show 1 ≤ 8; decide⟩
/-- what is told of the eight sets, in any order of their words -/
theorem told8 {x : Set8} (hx : x ∈ sets8) {few : List Cm.Wd} (pm : few.Perm (few8 x)) :
    (bfsW few (x.most - 1)).1.length ≤ 1200 ∧ (1200 < x.many → (bfsW few (x.most - 1)).1.length = x.fewer) ∧ (∀ y ∈ x.just, mapP [wdOf y.1 y.2] ∉ (bfsW few (x.most - 1)).1.map mapP) ∧
    (bfsW few x.most).1.length = x.many ∧ (∀ y ∈ x.just, mapP [wdOf y.1 y.2] ∈ (bfsW few x.most).1.map mapP) ∧ (∀ y ∈ never8, mapP [wdOf y.1 y.2] ∉ (bfsW few x.most).1.map mapP) := by
  obtain ⟨m0, m6, _, _, _, _⟩ := sets8_ok x hx
  have gf := good8 hx
  obtain ⟨pa, la⟩ := bfs_perm pm gf (x.most - 1)
  obtain ⟨pb, lb⟩ := bfs_perm pm gf x.most
  obtain ⟨t, n, acc, e, h⟩ := lvl_is (tab := x.ws) gf (x.most - 1) (by omega) (fun t n _ => Nat.ble n 1200 && (Nat.ble x.many 1200 || Nat.beq n x.fewer) && x.just.all fun w => !memK (k1 w) t)
  obtain ⟨t', n', acc', e', h'⟩ := lvl_is (tab := x.ws) gf x.most (by omega) (fun t n _ => Nat.beq n x.many && (x.just.all fun w => memK (k1 w) t) && never8.all fun w => !memK (k1 w) t)
  have ca := (sets8_A x hx).symm.trans e
  have cb := (sets8_B x hx).symm.trans e'
  have ca := ca.symm
  have cb := cb.symm
  rw [Bool.and_eq_true, Bool.and_eq_true, List.all_eq_true, Bool.or_eq_true] at ca
  rw [Bool.and_eq_true, Bool.and_eq_true, List.all_eq_true, List.all_eq_true] at cb
  obtain ⟨⟨a1, a2⟩, a3⟩ := ca
  obtain ⟨⟨b1, b2⟩, b3⟩ := cb
  have en : n = (bfsW few (x.most - 1)).1.length := h.n.trans la.symm
  have en' : n' = (bfsW few x.most).1.length := h'.n.trans lb.symm
  refine ⟨?_, fun hm => ?_, fun y hy => ?_, ?_, fun y hy => ?_, fun y hy => ?_⟩
  · rw [← en]; exact Nat.le_of_ble_eq_true a1
  · rcases a2 with z | z
    · have := Nat.le_of_ble_eq_true z; omega
    · rw [← en]; exact Nat.eq_of_beq_eq_true z
  · have r1 := row1 hx (List.mem_append_left never8 (List.mem_append_right x.ws hy))
    intro m
    have := (h.mem r1).mpr ((pa _).mp m)
    rw [k1_is] at this
    have a := a3 y hy
    rw [this] at a; cases a
  · rw [← en']; exact Nat.eq_of_beq_eq_true b1
  · have r1 := row1 hx (List.mem_append_left never8 (List.mem_append_right x.ws hy))
    refine (pb _).mpr ((h'.mem r1).mp ?_)
    rw [k1_is]; exact b2 y hy
  · have r1 := row1 hx (List.mem_append_right (x.ws ++ x.just) hy)
    intro m
    have := (h'.mem r1).mpr ((pb _).mp m)
    rw [k1_is] at this
    have a := b3 y hy
    rw [this] at a; cases a
local macro_rules | `(tactic| walk_at "gk") => `(tactic| first | assumption | exact de_sub_ (by assumption) (by walk_at "gk") | exact dke_upd (by assumption) (by walk_at "gk") ⟨_, by walk_at "gq"⟩ | exact dke_updD (by assumption) (by walk_at "gk") ⟨_, by walk_at "gq"⟩)
def zs8 : List Str := ["a-aa abc-acb ab-bab a- abcde-eabcd", "ab-ba abc-cba a- abc-cab abc-abca", "abc-bca abc-acb ab-bab abcd-dabc ab-ba a-aa", "abc-cba ab-b abcde-eabcd abc-bca", "ab-abab abc-cab ab-b ab-aba", "a- ab-abab abc-acb abc-abca ab-bab a-aa", "a- abcde-eabcd abc-cba abcd-acbd", "ab-ba a- ab-aba abc-abca abc-cba a-aa"]
def tabS : List (Str × Set8) := zs8.zip sets8
theorem tabS_sp : ∀ t ∈ tabS, Txt.split t.1 " " = t.2.ws.map (fun x => shT x.1 x.2) ∧ t.1.length ≤ 100 := by decide +kernel
theorem tabS_in {t : Str × Set8} (h : t ∈ tabS) : t.2 ∈ sets8 := (List.of_mem_zip h).2
def dvS : List DV := tabS.map fun t => .tup [.str t.1, .int (t.2.most : Int), .int (t.2.many : Int)]
theorem insW_perm {es rows : List Cm.Wd} {e : Cm.Wd} {i j : Nat} (pm : es.Perm (rows.take i)) (h : rows[i]? = some e) : (es.take j ++ [e] ++ es.drop j).Perm (rows.take (i + 1)) := by
  rw [List.take_add_one, h, List.append_assoc]
  show List.Perm (es.take j ++ e :: es.drop j) (rows.take i ++ [e])
  refine List.perm_middle.trans ?_
  rw [List.take_append_drop]
  exact (List.Perm.cons e pm).trans (List.perm_append_singleton e _).symm
section
variable {P : Program} {w : World} {K : Frag} {mg : Str → Option Value} {base : Heap}
def SP_sts : DSp := fun ds G R => ds = [] ∧ ∀ p G', Sub G G' → G' p = some (.lst dvS) → R (.ref p) G'
def SP_tn8 : DSp := fun ds G R => ∃ (d p : Addr) (few : List Cm.Wd), ds = [.ref d, .ref p] ∧ HasDe G d ∧ G p = some (.lst (few.map eX)) ∧ few.length ≤ 100 ∧ ∀ few' : List Cm.Wd, few'.Perm few → R (eRow few') G
abbrev N_L_sets : List Str := ["_law_some"]
abbrev A_L_sets : List Str := []
theorem sc_L_sets : FnScope N_L_sets A_L_sets (defScope s_L_sets) := ⟨rfl, rfl, rfl, by decide +kernel, rfl, by decide +kernel, by decide +kernel⟩
theorem h_L_sets (a : At K mg "_law_sets" s_L_sets A_L_sets) (B : BI mg) : Has P w K mg base 1 "_law_sets" A_L_sets SP_sts := by
  refine at_mk a sc_L_sets fun f cdv A outer s H E hr ds G R hl h => ?_
  refine ⟨_, (dss_cons (ds_set (i := 0) sc_L_sets.nd rfl (.inl rfl) (de_lst (da_cons (de_tup (da_cons de_str (da_cons de_int (da_cons de_int da_nil)))) (da_cons (de_tup (da_cons de_str (da_cons de_int (da_cons de_int da_nil)))) da_nil))))
    (dss_cons (ds_expr (de_bm PySem.F.plainAttrs_list PySem.F.slot_list_append PySem.F.type_list_append md_append (dv 0) (da_cons (de_tup (da_cons de_str (da_cons de_int (da_cons de_int da_nil)))) da_nil)))
    (dss_cons (ds_expr (de_bm PySem.F.plainAttrs_list PySem.F.slot_list_append PySem.F.type_list_append md_append (dv 0) (da_cons (de_tup (da_cons de_str (da_cons de_int (da_cons de_int da_nil)))) da_nil)))
    (dss_cons (ds_expr (de_bm PySem.F.plainAttrs_list PySem.F.slot_list_append PySem.F.type_list_append md_append (dv 0) (da_cons (de_tup (da_cons de_str (da_cons de_int (da_cons de_int da_nil)))) da_nil)))
    (dss_cons (ds_expr (de_bm PySem.F.plainAttrs_list PySem.F.slot_list_append PySem.F.type_list_append md_append (dv 0) (da_cons (de_tup (da_cons de_str (da_cons de_int (da_cons de_int da_nil)))) da_nil)))
    (dss_cons (ds_expr (de_bm PySem.F.plainAttrs_list PySem.F.slot_list_append PySem.F.type_list_append md_append (dv 0) (da_cons (de_tup (da_cons de_str (da_cons de_int (da_cons de_int da_nil)))) da_nil)))
    (dss_cons (ds_expr (de_bm PySem.F.plainAttrs_list PySem.F.slot_list_append PySem.F.type_list_append md_append (dv 0) (da_cons (de_tup (da_cons de_str (da_cons de_int (da_cons de_int da_nil)))) da_nil)))
    (dss_one (ds_ret (dv 0)))))))))), ?_⟩
  obtain ⟨rfl, q⟩ := h
  walk_at "dd"
  intro p np
  refine abs_new np fun G0 s0 h0 => ?_
  walk_at "dd"
  refine w_app h0 (midlt (by decide)) ?_
  refine abs_upd h0 fun G1 u1 h1 => ?_
  walk_at "dd"
  have s1 : Sub G G1 := sub_up u1 s0 np
  refine w_app h1 (midlt (by decide)) ?_
  refine abs_upd h1 fun G2 u2 h2 => ?_
  walk_at "dd"
  have s2 : Sub G G2 := sub_up u2 s1 np
  refine w_app h2 (midlt (by decide)) ?_
  refine abs_upd h2 fun G3 u3 h3 => ?_
  walk_at "dd"
  have s3 : Sub G G3 := sub_up u3 s2 np
  refine w_app h3 (midlt (by decide)) ?_
  refine abs_upd h3 fun G4 u4 h4 => ?_
  walk_at "dd"
  have s4 : Sub G G4 := sub_up u4 s3 np
  refine w_app h4 (midlt (by decide)) ?_
  refine abs_upd h4 fun G5 u5 h5 => ?_
  walk_at "dd"
  have s5 : Sub G G5 := sub_up u5 s4 np
  refine w_app h5 (midlt (by decide)) ?_
  refine abs_upd h5 fun G6 u6 h6 => ?_
  walk_at "dd"
  have s6 : Sub G G6 := sub_up u6 s5 np
  exact Less.of (q p G6 s6 h6)
abbrev N_L_turned : List Str := ["_law_deck_here", "_law_words", "_law_found", "_law_word"]
abbrev A_L_turned : List Str := ["_law_deck_here", "_law_words"]
theorem sc_L_turned : FnScope N_L_turned A_L_turned (defScope s_L_turned) := ⟨rfl, rfl, rfl, by decide +kernel, rfl, by decide +kernel, by decide +kernel⟩
theorem h_L_turned (a : At K mg "_law_turned" s_L_turned A_L_turned) (B : BI mg) (c_L_draw : Has P w K mg base 2 "_law_draw" A_L_draw SP_drawE) : Has P w K mg base 3 "_law_turned" A_L_turned SP_tn8 := by
  refine at_mk a sc_L_turned fun f cdv A outer s H E hr ds G R hl h => ?_
  refine ⟨_, (dss_cons (ds_set (i := 2) sc_L_turned.nd rfl (.inl rfl) (de_lst da_nil))
    (dss_cons (ds_for PassesOwn.never rfl (di_list (dv 1)) (dg_name (i := 3) sc_L_turned.nd rfl (.inl rfl)) (dss_one (ds_expr (de_bm PySem.F.plainAttrs_list PySem.F.slot_list_insert PySem.F.type_list_insert md_insert (dv 2) (da_cons (de_call c_L_draw (hr.mono (by omega)) rfl (da_cons (dv 0) (da_cons (de_op od_add (de_callB cd_len B.len rfl (by decide +kernel) (da_cons (dv 2) da_nil)) de_int) da_nil))) (da_cons (dv 3) da_nil))))))
    (dss_one (ds_ret (de_callTy cd_tuple B.tup rfl (by decide +kernel) (da_cons (dv 2) da_nil)))))), ?_⟩
  obtain ⟨d, p, few, rfl, hk, hp, lf, q⟩ := h
  walk_at "dd"
  intro pz npz
  refine abs_new npz fun G3 s3 h3 => ?_
  walk_at "dd"
  refine for_by (fun i δ G' => ∃ (es : List Cm.Wd) (x3 : Option DV), δ = [some (.ref d), some (.ref p), some (.ref pz), x3] ∧ Sub G G' ∧ G' pz = some (.lst (es.map eX)) ∧ es.Perm (few.take i) ∧ i ≤ few.length) (fun i δ G' ⟨_, _, _, s', _⟩ => .inl (s' _ _ hp)) ⟨[], _, rfl, s3, h3, List.Perm.refl _, Nat.zero_le _⟩ ?_ ?_
  · clear h3 s3
    rintro i dd δ G4 hdd ⟨es, x3, rfl, s4, h4, pm, hi2⟩
    rw [List.getElem?_map] at hdd
    obtain ⟨e, he, rfl⟩ := Option.map_eq_some_iff.mp hdd
    have li : i < few.length := (List.getElem?_eq_some_iff.mp he).1
    have le : es.length = i := by rw [pm.length_eq, List.length_take]; omega
    walk_at "dd"
    rw [List.length_map]
    refine ⟨d, _, rfl, hk.sub s4, by omega, by omega, fun u u0 u1 => ?_⟩
    walk_at "dd"
    obtain ⟨u, rfl⟩ := Int.eq_ofNat_of_zero_le u0
    refine w_insert h4 (by rw [List.length_map]; omega) (by omega) ?_
    refine abs_upd h4 fun G6 u6 h6 => ?_
    refine ⟨es.take u ++ [e] ++ es.drop u, _, rfl, sub_up u6 s4 npz, h6.trans ?_, insW_perm pm he, li⟩
    rw [List.map_append, List.map_append, List.map_take, List.map_drop]; rfl
  · rintro δ G4 ⟨es, x3, rfl, s4, h4, pm, _⟩
    rw [List.length_map, List.take_length] at pm
    walk_at "dd"
    exact ⟨G, s4, q es pm⟩
end
local macro_rules | `(tactic| walk_at "gk") => `(tactic| first | assumption | exact dk_sub (by assumption) (by walk_at "gk") | exact dk_upd (by assumption) (by walk_at "gk") ⟨_, by walk_at "gq"⟩ | exact dk_updD (by assumption) (by walk_at "gk") ⟨_, by walk_at "gq"⟩)
def tabJ : List (Nat × Str × Nat) := [(1205, "abcd-cbc abcd-caab abc-aabab abc-aaba", 499), (1212, "abcde- abcdef-abab abcdefg-abca ab-bbbbbab", 406), (1202, "abcdefg-cb abcdef-bafe abcdefg-gabce abcdef-fcabd", 539), (1221, "abc-caca abcd-adab ab-bbbba ab-bbaaaa", 419)]
theorem tabJ_of : ∀ x ∈ sets8, 1200 < x.many → ∃ t ∈ tabJ, t.1 = x.many ∧ t.2.2 = x.fewer ∧ Txt.split t.2.1 " " = x.just.map (fun y => shT y.1 y.2) ∧ t.2.1.length ≤ 100 := by decide +kernel
local macro_rules | `(tactic| walk_at "dj") => `(tactic| repeat (first | walk_at "d1" | (with_reducible refine w_dispI ?_) | (with_reducible refine w_dputI ?_) | (with_reducible refine w_dgetI ?_)))
section
variable {P : Program} {w : World} {K : Frag} {mg : Str → Option Value} {base : Heap}
def SP_jst : DSp := fun ds G R => ∃ t ∈ tabJ, ds = [.int (t.1 : Int)] ∧ R (.tup [.str t.2.1, .int (t.2.2 : Int)]) G
abbrev N_L_just : List Str := ["_law_many", "_law_some"]
abbrev A_L_just : List Str := ["_law_many"]
theorem sc_L_just : FnScope N_L_just A_L_just (defScope s_L_just) := ⟨rfl, rfl, rfl, by decide +kernel, rfl, by decide +kernel, by decide +kernel⟩
theorem h_L_just (a : At K mg "_law_just" s_L_just A_L_just) (B : BI mg) : Has P w K mg base 1 "_law_just" A_L_just SP_jst := by
  refine at_mk a sc_L_just fun f cdv A outer s H E hr ds G R hl h => ?_
  refine ⟨_, (dss_cons (ds_set (i := 1) sc_L_just.nd rfl (.inl rfl) (de_dispI (dps_cons de_int (de_tup (da_cons de_str (da_cons de_int da_nil))) dps_nil)))
    (dss_cons (ds_dputI (DD.hu_of hr) (dv 1) de_int (de_tup (da_cons de_str (da_cons de_int da_nil))))
    (dss_cons (ds_dputI (DD.hu_of hr) (dv 1) de_int (de_tup (da_cons de_str (da_cons de_int da_nil))))
    (dss_cons (ds_dputI (DD.hu_of hr) (dv 1) de_int (de_tup (da_cons de_str (da_cons de_int da_nil))))
    (dss_one (ds_ret (de_dgetI (DD.hu_of hr) (dv 1) (dv 0) (fun _ _ => rfl)))))))), ?_⟩
  obtain ⟨t, ht, rfl, q⟩ := h
  walk_at "dj"
  intro p np
  refine abs_new np fun G9 s9 h9 => ?_
  unfold dPairs
  walk_at "dj"
  unfold dPairs
  refine ⟨h9, [(1205, .tup [.str "abcd-cbc abcd-caab abc-aabab abc-aaba", .int 499])], rfl, by decide, ?_⟩
  refine abs_upd h9 fun G0 u0 h0 => ?_
  have s0 : Sub G G0 := sub_up u0 s9 np
  walk_at "dj"
  refine ⟨p, _, _, rfl, rfl, h0, midlt (by decide), ?_⟩
  refine abs_upd h0 fun G1 u1 h1 => ?_
  walk_at "dj"
  have s1 : Sub G G1 := sub_up u1 s0 np
  refine ⟨p, _, _, rfl, rfl, h1, midlt (by decide), ?_⟩
  refine abs_upd h1 fun G2 u2 h2 => ?_
  walk_at "dj"
  have s2 : Sub G G2 := sub_up u2 s1 np
  refine ⟨p, _, _, rfl, rfl, h2, midlt (by decide), ?_⟩
  refine abs_upd h2 fun G3 u3 h3 => ?_
  walk_at "dj"
  have s3 : Sub G G3 := sub_up u3 s2 np
  simp only [tabJ, List.mem_cons, List.not_mem_nil, or_false] at ht
  rcases ht with rfl | rfl | rfl | rfl
  · exact ⟨p, _, _, _, rfl, rfl, h3, rfl, ⟨G, s3, q⟩⟩
  · exact ⟨p, _, _, _, rfl, rfl, h3, rfl, ⟨G, s3, q⟩⟩
  · exact ⟨p, _, _, _, rfl, rfl, h3, rfl, ⟨G, s3, q⟩⟩
  · exact ⟨p, _, _, _, rfl, rfl, h3, rfl, ⟨G, s3, q⟩⟩
end
theorem fm_none {few r : List Cm.Wd} : ((r.map eX).filterMap fun d => if inD d (few.map eX) = true then none else some d).isEmpty = decide (∀ x ∈ r, inD (eX x) (few.map eX) = true) := by
  by_cases h : ∀ x ∈ r, inD (eX x) (few.map eX) = true
  · rw [decide_eq_true h, List.filterMap_eq_nil_iff.mpr fun d hd => ?_]; rfl
    obtain ⟨x, hx, rfl⟩ := List.mem_map.mp hd
    rw [if_pos (h x hx)]
  · rw [decide_eq_false h]
    cases hz : (r.map eX).filterMap fun d => if inD d (few.map eX) = true then none else some d with
    | nil =>
      refine absurd (fun x hx => ?_) h
      have := List.filterMap_eq_nil_iff.mp hz (eX x) (List.mem_map.mpr ⟨x, hx, rfl⟩)
      by_cases e : inD (eX x) (few.map eX) = true
      · exact e
      · rw [if_neg e] at this; cases this
    | cons _ _ => rfl
theorem hu64_of {k : Nat} {A : Around} (h : Room k A) : A.units + 64 < cLine := by have := h.units; omega
theorem w_isBB {n a b : Bool} {G : DG} {Q : DK} (h : Q (.bl (ng n (decide (a = b)))) G) : bIs n (.bl a) (.bl b) G Q := by cases n <;> exact h
section
variable {P : Program} {w : World} {K : Frag} {mg : Str → Option Value} {base : Heap}
def SP_ijs : DSp := fun ds G R => ∃ (few : List Cm.Wd) (x : Cm.Wd) (L : Nat) (r : List Cm.Wd) (bk : List (List Cm.Wd)), ds = [eRow few, eX x, .int ((L + 1 : Nat) : Int), .int (bk.length : Int), .tup [.str "least", eRow r, lines bk]] ∧
  Shuf x.1 x.2 ∧ Good r ∧ r.length = L + 1 ∧ L ≤ 10 ∧ (∀ y ∈ r, y ∈ few) ∧ mapP r = mapP [x] ∧ BookOk few L bk ∧ R (.bl true) G
abbrev N_L_is_just : List Str := ["_law_few", "_law_word", "_law_length", "_law_fewer", "_law_found", "_law_row", "_law_book", "_law_one"]
abbrev A_L_is_just : List Str := ["_law_few", "_law_word", "_law_length", "_law_fewer", "_law_found"]
theorem sc_L_is_just : FnScope N_L_is_just A_L_is_just (defScope s_L_is_just) := ⟨rfl, rfl, rfl, by decide +kernel, rfl, by decide +kernel, by decide +kernel⟩
theorem h_L_is_just (a : At K mg "_law_is_just" s_L_is_just A_L_is_just) (B : BI mg) (c_L_least : Has P w K mg base 1 "_law_least" A_L_least SP_llp) (c_L_whole : Has P w K mg base 2 "_law_whole" A_L_whole SP_lwh) (c_p_map_book_holds : Has P w K mg base 6 "map_book_holds" A_p_map_book_holds SP_mbh) : Has P w K mg base 8 "_law_is_just" A_L_is_just SP_ijs := by
  refine at_mk a sc_L_is_just fun f cdv A outer s H E hr ds G R hl h => ?_
  refine ⟨_, (dss_cons (ds_if (dt_w (dw_or (dt_not (dt_e (de_callB cd_isi B.isi rfl (by decide +kernel) (da_cons (dv 4) (da_cons (de_ty (n := "tuple") B.tup rfl (by decide +kernel)) da_nil))))) (dw_or (dt_cmp (od_ne hr.units) (de_callB cd_len B.len rfl (by decide +kernel) (da_cons (dv 4) da_nil)) de_int (nomark _)) (dw_or (dt_cmp (od_ne hr.units) (de_ix (dv 4) de_int) de_str (nomark _)) (dw_or1 (dt_not (dt_e (de_callB cd_isi B.isi rfl (by decide +kernel) (da_cons (de_ix (dv 4) de_int) (da_cons (de_ty (n := "tuple") B.tup rfl (by decide +kernel)) da_nil)))))))))) (dss_one (ds_ret de_bl)) dss_nil)
    (dss_cons (ds_asg (de_slice (dv 4) (do_some de_int) do_none) (dg_tup rfl (dgs_cons (dg_name (i := 5) sc_L_is_just.nd rfl (.inl rfl)) (dgs_cons (dg_name (i := 6) sc_L_is_just.nd rfl (.inl rfl)) dgs_nil))))
    (dss_cons (ds_if (dt_w (dw_or (dt_cmp (od_ne hr.units) (de_callB cd_len B.len rfl (by decide +kernel) (da_cons (dv 5) da_nil)) (dv 2) (nomark _)) (dw_or1 (dt_cmp (od_neNil (hu64_of hr)) (de_lc (own := [("_law_one", 7)]) (lt1 (i := 7) (by decide)) rfl sc_L_is_just.nd (di_tup (dv 5)) (blkOk_by (own := [("_law_one", 7)]) (N := N_L_is_just) (sc := defScope s_L_is_just) (by decide +kernel)) (fun _ _ _ _ _ => pg_name (i := 7) sc_L_is_just.nd rfl (Or.inl rfl)) (fun _ _ _ _ _ => (dts_one (dt_cmp od_notin (dv 7) (dv 0) rfl))) (fun _ _ _ _ _ => (dv 7))) (de_lst da_nil) (nomark _))))) (dss_one (ds_ret de_bl)) dss_nil)
    (dss_cons (ds_if (dt_cmp (od_ne hr.units) (de_call c_L_least (hr.mono (by omega)) rfl (da_cons (de_call c_L_whole (hr.mono (by omega)) rfl (da_cons (dv 5) da_nil)) da_nil)) (de_call c_L_least (hr.mono (by omega)) rfl (da_cons (de_call c_L_whole (hr.mono (by omega)) rfl (da_cons (de_tup (da_cons (dv 1) da_nil)) da_nil)) da_nil)) (nomark _)) (dss_one (ds_ret de_bl)) dss_nil)
    (dss_one (ds_ret (de_and (de_cmp (od_eq hr.units) (de_callB cd_len B.len rfl (by decide +kernel) (da_cons (dv 6) da_nil)) (dv 3) (nomark _)) (de_one (de_cmp od_is (de_call c_p_map_book_holds (hr.mono (by omega)) rfl (da_cons (dv 0) (da_cons (de_op od_sub (dv 2) de_int) (da_cons (dv 6) da_nil)))) de_bl (nomark _)))))))))), ?_⟩
  obtain ⟨few, x, L, r, bk, rfl, gx, gr, lr, lL, hin, em, bo, q⟩ := h
  have g1 : Good [x] := fun y hy => by rw [List.mem_singleton.mp hy]; exact gx
  walk_at "dd"
  rw [show (1 : Int) = ((1 : Nat) : Int) from rfl, cutD_from]
  show gNC (gN 5) (gNC (gN 6) gN0) [eRow r, lines bk] _ _ _
  walk_at "dd"
  rw [List.length_map, lr]
  refine w_iteN (fun z => absurd rfl z) (fun _ => ?_)
  walk_at "dd"
  refine lcs_pure (fun d => if inD d (few.map eX) = true then none else some d) (fun _ _ => trivial) (by rw [List.length_map]; omega) ?_ ?_
  · intro y hy G' k1 k0 s' e1 e0
    obtain ⟨z, hz, rfl⟩ := List.mem_map.mp hy
    walk_at "dd"
    refine w_inT (eRow_flat few) ?_
    walk_at "dd"
    have hb : inD (.str (shT z.1 (pk z))) (few.map eX) = true := eRow_in (hin z hz)
    have en : ∀ b : Bool, ng true b = !b := fun _ => rfl
    rw [en, hb]
    exact e0 (by rw [show inD (eX z) (few.map eX) = true from hb, if_pos rfl])
  intro p1 G1 n1 s1 h1
  walk_at "dd"
  intro p2 n2
  refine abs_new n2 fun G2 s2 h2 => ?_
  refine w_neNil (s2 _ _ h1) h2 ?_
  rw [fm_none, decide_eq_true (show ∀ x ∈ r, inD (eX x) (few.map eX) = true from fun z hz => eRow_in (hin z hz))]
  walk_at "dd"
  refine ⟨r, rfl, gr, by omega, fun pa Ga na sa ha => ?_⟩
  walk_at "dd"
  refine ⟨_, _, pa, rfl, ha, by have := (wmap_ok gr).2.1; omega, by have := (wmap_ok gr).1; omega, fun z hz => ((wmap_ok gr).2.2 z hz).2, ?_⟩
  walk_at "dd"
  refine ⟨[x], rfl, g1, by show 1 ≤ 20; decide, fun pb Gb nb sb hb => ?_⟩
  walk_at "dd"
  have l1 : [x].length = 1 := rfl
  refine ⟨_, _, pb, rfl, hb, by have := (wmap_ok g1).2.1; omega, by have := (wmap_ok g1).1; omega, fun z hz => ((wmap_ok g1).2.2 z hz).2, ?_⟩
  walk_at "dd"
  show bEq true (mkD (mapP r)) (mkD (mapP [x])) _ _
  refine w_neM ?_
  rw [decide_eq_true em]
  walk_at "dd"
  rw [List.length_map]
  refine w_it (decide_eq_true rfl) ?_
  walk_at "dd"
  rw [show ((L + 1 : Nat) : Int) - ((1 : Nat) : Int) = (L : Int) by omega]
  refine ⟨few, L, bk, rfl, bo, ?_⟩
  walk_at "dd"
  refine w_isBB ?_
  exact ⟨G, s1.trans (s2.trans (sa.trans sb)), q⟩
end
local macro_rules | `(tactic| walk_at "gk") => `(tactic| first | assumption | exact de_sub_ (by assumption) (by walk_at "gk") | exact dke_upd (by assumption) (by walk_at "gk") ⟨_, by walk_at "gq"⟩ | exact dke_updD (by assumption) (by walk_at "gk") ⟨_, by walk_at "gq"⟩)
theorem run_lenB {α β : Type} [DecidableEq β] (m : List α → β) : ∀ (rs : List (List α)) (st : List (List α) × List (List α)), st.1.length ≤ (Bfs.run m st rs).1.length
  | [], _ => Nat.le_refl _
  | r :: rs, st => by
    refine Nat.le_trans ?_ (run_lenB m rs (Bfs.add m st r))
    unfold Bfs.add
    split
    · exact Nat.le_refl _
    · rw [List.length_append]; omega
theorem ln_up (few : List Cm.Wd) (a : Nat) : ∀ k, lnW few a ≤ lnW few (a + k)
  | 0 => Nat.le_refl _
  | k + 1 => Nat.le_trans (ln_up few a k) (run_lenB mapP _ ((bfsW few (a + k)).1, []))
theorem ln_le {few : List Cm.Wd} {a b : Nat} (l : a ≤ b) : lnW few a ≤ lnW few b := by
  have := ln_up few a (b - a)
  rwa [show a + (b - a) = b by omega] at this
/-- all that is known of one of the eight sets, its words in some order -/
structure Of8 (x : Set8) (few : List Cm.Wd) : Prop where
  mem : x ∈ sets8
  pm : few.Perm (few8 x)
theorem Of8.gf {x : Set8} {few : List Cm.Wd} (h : Of8 x few) : Good few := fun w hw => good8 h.mem w (h.pm.mem_iff.mp hw)
theorem Of8.len {x : Set8} {few : List Cm.Wd} (h : Of8 x few) : few.length ≤ 6 ∧ few ≠ [] := by
  obtain ⟨_, _, a, b, _, _⟩ := sets8_ok x h.mem
  have l := h.pm.length_eq
  unfold few8 at l
  rw [List.length_map] at l
  refine ⟨by omega, fun z => a ?_⟩
  rw [z] at l
  exact List.length_eq_zero_iff.mp l.symm
theorem Of8.most {x : Set8} {few : List Cm.Wd} (h : Of8 x few) : 0 < x.most ∧ x.most ≤ 6 ∧ x.many ≤ 1300 := by
  obtain ⟨a, b, _, _, c, _⟩ := sets8_ok x h.mem
  exact ⟨a, b, c⟩
theorem Of8.low {x : Set8} {few : List Cm.Wd} (h : Of8 x few) {L : Nat} (l : L ≤ x.most - 1) : lnW few L ≤ 1200 := Nat.le_trans (ln_le l) (told8 h.mem h.pm).1
theorem Of8.high {x : Set8} {few : List Cm.Wd} (h : Of8 x few) : lnW few x.most = x.many := (told8 h.mem h.pm).2.2.2.1
theorem Of8.never {x : Set8} {few : List Cm.Wd} (h : Of8 x few) {y : NS} (hy : y ∈ never8) : Shuf (wdOf y.1 y.2).1 (wdOf y.1 y.2).2 ∧ ∀ L, L ≤ x.most → mapP [wdOf y.1 y.2] ∉ (bfsW few L).1.map mapP := by
  refine ⟨wd8 h.mem (List.mem_append_right _ hy), fun L l z => (told8 h.mem h.pm).2.2.2.2.2 y hy ?_⟩
  have up : ∀ k, mapP [wdOf y.1 y.2] ∈ (bfsW few (L + k)).1.map mapP := by
    intro k
    induction k with
    | zero => exact z
    | succ k ih => exact Bfs.run_keeps mapP _ ((bfsW few (L + k)).1, []) _ ih
  have := up (x.most - L)
  rwa [show L + (x.most - L) = x.most by omega] at this
theorem Of8.book {x : Set8} {few : List Cm.Wd} (h : Of8 x few) {L : Nat} (l : L ≤ x.most) (lw : lnW few L ≤ 1200) : BookOk few L (bfsW few L).1 := by
  have gf := h.gf
  have m6 := h.most
  refine ⟨gf, h.len.2, by have := h.len.1; omega, by omega, lw, fun r hr => ?_, Bfs.bfs_nodup mapP few (cong_few gf) L, ?_, fun r hr hl w hw => ?_⟩
  · exact Bfs.upto_few few L r (Bfs.bfs_mem mapP few (cong_few gf) L r hr)
  · rw [Bfs.bfs_find mapP few (cong_few gf)]
    obtain ⟨l, hl⟩ := Bfs.upto_mono few (Nat.zero_le L)
    rw [hl]
    show List.find? _ ([] :: l) = _
    rw [List.find?_cons_of_pos (by exact decide_eq_true mapP_nil)]
  · obtain ⟨s, h1, h2, h3⟩ := Bfs.bfs_closed mapP few (cong_few gf) hr hl hw
    exact ⟨s, h1, h3⟩
/-- the row that just so many words make -/
theorem Of8.just {x : Set8} {few : List Cm.Wd} (h : Of8 x few) {y : NS} (hy : y ∈ x.just) : Shuf (wdOf y.1 y.2).1 (wdOf y.1 y.2).2 ∧ mapP [wdOf y.1 y.2] ∉ (bfsW few (x.most - 1)).1.map mapP ∧
    ∃ r, (bfsW few x.most).1.find? (fun r => decide (mapP r = mapP [wdOf y.1 y.2])) = some r ∧ r.length = x.most ∧ Good r ∧ (∀ z ∈ r, z ∈ few) ∧ mapP r = mapP [wdOf y.1 y.2] := by
  obtain ⟨_, _, n, _, f, _⟩ := told8 h.mem h.pm
  have gf := h.gf
  have n := n y hy
  refine ⟨wd8 h.mem (List.mem_append_left _ (List.mem_append_right _ hy)), n, ?_⟩
  obtain ⟨r, hr, e⟩ := List.mem_map.mp (f y hy)
  cases ef : (bfsW few x.most).1.find? (fun r => decide (mapP r = mapP [wdOf y.1 y.2])) with
  | none => exact absurd (decide_eq_true e) (List.find?_eq_none.mp ef r hr)
  | some r =>
    have e1 : mapP r = mapP [wdOf y.1 y.2] := by have z := List.find?_some ef; exact of_decide_eq_true z
    have m1 := Bfs.bfs_mem mapP few (cong_few gf) _ r (List.mem_of_find?_eq_some ef)
    obtain ⟨l1, l2⟩ := Bfs.upto_few few _ r m1
    refine ⟨r, rfl, ?_, fun z hz => gf z (l2 z hz), l2, e1⟩
    refine Nat.le_antisymm l1 (Classical.byContradiction fun z => n ?_)
    have m2 := Bfs.mem_upto few l2 (show r.length ≤ x.most - 1 by omega)
    have fu := Bfs.bfs_find mapP few (cong_few gf) (x.most - 1) (mapP [wdOf y.1 y.2])
    cases ec : (bfsW few (x.most - 1)).1.find? (fun r => decide (mapP r = mapP [wdOf y.1 y.2])) with
    | none =>
      rw [show Bfs.bfs mapP few (x.most - 1) = bfsW few (x.most - 1) from rfl, ec] at fu
      exact absurd (decide_eq_true e1) (List.find?_eq_none.mp fu.symm r m2)
    | some s => exact List.mem_map.mpr ⟨s, List.mem_of_find?_eq_some ec, by have z := List.find?_some ec; exact of_decide_eq_true z⟩
theorem few_tx (x : Set8) : (x.ws.map fun y => shT y.1 y.2).map DV.str = (few8 x).map eX := by
  unfold few8
  rw [List.map_map, List.map_map]
  exact List.map_congr_left fun y _ => (eX_wd y.1 y.2).symm
theorem never_tx : ∀ z ∈ [DV.str "abcdefgh-hgfedcba", DV.str "abcdefgh-aaaaaaaaaaaa"], ∃ y ∈ never8, z = eX (wdOf y.1 y.2) := by
  intro z hz
  rcases List.mem_cons.mp hz with rfl | hz
  · exact ⟨(8, [7, 6, 5, 4, 3, 2, 1, 0]), by decide, by rw [eX_wd]; exact congrArg DV.str (by decide +kernel)⟩
  · rw [List.mem_singleton.mp hz]
    exact ⟨(8, [0, 0, 0, 0, 0, 0, 0, 0, 0, 0, 0, 0]), by decide, by rw [eX_wd]; exact congrArg DV.str (by decide +kernel)⟩
theorem way_of (u : Int) (m : Nat) (u0 : 0 ≤ u) : ∃ v : Int, u % (2 + if decide (1200 < (m : Int)) = true then 1 else 0) = v ∧ 0 ≤ v ∧ v ≤ 2 ∧ (v = 2 → 1200 < m) := by
  by_cases c : 1200 < m
  · refine ⟨_, rfl, ?_, ?_, fun _ => c⟩ <;> rw [decide_eq_true (show (1200 : Int) < m by omega), if_pos rfl] <;> omega
  · refine ⟨_, rfl, ?_, ?_, ?_⟩ <;> rw [decide_eq_false (show ¬ (1200 : Int) < m by omega), if_neg Bool.false_ne_true] <;> omega
theorem cm_ref (n : Int) : Cmps [.str "refused", .int n, .int 1200] := ⟨rfl, by show (PyData.strOk "refused" && (true && (true && true))) = true; decide +kernel, by show max 0 (max 0 (max 0 0)) ≤ 60; decide⟩
def lf0 : DV → Option DV
  | .tup (a :: _) => some a
  | _ => none
theorem lf0_lines (bk : List (List Cm.Wd)) : (bk.map fun r => DV.tup [mkD (mapP r), eRow r]).filterMap lf0 = (bk.map mapP).map mkD := by
  induction bk with
  | nil => rfl
  | cons r bk ih => rw [List.map_cons, List.filterMap_cons_some (f := lf0) (b := mkD (mapP r)) rfl, ih]; rfl
theorem two_of {v : Int} {m : Nat} (m6 : m ≤ 6) (h0 : 0 ≤ v) (h1 : v < 2) : ∃ M : Nat, atI [DV.int (m : Int), DV.int 6] v = some (.int (M : Int)) ∧ m ≤ M ∧ M ≤ 6 := by
  obtain ⟨z, hz, ha⟩ := pick (xs := [DV.int (m : Int), DV.int 6]) (n := 2) h0 h1 rfl
  rcases List.mem_cons.mp hz with rfl | hz
  · exact ⟨m, ha, Nat.le_refl _, m6⟩
  · rw [List.mem_singleton.mp hz] at ha; exact ⟨6, ha, m6, Nat.le_refl _⟩
theorem in_le {few : List Cm.Wd} {k : MK} {a b : Nat} (l : a ≤ b) (h : k ∈ (bfsW few a).1.map mapP) : k ∈ (bfsW few b).1.map mapP := by
  have up : ∀ c, k ∈ (bfsW few (a + c)).1.map mapP := by
    intro c
    induction c with
    | zero => exact h
    | succ c ih => exact Bfs.run_keeps mapP _ ((bfsW few (a + c)).1, []) _ ih
  have := up (b - a)
  rwa [show a + (b - a) = b by omega] at this
theorem nil_in (few : List Cm.Wd) (L : Nat) : mapP [] ∈ (bfsW few L).1.map mapP := in_le (Nat.zero_le L) (List.mem_map.mpr ⟨[], List.mem_singleton.mpr rfl, rfl⟩)
theorem in_find {few : List Cm.Wd} {k : MK} {L : Nat} {r : List Cm.Wd} (h : (bfsW few L).1.find? (fun r => decide (mapP r = k)) = some r) : k ∈ (bfsW few L).1.map mapP := by
  have z := List.find?_some h
  exact List.mem_map.mpr ⟨r, List.mem_of_find?_eq_some h, of_decide_eq_true z⟩
theorem just4 : ∀ x ∈ sets8, 1200 < x.many → x.just.length = 4 := by decide +kernel
section
variable {P : Program} {w : World} {K : Frag} {mg : Str → Option Value} {base : Heap}
abbrev N_L_law : List Str := ["_law_script", "_law_deck_here", "_law_words", "_law_most", "_law_many", "_law_few", "_law_way", "_law_word", "_law_just_here", "_law_fewer", "_law_found", "_law_line"]
abbrev A_L_law : List Str := ["_law_script"]
theorem sc_L_law : FnScope N_L_law A_L_law (defScope s_L_law) := ⟨rfl, rfl, rfl, by decide +kernel, rfl, by decide +kernel, by decide +kernel⟩
theorem ok_law {eT : Addr} {f gd : Addr} {fd dd : FuncData} (F : Fun K "law" "law" s_L_law f fd) (B : BI mg) (DE : FnOk P w K mg base CX0 1 gd dd ["_law_script"] (spDeckE K)) (bDE : L2.Binds K dd ["_law_script"] []) (kDE : keepIn K (.ref gd) = true) (mDE : mg "_law_deck" = some (.ref gd))
    (c_L_draw : Has P w K mg base 2 "_law_draw" A_L_draw SP_drawE)
    (c_L_sets : Has P w K mg base 1 "_law_sets" A_L_sets SP_sts)
    (c_L_turned : Has P w K mg base 3 "_law_turned" A_L_turned SP_tn8)
    (c_L_just : Has P w K mg base 1 "_law_just" A_L_just SP_jst)
    (c_L_asked : Has P w K mg base 8 "_law_asked" A_L_asked (SP_ask eT))
    (c_L_is_just : Has P w K mg base 8 "_law_is_just" A_L_is_just SP_ijs)
    : FnOk P w K mg base CX0 9 f fd ["_law_script"] (spLaw K) := by
  refine F.ok sc_L_law (fun vs H Q E h => ?_) (fun cdv A outer s H vs Q E hr h => ?_)
  · obtain ⟨a, ns, rfl, _⟩ := h
    rfl
  obtain ⟨a, ns, rfl, hS, h63, q⟩ := h
  refine ⟨_, pss_cons (ps_set (i := 1) sc_L_law.nd rfl (.inl rfl) (pe_call DE (hr.mono (by omega)) rfl mDE kDE bDE .nil pass0 (pa_cons (pv 0) pa_nil)))
    (dss_cons (ds_asg (de_ix (de_call0 c_L_sets (hr.mono (by omega)) rfl) (de_call c_L_draw (hr.mono (by omega)) rfl (da_cons (dv 1) (da_cons de_int da_nil)))) (dg_tup rfl (dgs_cons (dg_name (i := 2) sc_L_law.nd rfl (.inl rfl)) (dgs_cons (dg_name (i := 3) sc_L_law.nd rfl (.inl rfl)) (dgs_cons (dg_name (i := 4) sc_L_law.nd rfl (.inl rfl)) dgs_nil)))))
    (dss_cons (ds_set (i := 5) sc_L_law.nd rfl (.inl rfl) (de_call c_L_turned (hr.mono (by omega)) rfl (da_cons (dv 1) (da_cons (de_bm PySem.F.plainAttrs_str PySem.F.slot_str_split PySem.F.type_str_split md_split (dv 2) (da_cons de_str da_nil)) da_nil))))
    (dss_cons (ds_set (i := 6) sc_L_law.nd rfl (.inl rfl) (de_op od_mod (de_call c_L_draw (hr.mono (by omega)) rfl (da_cons (dv 1) (da_cons de_int da_nil))) (de_op od_add de_int (de_callTy cd_int B.int rfl (by decide +kernel) (da_cons (de_cmp od_gt (dv 4) de_int (nomark _)) da_nil)))))
    (dss_cons (ds_set (i := 7) sc_L_law.nd rfl (.inl rfl) (de_ix (de_lst (da_cons de_str (da_cons de_str da_nil))) (de_call c_L_draw (hr.mono (by omega)) rfl (da_cons (dv 1) (da_cons de_int da_nil)))))
    (dss_cons (ds_if (dt_cmp (od_eq hr.units) (dv 6) de_int (nomark _)) (dss_cons (ds_asg (de_call c_L_just (hr.mono (by omega)) rfl (da_cons (dv 4) da_nil)) (dg_tup rfl (dgs_cons (dg_name (i := 8) sc_L_law.nd rfl (.inl rfl)) (dgs_cons (dg_name (i := 9) sc_L_law.nd rfl (.inl rfl)) dgs_nil))))
      (dss_cons (ds_set (i := 7) sc_L_law.nd rfl (.inl rfl) (de_ix (de_bm PySem.F.plainAttrs_str PySem.F.slot_str_split PySem.F.type_str_split md_split (dv 8) (da_cons de_str da_nil)) (de_call c_L_draw (hr.mono (by omega)) rfl (da_cons (dv 1) (da_cons de_int da_nil)))))
      (dss_cons (ds_set (i := 10) sc_L_law.nd rfl (.inl rfl) (de_call c_L_asked (hr.mono (by omega)) rfl (da_cons de_int (da_cons (dv 5) (da_cons (dv 7) (da_cons (de_ix (de_lst (da_cons (dv 3) (da_cons de_int da_nil))) (de_call c_L_draw (hr.mono (by omega)) rfl (da_cons (dv 1) (da_cons de_int da_nil)))) da_nil))))))
      (dss_one (ds_ret (de_call c_L_is_just (hr.mono (by omega)) rfl (da_cons (dv 5) (da_cons (dv 7) (da_cons (dv 3) (da_cons (dv 9) (da_cons (dv 10) da_nil))))))))))) dss_nil)
    (dss_cons (ds_if (dt_cmp od_gt (dv 4) de_int (nomark _)) (dss_cons (ds_set (i := 3) sc_L_law.nd rfl (.inl rfl) (de_ix (de_lst (da_cons (dv 3) (da_cons de_int da_nil))) (de_call c_L_draw (hr.mono (by omega)) rfl (da_cons (dv 1) (da_cons de_int da_nil)))))
      (dss_one (ds_ret (de_cmp (od_eq hr.units) (de_call c_L_asked (hr.mono (by omega)) rfl (da_cons (dv 6) (da_cons (dv 5) (da_cons (dv 7) (da_cons (dv 3) da_nil))))) (de_lst (da_cons de_str (da_cons (dv 4) (da_cons de_int da_nil)))) (nomark _))))) dss_nil)
    (dss_cons (ds_set (i := 10) sc_L_law.nd rfl (.inl rfl) (de_call c_L_asked (hr.mono (by omega)) rfl (da_cons (dv 6) (da_cons (dv 5) (da_cons (dv 7) (da_cons (dv 3) da_nil))))))
    (dss_cons (ds_if (dt_cmp (od_eq hr.units) (dv 6) de_int (nomark _)) (dss_cons (ds_if (dt_w (dw_or (dt_not (dt_e (de_callB cd_isi B.isi rfl (by decide +kernel) (da_cons (dv 10) (da_cons (de_ty (n := "tuple") B.tup rfl (by decide +kernel)) da_nil))))) (dw_or (dt_cmp (od_ne hr.units) (de_callB cd_len B.len rfl (by decide +kernel) (da_cons (dv 10) da_nil)) de_int (nomark _)) (dw_or1 (dt_cmp (od_ne hr.units) (de_ix (dv 10) de_int) de_str (nomark _)))))) (dss_one (ds_ret de_bl)) dss_nil)
      (dss_one (ds_set (i := 10) sc_L_law.nd rfl (.inl rfl) (de_ix (dv 10) de_int)))) dss_nil)
    (dss_one (ds_ret (de_and (de_callB cd_isi B.isi rfl (by decide +kernel) (da_cons (dv 10) (da_cons (de_ty (n := "tuple") B.tup rfl (by decide +kernel)) da_nil))) (de_and (de_cmp (od_eq hr.units) (de_callB cd_len B.len rfl (by decide +kernel) (da_cons (dv 10) da_nil)) (dv 4) (nomark _)) (de_one (de_cmp (od_eq hr.units) (de_lenSetM rfl (hu64_of hr) B.len rfl B.set rfl (de_lc (own := [("_law_line", 11)]) (lt1 (i := 11) (by decide)) rfl sc_L_law.nd (di_tup (dv 10)) (blkOk_by (own := [("_law_line", 11)]) (N := N_L_law) (sc := defScope s_L_law) (by decide +kernel)) (fun _ _ _ _ _ => pg_name (i := 11) sc_L_law.nd rfl (Or.inl rfl)) (fun _ _ _ _ _ => dts_nil) (fun _ _ _ _ _ => (de_ix (dv 11) de_int)))) (dv 4) (nomark _))))))))))))))), ?_⟩
  refine ⟨_, rfl, a, ns, rfl, hS, h63, fun d H1 s1 nd D1 => ?_⟩
  refine law_goE (δ := [some (.ref a), some (.ref d), none, none, none, none, none, none, none, none, none, none]) D1 (.cons (.ref a) (.cons (.ref d) (Sl.nones 10))) (fun H' => q H') fun G hk => ?_
  walk_at "dd"
  refine ⟨rfl, fun p1 G1 s1 h1 => ?_⟩
  walk_at "dd"
  refine ⟨d, 8, rfl, by walk_at "gk", by decide, by decide, fun u u0 u1 => ?_⟩
  obtain ⟨z, hz, ha⟩ := pick (xs := dvS) u0 u1 rfl
  obtain ⟨t, ht, rfl⟩ := List.mem_map.mp hz
  walk_at "dd"
  refine w_ixL h1 ha ?_
  clear ha h1
  obtain ⟨spl, l100⟩ := tabS_sp t ht
  have mem := tabS_in ht
  obtain ⟨z0, x⟩ := t
  dsimp only at spl l100 mem
  obtain ⟨m0, m6, many⟩ := (⟨mem, List.Perm.refl _⟩ : Of8 x (few8 x)).most
  have lw := (⟨mem, List.Perm.refl _⟩ : Of8 x (few8 x)).len.1
  refine ⟨_, rfl, rfl, ?_⟩
  show gNC (gN 2) (gNC (gN 3) (gNC (gN 4) gN0)) [.str z0, .int (x.most : Int), .int (x.many : Int)] _ _ _
  walk_at "dd"
  refine w_split rfl (mid (by omega)) ?_
  rw [spl, few_tx]
  intro p2 n2
  refine abs_new n2 fun G2 s2 h2 => ?_
  walk_at "dd"
  refine ⟨d, p2, few8 x, rfl, by walk_at "gk", h2, by omega, fun few pm => ?_⟩
  have o8 : Of8 x few := ⟨mem, pm⟩
  have hk : HasDe G2 d := by walk_at "gk"
  clear h2 s2 s1 n2 pm spl l100 ht
  walk_at "dd"
  refine ⟨d, 3, rfl, by walk_at "gk", by decide, by decide, fun u u0 u1 => ?_⟩
  walk_at "dd"
  refine w_int (by split <;> decide) ?_
  obtain ⟨v, ev, v0, v2, vm⟩ := way_of u x.many u0
  rw [ev]
  clear ev u1 u0
  walk_at "dd"
  intro p3 n3
  refine abs_new n3 fun G3 s3 h3 => ?_
  walk_at "dd"
  refine ⟨d, 2, rfl, by walk_at "gk", by decide, by decide, fun a a0 a1 => ?_⟩
  obtain ⟨z, hz, ha⟩ := pick (n := 2) a0 a1 (rfl : [DV.str "abcdefgh-hgfedcba", DV.str "abcdefgh-aaaaaaaaaaaa"].length = 2)
  obtain ⟨y, hy, rfl⟩ := never_tx z hz
  walk_at "dd"
  refine w_ixL h3 ha ?_
  obtain ⟨sy, ny⟩ := o8.never hy
  have hk : HasDe G3 d := by walk_at "gk"
  clear ha hz h3 s3 n3 a0 a1
  generalize wdOf y.1 y.2 = nv at sy ny
  walk_at "dd"
  refine w_iteD (fun c2 => ?_) (fun c2 => ?_)
  · subst c2
    have hm := vm rfl
    obtain ⟨t, ht, e1, e2', e3, e4⟩ := tabJ_of x mem hm
    walk_at "dd"
    refine ⟨t, ht, by rw [e1], ?_⟩
    refine ⟨_, rfl, rfl, ?_⟩
    show gNC (gN 8) (gNC (gN 9) gN0) [.str t.2.1, .int (t.2.2 : Int)] _ _ _
    walk_at "dd"
    refine w_split rfl (mid (by omega)) ?_
    rw [e3]
    intro p4 n4
    refine abs_new n4 fun G4 s4 h4 => ?_
    walk_at "dd"
    refine ⟨d, 4, rfl, by walk_at "gk", by decide, by decide, fun j j0 j1 => ?_⟩
    obtain ⟨z, hz, ha⟩ := pick (xs := (x.just.map fun y => shT y.1 y.2).map DV.str) (n := 4) j0 j1 (by rw [List.length_map, List.length_map, just4 x mem hm])
    obtain ⟨z2, hz2, rfl⟩ := List.mem_map.mp hz
    obtain ⟨y, hy, rfl⟩ := List.mem_map.mp hz2
    refine w_ixL h4 ha ?_
    rw [← eX_wd]
    obtain ⟨sx, n1, r, ef, lr, gr, rf, er⟩ := o8.just hy
    have hk : HasDe G4 d := by walk_at "gk"
    clear ha hz hz2 h4 s4 n4
    generalize wdOf y.1 y.2 = o at sx n1 ef er
    walk_at "dd"
    intro p5 n5
    refine abs_new n5 fun G5 s5 h5 => ?_
    walk_at "dd"
    refine ⟨d, 2, rfl, by walk_at "gk", by decide, by decide, fun i i0 i1 => ?_⟩
    obtain ⟨M, ha, mM, M6⟩ := two_of m6 i0 i1
    refine w_ixL h5 ha ?_
    walk_at "dd"
    have low := fun L => o8.low (L := L)
    have high := o8.high
    have inM := in_find ef
    refine ⟨1, _, _, _, rfl, fun z => absurd z (by decide), fun _ => ⟨few, o, M, rfl, o8.gf, by have := o8.len.1; omega, sx, by omega, fun z => absurd (z ▸ nil_in few _) n1, fun L r2 hL _ n2 e2 => ?_, fun L hL _ n2 l2 => absurd (in_le ?_ inM) n2, fun z => ?_⟩⟩
    · have eL : L = x.most - 1 := by
        refine Nat.le_antisymm (Classical.byContradiction fun z => n2 (in_le (by omega) inM)) (Classical.byContradiction fun z => n1 (in_le (by omega) (in_find e2)))
      subst eL
      rw [show x.most - 1 + 1 = x.most by omega] at e2
      obtain rfl := Option.some.inj (ef.symm.trans e2)
      walk_at "dd"
      refine ⟨few, o, x.most - 1, r, (bfsW few (x.most - 1)).1, ?_, sx, gr, by omega, by omega, rf, er, o8.book (by omega) (low _ (Nat.le_refl _)), rfl⟩
      have e5 : lnW few (x.most - 1) = x.fewer := (told8 o8.mem o8.pm).2.1 hm
      rw [show x.most - 1 + 1 = x.most by omega, show (bfsW few (x.most - 1)).1.length = t.2.2 from e5.trans e2'.symm]
    · exact Classical.byContradiction fun z => absurd (low (L + 1) (by omega)) (by omega)
    · have := z x.most mM
      omega
  walk_at "dd"
  refine w_iteD (fun c3 => ?_) (fun c3 => ?_)
  · have hm : 1200 < x.many := by omega
    walk_at "dd"
    intro p4 n4
    refine abs_new n4 fun G4 s4 h4 => ?_
    walk_at "dd"
    refine ⟨d, 2, rfl, by walk_at "gk", by decide, by decide, fun i i0 i1 => ?_⟩
    obtain ⟨M, ha, mM, M6⟩ := two_of m6 i0 i1
    refine w_ixL h4 ha ?_
    walk_at "dd"
    have low := fun L => o8.low (L := L)
    have high := o8.high
    have just : ∀ L, (∀ L', L' ≤ L → lnW few L' ≤ 1200) → 1200 < lnW few (L + 1) → lnW few (L + 1) = x.many := fun L h1 h2 => by
      have a : x.most ≤ L + 1 := Classical.byContradiction fun z => absurd (low (L + 1) (by omega)) (by omega)
      have b : L < x.most := Classical.byContradiction fun z => absurd (h1 x.most (by omega)) (by omega)
      rw [show L + 1 = x.most by omega, high]
    clear ha h4
    refine ⟨v, _, _, _, rfl, fun vz => ⟨few, M, rfl, o8.gf, by have := o8.len.1; omega, by omega, fun z => ?_, fun L hL lo hi => ⟨_, rfl, rfl, fun p5 G5 s5 h5 => ?_⟩⟩, fun vz => ⟨few, nv, M, rfl, o8.gf, by have := o8.len.1; omega, sy, by omega, fun z => absurd (z ▸ nil_in few _) (ny 0 (Nat.zero_le _)), fun L r2 hL lo n2 e2 => ?_, fun L hL lo n2 hi => ⟨_, rfl, rfl, fun p5 G5 s5 h5 => ?_⟩, fun z => ?_⟩⟩
    · have := z x.most mM
      omega
    · rw [just L lo hi] at h5
      walk_at "dd"
      intro p6 n6
      refine abs_new n6 fun G6 s6 h6 => ?_
      refine w_eqLL (s6 _ _ h5) h6 (cm_ref _) (cm_ref _) rfl rfl ?_
      exact congrArg DV.bl (decide_eq_true rfl)
    · refine absurd (in_find e2) (ny (L + 1) (Classical.byContradiction fun z => ?_))
      have := lo x.most (by omega)
      omega
    · rw [just L lo hi] at h5
      walk_at "dd"
      intro p6 n6
      refine abs_new n6 fun G6 s6 h6 => ?_
      refine w_eqLL (s6 _ _ h5) h6 (cm_ref _) (cm_ref _) rfl rfl ?_
      exact congrArg DV.bl (decide_eq_true rfl)
    · have := z x.most mM
      omega
  have hm : x.many ≤ 1200 := by omega
  have low : ∀ L, L ≤ x.most → lnW few L ≤ 1200 := fun L l => Nat.le_trans (ln_le l) (by rw [o8.high]; exact hm)
  have high := o8.high
  walk_at "dd"
  have nd := Bfs.bfs_nodup mapP few (cong_few o8.gf) x.most
  refine ⟨v, _, _, _, rfl, fun vz => ⟨few, x.most, rfl, o8.gf, by have := o8.len.1; omega, by omega, fun _ => ?_, fun L hL lo hi => ?_⟩, fun vz => ⟨few, nv, x.most, rfl, o8.gf, by have := o8.len.1; omega, sy, by omega, fun z => absurd (z ▸ nil_in few _) (ny 0 (Nat.zero_le _)), fun L r2 hL lo n2 e2 => ?_, fun L hL lo n2 hi => ?_, fun _ _ => ?_⟩⟩
  · subst vz
    walk_at "dd"
    rw [List.length_map, show (bfsW few x.most).1.length = x.many from high, if_pos (decide_eq_true rfl)]
    walk_at "dd"
    refine w_lnSetM ?_
    walk_at "dd"
    refine lcs_pure lf0 (fun _ _ => trivial) (by rw [List.length_map]; show lnW few x.most ≤ _; omega) ?_ ?_
    · intro y hy G' k1 k0 s' e1 e0
      obtain ⟨r, hr, rfl⟩ := List.mem_map.mp hy
      walk_at "dd"
      exact e1 _ rfl
    intro p6 G6 n6 s6 h6
    rw [lf0_lines] at h6
    have l6 : ((bfsW few x.most).1.map mapP).length = x.many := by rw [List.length_map]; exact high
    refine ⟨p6, _, rfl, h6, by omega, nd, ?_⟩
    rw [l6]
    walk_at "dd"
    exact congrArg DV.bl (decide_eq_true rfl)
  · have := low (L + 1) (by omega)
    omega
  · exact absurd (in_find e2) (ny (L + 1) (by omega))
  · have := low (L + 1) (by omega)
    omega
  · obtain rfl : v = 1 := by omega
    walk_at "dd"
    rw [List.length_map, show (bfsW few x.most).1.length = x.many from high, if_pos (decide_eq_true rfl)]
    walk_at "dd"
    refine w_lnSetM ?_
    walk_at "dd"
    refine lcs_pure lf0 (fun _ _ => trivial) (by rw [List.length_map]; show lnW few x.most ≤ _; omega) ?_ ?_
    · intro y hy G' k1 k0 s' e1 e0
      obtain ⟨r, hr, rfl⟩ := List.mem_map.mp hy
      walk_at "dd"
      exact e1 _ rfl
    intro p6 G6 n6 s6 h6
    rw [lf0_lines] at h6
    have l6 : ((bfsW few x.most).1.map mapP).length = x.many := by rw [List.length_map]; exact high
    refine ⟨p6, _, rfl, h6, by omega, nd, ?_⟩
    rw [l6]
    walk_at "dd"
    exact congrArg DV.bl (decide_eq_true rfl)
end
local macro_rules | `(tactic| walk_at "gk") => `(tactic| first | assumption | exact dk_sub (by assumption) (by walk_at "gk") | exact dk_upd (by assumption) (by walk_at "gk") ⟨_, by walk_at "gq"⟩ | exact dk_updD (by assumption) (by walk_at "gk") ⟨_, by walk_at "gq"⟩)
abbrev s_p_TooMany_init : Stmt := inClass (top 11) 0
section
variable {P : Program} {w : World} {K : Frag} {mg : Str → Option Value} {base : Heap}
theorem ex_TooMany {C cc cda fI : Addr} {kV doc pm ct oc : Value} {an od : Option Addr} {osl : Array (Option Value)} (own : OexC K C) (mgC : mg "TooMany" = some (.ref C)) (iC : findIn K (.ref C) "__init__" = some (some (.ref fI))) (tI : typeIn K (.ref fI) = some (.type "function"))
    (lk : K.lookup fI = some ⟨oc, od, .func (fnX "__init__" "TooMany.__init__" (defArgs s_p_TooMany_init) (defBody s_p_TooMany_init) (defScope s_p_TooMany_init) [("__class__", cc)] .none kV doc pm an (.ref cda) ct), osl⟩) (hcd : codeIn K (.ref cda) "TooMany.__init__" = true) (T : SupC P K C cc cda) (hm : mg "super" = none) (nb0 : findIn K (.ref C) "many" = some none) (nb1 : findIn K (.ref C) "most" = some none) : ExI P w K mg base 1 "TooMany" C ["many", "most"] :=
  exI2 own own.kC mgC iC tI lk hcd T hm (by rfl) (NdefX.nscope_by (by decide +kernel)) (by decide +kernel) (by rfl) (by rfl) nb0 nb1 (Binds.all fun us hl => match us, hl with | [_, _, _], _ => rfl) (by decide) (by decide) (by decide) (by decide) (fun _ _ => by rfl) (fun _ _ => by rfl) (fun _ _ => by rfl) (fun _ _ => by rfl) _ (fun _ => by rfl)
end
set_option maxHeartbeats 4000000
theorem all_mk {l : PySem.W.OpenLaw} {w : World} {K : PySem.W.Frag} {h : Heap} {mg : Str → Option Value} {fa f1 f2 f3 f4 f5 f6 f7 f8 f9 f10 f11 f12 f13 f14 f15 f16 f17 f18 f19 f20 f21 f22 f23 f24 f25 : Addr} {C : Addr} {q0 : Addr} {mod0 man0 : Option Addr} {msl0 : Array (Option Value)} {moc0 mkV0 mdc0 mpm0 mcd0 mct0 : Value} {q1 : Addr} {mod1 man1 : Option Addr} {msl1 : Array (Option Value)} {moc1 mkV1 mdc1 mpm1 mcd1 mct1 : Value} {q2 : Addr} {mod2 man2 : Option Addr} {msl2 : Array (Option Value)} {moc2 mkV2 mdc2 mpm2 mcd2 mct2 : Value} {q3 : Addr} {mod3 man3 : Option Addr} {msl3 : Array (Option Value)} {moc3 mkV3 mdc3 mpm3 mcd3 mct3 : Value} {nmTooMany qTooMany : Str} {NTooMany ccTooMany cdaTooMany fITooMany : Addr} {bsTooMany bmTooMany subTooMany : List Value} {snTooMany : List Str} {abTooMany : Bool} {colTooMany : Option Bool} {ddTooMany cldTooMany cddTooMany odTooMany anTooMany : Option Addr} {k0TooMany k1TooMany k2TooMany k3TooMany k5TooMany : Option Value} {ocTooMany kVTooMany dcTooMany pmTooMany ctTooMany clTooMany cclTooMany : Value} {oslTooMany cslTooMany ccsTooMany : Array (Option Value)} {vsTooMany : Array Value} {fileTooMany : Str} {tfTooMany : Tok} (X : K.In h) (G : h.Ns mainGlobals mg) (hfa : mg "law" = some (.ref fa))
    {od1 an1 od2 an2 od3 an3 od4 an4 od5 an5 od6 an6 od7 an7 od8 an8 od9 an9 od10 an10 od11 an11 od12 an12 od13 an13 od14 an14 od15 an15 od16 an16 od17 an17 od18 an18 od19 an19 od20 an20 od21 an21 od22 an22 od23 an23 od24 an24 od25 an25 : Option Addr} {sl1 sl2 sl3 sl4 sl5 sl6 sl7 sl8 sl9 sl10 sl11 sl12 sl13 sl14 sl15 sl16 sl17 sl18 sl19 sl20 sl21 sl22 sl23 sl24 sl25 : Array (Option Value)} {oc1 kV1 dc1 pm1 cd1 ct1 oc2 kV2 dc2 pm2 cd2 ct2 oc3 kV3 dc3 pm3 cd3 ct3 oc4 kV4 dc4 pm4 cd4 ct4 oc5 kV5 dc5 pm5 cd5 ct5 oc6 kV6 dc6 pm6 cd6 ct6 oc7 kV7 dc7 pm7 cd7 ct7 oc8 kV8 dc8 pm8 cd8 ct8 oc9 kV9 dc9 pm9 cd9 ct9 oc10 kV10 dc10 pm10 cd10 ct10 oc11 kV11 dc11 pm11 cd11 ct11 oc12 kV12 dc12 pm12 cd12 ct12 oc13 kV13 dc13 pm13 cd13 ct13 oc14 kV14 dc14 pm14 cd14 ct14 oc15 kV15 dc15 pm15 cd15 ct15 oc16 kV16 dc16 pm16 cd16 ct16 oc17 kV17 dc17 pm17 cd17 ct17 oc18 kV18 dc18 pm18 cd18 ct18 oc19 kV19 dc19 pm19 cd19 ct19 oc20 kV20 dc20 pm20 cd20 ct20 oc21 kV21 dc21 pm21 cd21 ct21 oc22 kV22 dc22 pm22 cd22 ct22 oc23 kV23 dc23 pm23 cd23 ct23 oc24 kV24 dc24 pm24 cd24 ct24 oc25 kV25 dc25 pm25 cd25 ct25 : Value}
    (a1 : PySem.W.nsIn K mainGlobals "is_whole" = some (some (.ref f1))) (l1 : K.lookup f1 = some ⟨oc1, od1, .func (PySem.W.fnOf "is_whole" "is_whole" (defArgs s_p_is_whole) (defBody s_p_is_whole) (defScope s_p_is_whole) .none kV1 dc1 pm1 an1 cd1 ct1), sl1⟩) (c1 : PySem.W.codeIn K cd1 "is_whole" = true) (k1 : PySem.W.keepIn K (.ref f1) = true)
    (a2 : PySem.W.nsIn K mainGlobals "is_shuffle" = some (some (.ref f2))) (l2 : K.lookup f2 = some ⟨oc2, od2, .func (PySem.W.fnOf "is_shuffle" "is_shuffle" (defArgs s_p_is_shuffle) (defBody s_p_is_shuffle) (defScope s_p_is_shuffle) .none kV2 dc2 pm2 an2 cd2 ct2), sl2⟩) (c2 : PySem.W.codeIn K cd2 "is_shuffle" = true) (k2 : PySem.W.keepIn K (.ref f2) = true)
    (a3 : PySem.W.nsIn K mainGlobals "is_shuffle_row" = some (some (.ref f3))) (l3 : K.lookup f3 = some ⟨oc3, od3, .func (PySem.W.fnOf "is_shuffle_row" "is_shuffle_row" (defArgs s_p_is_shuffle_row) (defBody s_p_is_shuffle_row) (defScope s_p_is_shuffle_row) .none kV3 dc3 pm3 an3 cd3 ct3), sl3⟩) (c3 : PySem.W.codeIn K cd3 "is_shuffle_row" = true) (k3 : PySem.W.keepIn K (.ref f3) = true)
    (a4 : PySem.W.nsIn K mainGlobals "taken_left" = some (some (.ref f4))) (l4 : K.lookup f4 = some ⟨oc4, od4, .func (PySem.W.fnOf "taken_left" "taken_left" (defArgs s_p_taken_left) (defBody s_p_taken_left) (defScope s_p_taken_left) .none kV4 dc4 pm4 an4 cd4 ct4), sl4⟩) (c4 : PySem.W.codeIn K cd4 "taken_left" = true) (k4 : PySem.W.keepIn K (.ref f4) = true)
    (a5 : PySem.W.nsIn K mainGlobals "least_map" = some (some (.ref f5))) (l5 : K.lookup f5 = some ⟨oc5, od5, .func (PySem.W.fnOf "least_map" "least_map" (defArgs s_p_least_map) (defBody s_p_least_map) (defScope s_p_least_map) .none kV5 dc5 pm5 an5 cd5 ct5), sl5⟩) (c5 : PySem.W.codeIn K cd5 "least_map" = true) (k5 : PySem.W.keepIn K (.ref f5) = true)
    (a6 : PySem.W.nsIn K mainGlobals "map_of" = some (some (.ref f6))) (l6 : K.lookup f6 = some ⟨oc6, od6, .func (PySem.W.fnOf "map_of" "map_of" (defArgs s_p_map_of) (defBody s_p_map_of) (defScope s_p_map_of) .none kV6 dc6 pm6 an6 cd6 ct6), sl6⟩) (c6 : PySem.W.codeIn K cd6 "map_of" = true) (k6 : PySem.W.keepIn K (.ref f6) = true)
    (a7 : PySem.W.nsIn K mainGlobals "whole_map" = some (some (.ref f7))) (l7 : K.lookup f7 = some ⟨oc7, od7, .func (PySem.W.fnOf "whole_map" "whole_map" (defArgs s_p_whole_map) (defBody s_p_whole_map) (defScope s_p_whole_map) .none kV7 dc7 pm7 an7 cd7 ct7), sl7⟩) (c7 : PySem.W.codeIn K cd7 "whole_map" = true) (k7 : PySem.W.keepIn K (.ref f7) = true)
    (a8 : PySem.W.nsIn K mainGlobals "map_book" = some (some (.ref f8))) (l8 : K.lookup f8 = some ⟨oc8, od8, .func (PySem.W.fnOf "map_book" "map_book" (defArgs s_p_map_book) (defBody s_p_map_book) (defScope s_p_map_book) .none kV8 dc8 pm8 an8 cd8 ct8), sl8⟩) (c8 : PySem.W.codeIn K cd8 "map_book" = true) (k8 : PySem.W.keepIn K (.ref f8) = true)
    (a9 : PySem.W.nsIn K mainGlobals "map_book_holds" = some (some (.ref f9))) (l9 : K.lookup f9 = some ⟨oc9, od9, .func (PySem.W.fnOf "map_book_holds" "map_book_holds" (defArgs s_p_map_book_holds) (defBody s_p_map_book_holds) (defScope s_p_map_book_holds) .none kV9 dc9 pm9 an9 cd9 ct9), sl9⟩) (c9 : PySem.W.codeIn K cd9 "map_book_holds" = true) (k9 : PySem.W.keepIn K (.ref f9) = true)
    (a10 : PySem.W.nsIn K mainGlobals "is_line" = some (some (.ref f10))) (l10 : K.lookup f10 = some ⟨oc10, od10, .func (PySem.W.fnOf "is_line" "is_line" (defArgs s_p_is_line) (defBody s_p_is_line) (defScope s_p_is_line) .none kV10 dc10 pm10 an10 cd10 ct10), sl10⟩) (c10 : PySem.W.codeIn K cd10 "is_line" = true) (k10 : PySem.W.keepIn K (.ref f10) = true)
    (a11 : PySem.W.nsIn K mainGlobals "is_map_form" = some (some (.ref f11))) (l11 : K.lookup f11 = some ⟨oc11, od11, .func (PySem.W.fnOf "is_map_form" "is_map_form" (defArgs s_p_is_map_form) (defBody s_p_is_map_form) (defScope s_p_is_map_form) .none kV11 dc11 pm11 an11 cd11 ct11), sl11⟩) (c11 : PySem.W.codeIn K cd11 "is_map_form" = true) (k11 : PySem.W.keepIn K (.ref f11) = true)
    (a12 : PySem.W.nsIn K mainGlobals "is_closed" = some (some (.ref f12))) (l12 : K.lookup f12 = some ⟨oc12, od12, .func (PySem.W.fnOf "is_closed" "is_closed" (defArgs s_p_is_closed) (defBody s_p_is_closed) (defScope s_p_is_closed) .none kV12 dc12 pm12 an12 cd12 ct12), sl12⟩) (c12 : PySem.W.codeIn K cd12 "is_closed" = true) (k12 : PySem.W.keepIn K (.ref f12) = true)
    (a13 : PySem.W.nsIn K mainGlobals "least_row" = some (some (.ref f13))) (l13 : K.lookup f13 = some ⟨oc13, od13, .func (PySem.W.fnOf "least_row" "least_row" (defArgs s_p_least_row) (defBody s_p_least_row) (defScope s_p_least_row) .none kV13 dc13 pm13 an13 cd13 ct13), sl13⟩) (c13 : PySem.W.codeIn K cd13 "least_row" = true) (k13 : PySem.W.keepIn K (.ref f13) = true)
    (a14 : PySem.W.nsIn K mainGlobals "_law_mixed" = some (some (.ref f14))) (l14 : K.lookup f14 = some ⟨oc14, od14, .func (PySem.W.fnOf "_law_mixed" "_law_mixed" (defArgs s_L_mixed) (defBody s_L_mixed) (defScope s_L_mixed) .none kV14 dc14 pm14 an14 cd14 ct14), sl14⟩) (c14 : PySem.W.codeIn K cd14 "_law_mixed" = true) (k14 : PySem.W.keepIn K (.ref f14) = true)
    (a15 : PySem.W.nsIn K mainGlobals "_law_deck" = some (some (.ref f15))) (l15 : K.lookup f15 = some ⟨oc15, od15, .func (PySem.W.fnOf "_law_deck" "_law_deck" (defArgs s_L_deck) (defBody s_L_deck) (defScope s_L_deck) .none kV15 dc15 pm15 an15 cd15 ct15), sl15⟩) (c15 : PySem.W.codeIn K cd15 "_law_deck" = true) (k15 : PySem.W.keepIn K (.ref f15) = true)
    (a16 : PySem.W.nsIn K mainGlobals "_law_draw" = some (some (.ref f16))) (l16 : K.lookup f16 = some ⟨oc16, od16, .func (PySem.W.fnOf "_law_draw" "_law_draw" (defArgs s_L_draw) (defBody s_L_draw) (defScope s_L_draw) .none kV16 dc16 pm16 an16 cd16 ct16), sl16⟩) (c16 : PySem.W.codeIn K cd16 "_law_draw" = true) (k16 : PySem.W.keepIn K (.ref f16) = true)
    (a17 : PySem.W.nsIn K mainGlobals "_law_sets" = some (some (.ref f17))) (l17 : K.lookup f17 = some ⟨oc17, od17, .func (PySem.W.fnOf "_law_sets" "_law_sets" (defArgs s_L_sets) (defBody s_L_sets) (defScope s_L_sets) .none kV17 dc17 pm17 an17 cd17 ct17), sl17⟩) (c17 : PySem.W.codeIn K cd17 "_law_sets" = true) (k17 : PySem.W.keepIn K (.ref f17) = true)
    (a18 : PySem.W.nsIn K mainGlobals "_law_just" = some (some (.ref f18))) (l18 : K.lookup f18 = some ⟨oc18, od18, .func (PySem.W.fnOf "_law_just" "_law_just" (defArgs s_L_just) (defBody s_L_just) (defScope s_L_just) .none kV18 dc18 pm18 an18 cd18 ct18), sl18⟩) (c18 : PySem.W.codeIn K cd18 "_law_just" = true) (k18 : PySem.W.keepIn K (.ref f18) = true)
    (a19 : PySem.W.nsIn K mainGlobals "_law_read" = some (some (.ref f19))) (l19 : K.lookup f19 = some ⟨oc19, od19, .func (PySem.W.fnOf "_law_read" "_law_read" (defArgs s_L_read) (defBody s_L_read) (defScope s_L_read) .none kV19 dc19 pm19 an19 cd19 ct19), sl19⟩) (c19 : PySem.W.codeIn K cd19 "_law_read" = true) (k19 : PySem.W.keepIn K (.ref f19) = true)
    (a20 : PySem.W.nsIn K mainGlobals "_law_whole" = some (some (.ref f20))) (l20 : K.lookup f20 = some ⟨oc20, od20, .func (PySem.W.fnOf "_law_whole" "_law_whole" (defArgs s_L_whole) (defBody s_L_whole) (defScope s_L_whole) .none kV20 dc20 pm20 an20 cd20 ct20), sl20⟩) (c20 : PySem.W.codeIn K cd20 "_law_whole" = true) (k20 : PySem.W.keepIn K (.ref f20) = true)
    (a21 : PySem.W.nsIn K mainGlobals "_law_least" = some (some (.ref f21))) (l21 : K.lookup f21 = some ⟨oc21, od21, .func (PySem.W.fnOf "_law_least" "_law_least" (defArgs s_L_least) (defBody s_L_least) (defScope s_L_least) .none kV21 dc21 pm21 an21 cd21 ct21), sl21⟩) (c21 : PySem.W.codeIn K cd21 "_law_least" = true) (k21 : PySem.W.keepIn K (.ref f21) = true)
    (a22 : PySem.W.nsIn K mainGlobals "_law_turned" = some (some (.ref f22))) (l22 : K.lookup f22 = some ⟨oc22, od22, .func (PySem.W.fnOf "_law_turned" "_law_turned" (defArgs s_L_turned) (defBody s_L_turned) (defScope s_L_turned) .none kV22 dc22 pm22 an22 cd22 ct22), sl22⟩) (c22 : PySem.W.codeIn K cd22 "_law_turned" = true) (k22 : PySem.W.keepIn K (.ref f22) = true)
    (a23 : PySem.W.nsIn K mainGlobals "_law_asked" = some (some (.ref f23))) (l23 : K.lookup f23 = some ⟨oc23, od23, .func (PySem.W.fnOf "_law_asked" "_law_asked" (defArgs s_L_asked) (defBody s_L_asked) (defScope s_L_asked) .none kV23 dc23 pm23 an23 cd23 ct23), sl23⟩) (c23 : PySem.W.codeIn K cd23 "_law_asked" = true) (k23 : PySem.W.keepIn K (.ref f23) = true)
    (a24 : PySem.W.nsIn K mainGlobals "_law_is_just" = some (some (.ref f24))) (l24 : K.lookup f24 = some ⟨oc24, od24, .func (PySem.W.fnOf "_law_is_just" "_law_is_just" (defArgs s_L_is_just) (defBody s_L_is_just) (defScope s_L_is_just) .none kV24 dc24 pm24 an24 cd24 ct24), sl24⟩) (c24 : PySem.W.codeIn K cd24 "_law_is_just" = true) (k24 : PySem.W.keepIn K (.ref f24) = true)
    (a25 : PySem.W.nsIn K mainGlobals "law" = some (some (.ref f25))) (l25 : K.lookup f25 = some ⟨oc25, od25, .func (PySem.W.fnOf "law" "law" (defArgs s_L_law) (defBody s_L_law) (defScope s_L_law) .none kV25 dc25 pm25 an25 cd25 ct25), sl25⟩) (c25 : PySem.W.codeIn K cd25 "law" = true) (k25 : PySem.W.keepIn K (.ref f25) = true)
    (z_len : PySem.W.nsIn K mainGlobals "len" = some none)
    (z_isinstance : PySem.W.nsIn K mainGlobals "isinstance" = some none)
    (z_int : PySem.W.nsIn K mainGlobals "int" = some none)
    (z_str : PySem.W.nsIn K mainGlobals "str" = some none)
    (z_tuple : PySem.W.nsIn K mainGlobals "tuple" = some none)
    (z_list : PySem.W.nsIn K mainGlobals "list" = some none)
    (z_bool : PySem.W.nsIn K mainGlobals "bool" = some none)
    (z_dict : PySem.W.nsIn K mainGlobals "dict" = some none)
    (z_all : PySem.W.nsIn K mainGlobals "all" = some none)
    (z_any : PySem.W.nsIn K mainGlobals "any" = some none)
    (z_sum : PySem.W.nsIn K mainGlobals "sum" = some none)
    (z_sorted : PySem.W.nsIn K mainGlobals "sorted" = some none)
    (z_set : PySem.W.nsIn K mainGlobals "set" = some none)
    (z_range : PySem.W.nsIn K mainGlobals "range" = some none)
    (z_enumerate : PySem.W.nsIn K mainGlobals "enumerate" = some none)
    (z_zip : PySem.W.nsIn K mainGlobals "zip" = some none)
    (z_reversed : PySem.W.nsIn K mainGlobals "reversed" = some none)
    (z_super : PySem.W.nsIn K mainGlobals "super" = some none)
    (z_ValueError : PySem.W.nsIn K mainGlobals "ValueError" = some none)
    {e_NoBook : Addr} (g_NoBook : PySem.W.nsIn K mainGlobals "NoBook" = some (some (.ref e_NoBook)))
    {e_NoCode : Addr} (g_NoCode : PySem.W.nsIn K mainGlobals "NoCode" = some (some (.ref e_NoCode)))
    {e_NoKind : Addr} (g_NoKind : PySem.W.nsIn K mainGlobals "NoKind" = some (some (.ref e_NoKind)))
    {e_NoRow : Addr} (g_NoRow : PySem.W.nsIn K mainGlobals "NoRow" = some (some (.ref e_NoRow)))
    {e_NoShuffle : Addr} (g_NoShuffle : PySem.W.nsIn K mainGlobals "NoShuffle" = some (some (.ref e_NoShuffle)))
    {e_NoStep : Addr} (g_NoStep : PySem.W.nsIn K mainGlobals "NoStep" = some (some (.ref e_NoStep)))
    {e_NoText : Addr} (g_NoText : PySem.W.nsIn K mainGlobals "NoText" = some (some (.ref e_NoText)))
    {e_NoTurn : Addr} (g_NoTurn : PySem.W.nsIn K mainGlobals "NoTurn" = some (some (.ref e_NoTurn)))
    {e_NoWord : Addr} (g_NoWord : PySem.W.nsIn K mainGlobals "NoWord" = some (some (.ref e_NoWord)))
    {e_Twice : Addr} (g_Twice : PySem.W.nsIn K mainGlobals "Twice" = some (some (.ref e_Twice)))
    {e_TooMany : Addr} (g_TooMany : PySem.W.nsIn K mainGlobals "TooMany" = some (some (.ref e_TooMany)))
    {e_TakeError : Addr} (g_TakeError : PySem.W.nsIn K mainGlobals "TakeError" = some (some (.ref e_TakeError)))
    {tE : Tok} (g_LETTERS : PySem.W.nsIn K mainGlobals "LETTERS" = some (some (.str "abcdefgh" tE)))
    {tL : Tok} (g_MOST_LEFT : PySem.W.nsIn K mainGlobals "MOST_LEFT" = some (some (.int 12 tL)))
    {tMM : Tok} (g_MOST_MAPS : PySem.W.nsIn K mainGlobals "MOST_MAPS" = some (some (.int 1200 tMM)))
    (opq : PySem.W.nsIn K cStatics "thirdparty.any" = some none)
    (topS : (l.prog.main.scope.names.lookup ("super" : Str)).isSome = false)
    (ac_C : PySem.W.nsIn K mainGlobals "MapSearch" = some (some (.ref C)))
    (pg_C : PySem.W.plainGet K C Str.empty = true)
    (hd_C : PySem.W.hasDictIn K C = true)
    (po_C : PySem.W.plainOver K C = true)
    (sa_C : PySem.W.findIn K (.ref C) "__setattr__" = some (some (.builtin "object.__setattr__")))
    (mk_C : PySem.W.makesIn K C = true)
    (kc_C : PySem.W.keepIn K (.ref C) = true)
    (n_C_few : PySem.W.findIn K (.ref C) "few" = some none)
    (n_C_rows : PySem.W.findIn K (.ref C) "rows" = some none)
    (n_C_longest : PySem.W.findIn K (.ref C) "longest" = some none)
    (am0 : PySem.W.findIn K (.ref C) "__init__" = some (some (.ref q0)))
    (im0 : PySem.W.isFn K (.ref q0) = true)
    (lm0 : K.lookup q0 = some ⟨moc0, mod0, .func (PySem.W.fnOf "__init__" "MapSearch.__init__" (defArgs s_p_MapSearch_init) (defBody s_p_MapSearch_init) (defScope s_p_MapSearch_init) .none mkV0 mdc0 mpm0 man0 mcd0 mct0), msl0⟩)
    (cm0 : PySem.W.codeIn K mcd0 "MapSearch.__init__" = true)
    (km0 : PySem.W.keepIn K (.ref q0) = true)
    (am1 : PySem.W.findIn K (.ref C) "lengthen" = some (some (.ref q1)))
    (im1 : PySem.W.isFn K (.ref q1) = true)
    (lm1 : K.lookup q1 = some ⟨moc1, mod1, .func (PySem.W.fnOf "lengthen" "MapSearch.lengthen" (defArgs s_p_MapSearch_lengthen) (defBody s_p_MapSearch_lengthen) (defScope s_p_MapSearch_lengthen) .none mkV1 mdc1 mpm1 man1 mcd1 mct1), msl1⟩)
    (cm1 : PySem.W.codeIn K mcd1 "MapSearch.lengthen" = true)
    (km1 : PySem.W.keepIn K (.ref q1) = true)
    (am2 : PySem.W.findIn K (.ref C) "refuse_too_many" = some (some (.ref q2)))
    (im2 : PySem.W.isFn K (.ref q2) = true)
    (lm2 : K.lookup q2 = some ⟨moc2, mod2, .func (PySem.W.fnOf "refuse_too_many" "MapSearch.refuse_too_many" (defArgs s_p_MapSearch_refuse_too_many) (defBody s_p_MapSearch_refuse_too_many) (defScope s_p_MapSearch_refuse_too_many) .none mkV2 mdc2 mpm2 man2 mcd2 mct2), msl2⟩)
    (cm2 : PySem.W.codeIn K mcd2 "MapSearch.refuse_too_many" = true)
    (km2 : PySem.W.keepIn K (.ref q2) = true)
    (am3 : PySem.W.findIn K (.ref C) "map_lines" = some (some (.ref q3)))
    (im3 : PySem.W.isFn K (.ref q3) = true)
    (lm3 : K.lookup q3 = some ⟨moc3, mod3, .func (PySem.W.fnOf "map_lines" "MapSearch.map_lines" (defArgs s_p_MapSearch_map_lines) (defBody s_p_MapSearch_map_lines) (defScope s_p_MapSearch_map_lines) .none mkV3 mdc3 mpm3 man3 mcd3 mct3), msl3⟩)
    (cm3 : PySem.W.codeIn K mcd3 "MapSearch.map_lines" = true)
    (km3 : PySem.W.keepIn K (.ref q3) = true)
    (oc_TooMany : K.lookup e_TooMany = some (excClassObj nmTooMany qTooMany e_TooMany NTooMany bsTooMany bmTooMany true snTooMany subTooMany abTooMany colTooMany ddTooMany k0TooMany k1TooMany k2TooMany k3TooMany k5TooMany "ValueError.__new__"))
    (ov_TooMany : PySem.HandSPX.refsVE bmTooMany = true)
    (sa_TooMany : PySem.W.findIn K (.ref e_TooMany) "__setattr__" = some (some (.builtin "object.__setattr__")))
    (bPTooMany : PySem.W.subIn K (.ref e_TooMany) (.type "BaseException") = some true)
    (tPTooMany : PySem.W.typeIn K (.ref e_TooMany) = some (.type "type"))
    (kPTooMany : PySem.W.keepIn K (.ref e_TooMany) = true)
    (iC_TooMany : PySem.W.findIn K (.ref e_TooMany) "__init__" = some (some (.ref fITooMany)))
    (tI_TooMany : PySem.W.typeIn K (.ref fITooMany) = some (.type "function"))
    (lk_TooMany : K.lookup fITooMany = some ⟨ocTooMany, odTooMany, .func (PySem.W.fnX "__init__" "TooMany.__init__" (defArgs s_p_TooMany_init) (defBody s_p_TooMany_init) (defScope s_p_TooMany_init) [("__class__", ccTooMany)] .none kVTooMany dcTooMany pmTooMany anTooMany (.ref cdaTooMany) ctTooMany), oslTooMany⟩)
    (cd_TooMany : PySem.W.codeIn K (.ref cdaTooMany) "TooMany.__init__" = true)
    (ce_TooMany : K.lookup ccTooMany = some ⟨clTooMany, cldTooMany, .cell (some (.ref e_TooMany)), cslTooMany⟩)
    (su_TooMany : PySem.W.ks_superIn K e_TooMany e_TooMany "__init__" = some (some (.builtin "ValueError.__init__")))
    (sb_TooMany : PySem.W.subIn K (.ref e_TooMany) (.type "ValueError") = some true)
    (sf_TooMany : PySem.W.mroIn K e_TooMany (.ref e_TooMany) = some true)
    (cv_TooMany : K.lookup cdaTooMany = some ⟨cclTooMany, cddTooMany, .fields vsTooMany, ccsTooMany⟩)
    (cf_TooMany : vsTooMany[2]? = some (.str fileTooMany tfTooMany))
    (cm_TooMany : ((l.prog.main.file : Str) == fileTooMany) = true)
    (xf_TooMany : L2.xfB K e_TooMany = true)
    (nf_TooMany_many : PySem.W.findIn K (.ref e_TooMany) "many" = some none)
    (nf_TooMany_most : PySem.W.findIn K (.ref e_TooMany) "most" = some none)
    (g1 : PySem.W.findIn K (.ref e_TooMany) "__getattribute__" = some (some (.builtin "BaseException.__getattribute__")))
    (g2 : PySem.W.findIn K (.ref e_TooMany) "__getattr__" = some none)
    (g4 : PySem.W.hasDictIn K e_TooMany = true)
    (g5 : PySem.W.findIn K (.ref e_TooMany) "__class__" = some (some (.builtin "object.__class__")))
    (g6 : PySem.W.specialIn K (.builtin "object.__class__") "__get__" = some (some (.builtin "getset_descriptor.__get__")))
    (g7 : PySem.W.takesIn K (.builtin "object.__class__") = some true)
    (g8 : PySem.W.mroIn K e_TooMany (.type "object") = some true)
    (e1 : PySem.W.subIn K (.ref e_TakeError) (.type "BaseException") = some true)
    (e2 : PySem.W.hasDictIn K e_TakeError = true)
    (e3 : PySem.W.typeIn K (.ref e_TakeError) = some (.type "type"))
    (e4 : PySem.W.subIn K (.ref e_TooMany) (.ref e_TakeError) = some true)
    (ka : PySem.W.kitAny K (.ref e_TooMany) [.ref e_NoBook, .ref e_NoCode, .ref e_NoKind, .ref e_NoRow, .ref e_NoShuffle, .ref e_NoStep, .ref e_NoText, .ref e_NoTurn, .ref e_NoWord, .ref e_Twice] = some false)
    (kq1 : PySem.W.kitOne K (.ref e_TooMany) (.ref e_TooMany) = some true)
    (kqv : PySem.W.kitOne K (.ref e_TooMany) (.type "ValueError") = some true)
    : ∃ fd : FuncData, (∀ (s : Shared) (v : Value), BindsTo s fd ⟨[v], []⟩ [("_law_script", v)]) ∧ ∀ base : Heap, K.In base → base.Ns mainGlobals mg → FnOk l.prog w K mg base CX0 9 fa fd ["_law_script"] (spLaw K) := by
  have e := hfa.symm.trans (PySem.W.mg_of X G a25)
  cases e
  have F1 := fun_mk (st := s_p_is_whole) l1 c1 k1
  have b1 := F1.binds (ps := ["thing"]) fun _ _ _ _ _ _ us hl => match us, hl with | [_], _ => rfl
  have m1 := PySem.W.mg_of X G a1
  have F2 := fun_mk (st := s_p_is_shuffle) l2 c2 k2
  have b2 := F2.binds (ps := ["thing"]) fun _ _ _ _ _ _ us hl => match us, hl with | [_], _ => rfl
  have m2 := PySem.W.mg_of X G a2
  have F3 := fun_mk (st := s_p_is_shuffle_row) l3 c3 k3
  have b3 := F3.binds (ps := ["row"]) fun _ _ _ _ _ _ us hl => match us, hl with | [_], _ => rfl
  have m3 := PySem.W.mg_of X G a3
  have F4 := fun_mk (st := s_p_taken_left) l4 c4 k4
  have b4 := F4.binds (ps := ["shuffle"]) fun _ _ _ _ _ _ us hl => match us, hl with | [_], _ => rfl
  have m4 := PySem.W.mg_of X G a4
  have F5 := fun_mk (st := s_p_least_map) l5 c5 k5
  have b5 := F5.binds (ps := ["n", "picks"]) fun _ _ _ _ _ _ us hl => match us, hl with | [_, _], _ => rfl
  have m5 := PySem.W.mg_of X G a5
  have F6 := fun_mk (st := s_p_map_of) l6 c6 k6
  have b6 := F6.binds (ps := ["row"]) fun _ _ _ _ _ _ us hl => match us, hl with | [_], _ => rfl
  have m6 := PySem.W.mg_of X G a6
  have F7 := fun_mk (st := s_p_whole_map) l7 c7 k7
  have b7 := F7.binds (ps := ["row"]) fun _ _ _ _ _ _ us hl => match us, hl with | [_], _ => rfl
  have m7 := PySem.W.mg_of X G a7
  have F8 := fun_mk (st := s_p_map_book) l8 c8 k8
  have b8 := F8.binds (ps := ["few", "most"]) fun _ _ _ _ _ _ us hl => match us, hl with | [_, _], _ => rfl
  have m8 := PySem.W.mg_of X G a8
  have F9 := fun_mk (st := s_p_map_book_holds) l9 c9 k9
  have b9 := F9.binds (ps := ["few", "most", "book"]) fun _ _ _ _ _ _ us hl => match us, hl with | [_, _, _], _ => rfl
  have m9 := PySem.W.mg_of X G a9
  have F10 := fun_mk (st := s_p_is_line) l10 c10 k10
  have b10 := F10.binds (ps := ["thing", "few", "most"]) fun _ _ _ _ _ _ us hl => match us, hl with | [_, _, _], _ => rfl
  have m10 := PySem.W.mg_of X G a10
  have F11 := fun_mk (st := s_p_is_map_form) l11 c11 k11
  have b11 := F11.binds (ps := ["thing"]) fun _ _ _ _ _ _ us hl => match us, hl with | [_], _ => rfl
  have m11 := PySem.W.mg_of X G a11
  have F12 := fun_mk (st := s_p_is_closed) l12 c12 k12
  have b12 := F12.binds (ps := ["rows", "row", "word"]) fun _ _ _ _ _ _ us hl => match us, hl with | [_, _, _], _ => rfl
  have m12 := PySem.W.mg_of X G a12
  have F13 := fun_mk (st := s_p_least_row) l13 c13 k13
  have b13 := F13.binds (ps := ["few", "shuffle", "most"]) fun _ _ _ _ _ _ us hl => match us, hl with | [_, _, _], _ => rfl
  have m13 := PySem.W.mg_of X G a13
  have F14 := fun_mk (st := s_L_mixed) l14 c14 k14
  have b14 := F14.binds (ps := ["_law_cell", "_law_k"]) fun _ _ _ _ _ _ us hl => match us, hl with | [_, _], _ => rfl
  have m14 := PySem.W.mg_of X G a14
  have F15 := fun_mk (st := s_L_deck) l15 c15 k15
  have b15 := F15.binds (ps := ["_law_script"]) fun _ _ _ _ _ _ us hl => match us, hl with | [_], _ => rfl
  have m15 := PySem.W.mg_of X G a15
  have F16 := fun_mk (st := s_L_draw) l16 c16 k16
  have b16 := F16.binds (ps := ["_law_deck_here", "_law_most"]) fun _ _ _ _ _ _ us hl => match us, hl with | [_, _], _ => rfl
  have m16 := PySem.W.mg_of X G a16
  have F17 := fun_mk (st := s_L_sets) l17 c17 k17
  have b17 := F17.binds (ps := []) fun _ _ _ _ _ _ us hl => match us, hl with | [], _ => rfl
  have m17 := PySem.W.mg_of X G a17
  have F18 := fun_mk (st := s_L_just) l18 c18 k18
  have b18 := F18.binds (ps := ["_law_many"]) fun _ _ _ _ _ _ us hl => match us, hl with | [_], _ => rfl
  have m18 := PySem.W.mg_of X G a18
  have F19 := fun_mk (st := s_L_read) l19 c19 k19
  have b19 := F19.binds (ps := ["_law_word"]) fun _ _ _ _ _ _ us hl => match us, hl with | [_], _ => rfl
  have m19 := PySem.W.mg_of X G a19
  have F20 := fun_mk (st := s_L_whole) l20 c20 k20
  have b20 := F20.binds (ps := ["_law_row"]) fun _ _ _ _ _ _ us hl => match us, hl with | [_], _ => rfl
  have m20 := PySem.W.mg_of X G a20
  have F21 := fun_mk (st := s_L_least) l21 c21 k21
  have b21 := F21.binds (ps := ["_law_there"]) fun _ _ _ _ _ _ us hl => match us, hl with | [_], _ => rfl
  have m21 := PySem.W.mg_of X G a21
  have F22 := fun_mk (st := s_L_turned) l22 c22 k22
  have b22 := F22.binds (ps := ["_law_deck_here", "_law_words"]) fun _ _ _ _ _ _ us hl => match us, hl with | [_, _], _ => rfl
  have m22 := PySem.W.mg_of X G a22
  have F23 := fun_mk (st := s_L_asked) l23 c23 k23
  have b23 := F23.binds (ps := ["_law_way", "_law_few", "_law_word", "_law_most"]) fun _ _ _ _ _ _ us hl => match us, hl with | [_, _, _, _], _ => rfl
  have m23 := PySem.W.mg_of X G a23
  have F24 := fun_mk (st := s_L_is_just) l24 c24 k24
  have b24 := F24.binds (ps := ["_law_few", "_law_word", "_law_length", "_law_fewer", "_law_found"]) fun _ _ _ _ _ _ us hl => match us, hl with | [_, _, _, _, _], _ => rfl
  have m24 := PySem.W.mg_of X G a24
  have F25 := fun_mk (st := s_L_law) l25 c25 k25
  have y_len := PySem.W.mg_none_of X G z_len
  have y_isinstance := PySem.W.mg_none_of X G z_isinstance
  have y_int := PySem.W.mg_none_of X G z_int
  have y_str := PySem.W.mg_none_of X G z_str
  have y_tuple := PySem.W.mg_none_of X G z_tuple
  have y_list := PySem.W.mg_none_of X G z_list
  have y_bool := PySem.W.mg_none_of X G z_bool
  have y_dict := PySem.W.mg_none_of X G z_dict
  have y_all := PySem.W.mg_none_of X G z_all
  have y_any := PySem.W.mg_none_of X G z_any
  have y_sum := PySem.W.mg_none_of X G z_sum
  have y_sorted := PySem.W.mg_none_of X G z_sorted
  have y_set := PySem.W.mg_none_of X G z_set
  have y_range := PySem.W.mg_none_of X G z_range
  have y_enumerate := PySem.W.mg_none_of X G z_enumerate
  have y_zip := PySem.W.mg_none_of X G z_zip
  have y_reversed := PySem.W.mg_none_of X G z_reversed
  have y_super := PySem.W.mg_none_of X G z_super
  have y_ValueError := PySem.W.mg_none_of X G z_ValueError
  have v_NoBook := PySem.W.mg_of X G g_NoBook
  have v_NoCode := PySem.W.mg_of X G g_NoCode
  have v_NoKind := PySem.W.mg_of X G g_NoKind
  have v_NoRow := PySem.W.mg_of X G g_NoRow
  have v_NoShuffle := PySem.W.mg_of X G g_NoShuffle
  have v_NoStep := PySem.W.mg_of X G g_NoStep
  have v_NoText := PySem.W.mg_of X G g_NoText
  have v_NoTurn := PySem.W.mg_of X G g_NoTurn
  have v_NoWord := PySem.W.mg_of X G g_NoWord
  have v_Twice := PySem.W.mg_of X G g_Twice
  have v_TooMany := PySem.W.mg_of X G g_TooMany
  have v_TakeError := PySem.W.mg_of X G g_TakeError
  have v_LETTERS := PySem.W.mg_of X G g_LETTERS
  have v_MOST_LEFT := PySem.W.mg_of X G g_MOST_LEFT
  have v_MOST_MAPS := PySem.W.mg_of X G g_MOST_MAPS
  refine ⟨PySem.W.fnOf "law" "law" (defArgs s_L_law) (defBody s_L_law) (defScope s_L_law) .none kV25 dc25 pm25 an25 cd25 ct25, fun s v => .of_eq rfl, fun base _ _ => ?_⟩
  have B : BI mg := ⟨y_len, y_isinstance, y_int, y_str, y_tuple, y_list, y_bool, y_dict, y_all, y_any, y_sum, y_sorted, y_set, y_range, y_enumerate, y_zip, y_reversed⟩
  have t_p_is_whole : At K mg "is_whole" s_p_is_whole ["thing"] := ⟨f1, _, F1, b1, m1⟩
  have t_p_is_shuffle : At K mg "is_shuffle" s_p_is_shuffle ["thing"] := ⟨f2, _, F2, b2, m2⟩
  have t_p_is_shuffle_row : At K mg "is_shuffle_row" s_p_is_shuffle_row ["row"] := ⟨f3, _, F3, b3, m3⟩
  have t_p_taken_left : At K mg "taken_left" s_p_taken_left ["shuffle"] := ⟨f4, _, F4, b4, m4⟩
  have t_p_least_map : At K mg "least_map" s_p_least_map ["n", "picks"] := ⟨f5, _, F5, b5, m5⟩
  have t_p_map_of : At K mg "map_of" s_p_map_of ["row"] := ⟨f6, _, F6, b6, m6⟩
  have t_p_whole_map : At K mg "whole_map" s_p_whole_map ["row"] := ⟨f7, _, F7, b7, m7⟩
  have t_p_map_book : At K mg "map_book" s_p_map_book ["few", "most"] := ⟨f8, _, F8, b8, m8⟩
  have t_p_map_book_holds : At K mg "map_book_holds" s_p_map_book_holds ["few", "most", "book"] := ⟨f9, _, F9, b9, m9⟩
  have t_p_is_line : At K mg "is_line" s_p_is_line ["thing", "few", "most"] := ⟨f10, _, F10, b10, m10⟩
  have t_p_is_map_form : At K mg "is_map_form" s_p_is_map_form ["thing"] := ⟨f11, _, F11, b11, m11⟩
  have t_p_is_closed : At K mg "is_closed" s_p_is_closed ["rows", "row", "word"] := ⟨f12, _, F12, b12, m12⟩
  have t_p_least_row : At K mg "least_row" s_p_least_row ["few", "shuffle", "most"] := ⟨f13, _, F13, b13, m13⟩
  have t_L_mixed : At K mg "_law_mixed" s_L_mixed ["_law_cell", "_law_k"] := ⟨f14, _, F14, b14, m14⟩
  have t_L_deck : At K mg "_law_deck" s_L_deck ["_law_script"] := ⟨f15, _, F15, b15, m15⟩
  have t_L_draw : At K mg "_law_draw" s_L_draw ["_law_deck_here", "_law_most"] := ⟨f16, _, F16, b16, m16⟩
  have t_L_sets : At K mg "_law_sets" s_L_sets [] := ⟨f17, _, F17, b17, m17⟩
  have t_L_just : At K mg "_law_just" s_L_just ["_law_many"] := ⟨f18, _, F18, b18, m18⟩
  have t_L_read : At K mg "_law_read" s_L_read ["_law_word"] := ⟨f19, _, F19, b19, m19⟩
  have t_L_whole : At K mg "_law_whole" s_L_whole ["_law_row"] := ⟨f20, _, F20, b20, m20⟩
  have t_L_least : At K mg "_law_least" s_L_least ["_law_there"] := ⟨f21, _, F21, b21, m21⟩
  have t_L_turned : At K mg "_law_turned" s_L_turned ["_law_deck_here", "_law_words"] := ⟨f22, _, F22, b22, m22⟩
  have t_L_asked : At K mg "_law_asked" s_L_asked ["_law_way", "_law_few", "_law_word", "_law_most"] := ⟨f23, _, F23, b23, m23⟩
  have t_L_is_just : At K mg "_law_is_just" s_L_is_just ["_law_few", "_law_word", "_law_length", "_law_fewer", "_law_found"] := ⟨f24, _, F24, b24, m24⟩
  have FM0 := fun_mk (st := s_p_MapSearch_init) lm0 cm0 km0
  have bm0 := FM0.binds (ps := ["self", "few"]) fun _ _ _ _ _ _ us hl => match us, hl with | [_, _], _ => rfl
  have tm0 : AtI K mg C "MapSearch" "MapSearch.__init__" s_p_MapSearch_init ["self", "few"] := ⟨q0, _, FM0, bm0, ⟨mk_C, am0, im0, kc_C⟩, PySem.W.mg_of X G ac_C⟩
  have FM1 := fun_mk (st := s_p_MapSearch_lengthen) lm1 cm1 km1
  have bm1 := FM1.binds (ps := ["self"]) fun _ _ _ _ _ _ us hl => match us, hl with | [_], _ => rfl
  have tm1 : AtM K C "lengthen" "MapSearch.lengthen" s_p_MapSearch_lengthen ["self"] := ⟨q1, _, FM1, bm1, ⟨am1, im1, km1⟩, ⟨pg_C, hd_C, po_C, sa_C⟩⟩
  have FM2 := fun_mk (st := s_p_MapSearch_refuse_too_many) lm2 cm2 km2
  have bm2 := FM2.binds (ps := ["self"]) fun _ _ _ _ _ _ us hl => match us, hl with | [_], _ => rfl
  have tm2 : AtM K C "refuse_too_many" "MapSearch.refuse_too_many" s_p_MapSearch_refuse_too_many ["self"] := ⟨q2, _, FM2, bm2, ⟨am2, im2, km2⟩, ⟨pg_C, hd_C, po_C, sa_C⟩⟩
  have FM3 := fun_mk (st := s_p_MapSearch_map_lines) lm3 cm3 km3
  have bm3 := FM3.binds (ps := ["self"]) fun _ _ _ _ _ _ us hl => match us, hl with | [_], _ => rfl
  have tm3 : AtM K C "map_lines" "MapSearch.map_lines" s_p_MapSearch_map_lines ["self"] := ⟨q3, _, FM3, bm3, ⟨am3, im3, km3⟩, ⟨pg_C, hd_C, po_C, sa_C⟩⟩
  have O_TooMany : OexC K e_TooMany := ⟨⟨_, _, _, _, _, _, _, _, _, _, _, _, _, _, _, oc_TooMany, ov_TooMany⟩, sa_TooMany, bPTooMany, tPTooMany, kPTooMany⟩
  have S_TooMany : SupC l.prog K e_TooMany ccTooMany cdaTooMany := ⟨O_TooMany, ⟨_, _, _, ce_TooMany⟩, opq, su_TooMany, sb_TooMany, sf_TooMany, ⟨_, _, _, _, _, _, cv_TooMany, cf_TooMany, cm_TooMany⟩, topS⟩
  have I_TooMany := ex_TooMany (P := l.prog) (w := w) (base := base) O_TooMany v_TooMany iC_TooMany tI_TooMany lk_TooMany cd_TooMany S_TooMany y_super nf_TooMany_many nf_TooMany_most
  have T : ClsM K C := ⟨⟨pg_C, hd_C, po_C, sa_C⟩, n_C_few, n_C_rows, n_C_longest⟩
  have XM := PySem.W.exm_ref e1 e2 e3 e4
  have TC : TooC K e_TooMany e_TakeError [e_NoBook, e_NoCode, e_NoKind, e_NoRow, e_NoShuffle, e_NoStep, e_NoText, e_NoTurn, e_NoWord, e_Twice] := ⟨⟨g1, g2, bPTooMany, g4, g5, g6, g7, g8⟩, xfB_ok xf_TooMany, nf_TooMany_many, nf_TooMany_most, XM, kq1, kqv, ka⟩
  have DE : FnOk l.prog w K mg base CX0 1 _ _ ["_law_script"] (spDeckE K) := ok_deck F15 y_list y_sum
  have cd := h_draw (P := l.prog) (w := w) (base := base) t_L_draw t_L_mixed y_len
  have ish := h_p_is_shuffle (P := l.prog) (w := w) (base := base) t_p_is_shuffle B ⟨_, v_LETTERS⟩ ⟨_, v_MOST_LEFT⟩
  have isr := h_p_is_shuffle_row t_p_is_shuffle_row B ish
  have tl := h_p_taken_left t_p_taken_left B ish ⟨_, v_LETTERS⟩
  have wm := h_p_whole_map t_p_whole_map B isr tl
  have lm := h_p_least_map (P := l.prog) (w := w) (base := base) t_p_least_map B
  have mo := h_p_map_of t_p_map_of B wm lm
  have rd := h_L_read (P := l.prog) (w := w) (base := base) t_L_read B
  have lw := h_L_whole t_L_whole B rd
  have ll := h_L_least (P := l.prog) (w := w) (base := base) t_L_least B
  have mi := h_p_MapSearch_init (P := l.prog) (w := w) (base := base) tm0 B T
  have mr := hY_p_MapSearch_refuse_too_many (C := C) (P := l.prog) (w := w) (base := base) tm2 B T I_TooMany ⟨_, v_MOST_MAPS⟩
  have ml := h_p_MapSearch_map_lines (P := l.prog) (w := w) (mg := mg) (base := base) tm3 B T
  have me := h_p_MapSearch_lengthen tm1 B T mo
  have lr := h_p_least_row t_p_least_row B T mo mi ml me mr
  have mb := h_p_map_book t_p_map_book B T mi me mr ml
  have iwp := h_p_is_whole (P := l.prog) (w := w) (base := base) t_p_is_whole B
  have imf := h_p_is_map_form t_p_is_map_form B iwp
  have isl := h_p_is_line t_p_is_line B mo imf
  have icl := h_p_is_closed t_p_is_closed B mo
  have mbh := h_p_map_book_holds t_p_map_book_holds B isl icl
  have sts := h_L_sets (P := l.prog) (w := w) (base := base) t_L_sets B
  have jst := h_L_just (P := l.prog) (w := w) (base := base) t_L_just B
  have trn := h_L_turned t_L_turned B cd
  have ijs := h_L_is_just t_L_is_just B ll lw mbh
  have ask := h_L_asked t_L_asked B mb lr v_TakeError v_Twice v_NoWord v_NoTurn v_NoText v_NoStep v_NoShuffle v_NoRow v_NoKind v_NoCode v_NoBook y_ValueError v_TooMany TC
  exact ok_law F25 B DE b15 k15 m15 cd sts trn jst ask ijs
theorem walk_law {l : PySem.W.OpenLaw} {q : Program} {loose : List Str} {XP : (Str → Option Value) → Heap → Prop} {YP : World → Heap → Prop} {d : DefRec} {K : Params → PySem.W.Frag} (hn : l.most = some 63) (hdf : d.params.defaults = [])
    (hY : ∀ (w : World) (h : Heap), YP w h → (K w.params).In h)
    (F : ∀ (w : World) (mg : Str → Option Value) (fa : Addr) (h : Heap), (K w.params).In h → h.Ns mainGlobals mg → mg d.name = some (.ref fa) →
      ∃ fd : FuncData, (∀ (s : Shared) (u : Value), BindsTo s fd ⟨[u], []⟩ [("_law_script", u)]) ∧ ∀ base : Heap, (K w.params).In base → base.Ns mainGlobals mg → FnOk l.prog w (K w.params) mg base CX0 9 fa fd ["_law_script"] (spLaw (K w.params))) :
    PySem.W.WalkO q loose XP YP l.row.toRowW d [] (fun f vs => PySem.call f vs) :=
  L2.walk_of (n := 63) (k := 9) (x := "_law_script") (CX := fun _ => CX0) (sp := fun w => spLaw (K w.params)) hn (by decide) hdf ⟨rfl, by decide, by decide⟩ hY F (fun _ _ a ns hl _ hS => ⟨a, ns, rfl, hS, hl, fun _ => rfl⟩) fun _ _ _ _ _ z => z
end K56
open PySem PySem.W PyProof.Rows
set_option maxRecDepth 100000 in
set_option maxHeartbeats 0 in
theorem PySem.Challenge.cw_takeleave_k56_too_many_maps_holds : PySem.Challenge.rw_takeleave_k56_too_many_maps.Holds := by
  w_on; o_law; k_head; (case hw => w_witness2)
  k_fill
  refine K56.walk_law (l := PySem.Challenge.rw_takeleave_k56_too_many_maps) rfl rfl (fun w h Y => PySem.W.kIn_of Y) ?F
  case F =>
    intro w mg fa h KX G hmg
    refine' K56.all_mk (w := w) KX G hmg ?a1 ?l1 ?c1 ?k1 ?a2 ?l2 ?c2 ?k2 ?a3 ?l3 ?c3 ?k3 ?a4 ?l4 ?c4 ?k4 ?a5 ?l5 ?c5 ?k5 ?a6 ?l6 ?c6 ?k6 ?a7 ?l7 ?c7 ?k7 ?a8 ?l8 ?c8 ?k8 ?a9 ?l9 ?c9 ?k9 ?a10 ?l10 ?c10 ?k10 ?a11 ?l11 ?c11 ?k11 ?a12 ?l12 ?c12 ?k12 ?a13 ?l13 ?c13 ?k13 ?a14 ?l14 ?c14 ?k14 ?a15 ?l15 ?c15 ?k15 ?a16 ?l16 ?c16 ?k16 ?a17 ?l17 ?c17 ?k17 ?a18 ?l18 ?c18 ?k18 ?a19 ?l19 ?c19 ?k19 ?a20 ?l20 ?c20 ?k20 ?a21 ?l21 ?c21 ?k21 ?a22 ?l22 ?c22 ?k22 ?a23 ?l23 ?c23 ?k23 ?a24 ?l24 ?c24 ?k24 ?a25 ?l25 ?c25 ?k25 ?z_len ?z_isinstance ?z_int ?z_str ?z_tuple ?z_list ?z_bool ?z_dict ?z_all ?z_any ?z_sum ?z_sorted ?z_set ?z_range ?z_enumerate ?z_zip ?z_reversed ?z_super ?z_ValueError ?g_NoBook ?g_NoCode ?g_NoKind ?g_NoRow ?g_NoShuffle ?g_NoStep ?g_NoText ?g_NoTurn ?g_NoWord ?g_Twice ?g_TooMany ?g_TakeError ?g_LETTERS ?g_MOST_LEFT ?g_MOST_MAPS ?opq ?topS ?ac_C ?pg_C ?hd_C ?po_C ?sa_C ?mk_C ?kc_C ?n_C_few ?n_C_rows ?n_C_longest ?am0 ?im0 ?lm0 ?cm0 ?km0 ?am1 ?im1 ?lm1 ?cm1 ?km1 ?am2 ?im2 ?lm2 ?cm2 ?km2 ?am3 ?im3 ?lm3 ?cm3 ?km3 ?oc_TooMany ?ov_TooMany ?sa_TooMany ?bPTooMany ?tPTooMany ?kPTooMany ?iC_TooMany ?tI_TooMany ?lk_TooMany ?cd_TooMany ?ce_TooMany ?su_TooMany ?sb_TooMany ?sf_TooMany ?cv_TooMany ?cf_TooMany ?cm_TooMany ?xf_TooMany ?nf_TooMany_many ?nf_TooMany_most ?g1 ?g2 ?g4 ?g5 ?g6 ?g7 ?g8 ?e1 ?e2 ?e3 ?e4 ?ka ?kq1 ?kqv
    (case a1 => k_is)
    (case l1 => k_is)
    (case c1 => k_is)
    (case k1 => k_is)
    (case a2 => k_is)
    (case l2 => k_is)
    (case c2 => k_is)
    (case k2 => k_is)
    (case a3 => k_is)
    (case l3 => k_is)
    (case c3 => k_is)
    (case k3 => k_is)
    (case a4 => k_is)
    (case l4 => k_is)
    (case c4 => k_is)
    (case k4 => k_is)
    (case a5 => k_is)
    (case l5 => k_is)
    (case c5 => k_is)
    (case k5 => k_is)
    (case a6 => k_is)
    (case l6 => k_is)
    (case c6 => k_is)
    (case k6 => k_is)
    (case a7 => k_is)
    (case l7 => k_is)
    (case c7 => k_is)
    (case k7 => k_is)
    (case a8 => k_is)
    (case l8 => k_is)
    (case c8 => k_is)
    (case k8 => k_is)
    (case a9 => k_is)
    (case l9 => k_is)
    (case c9 => k_is)
    (case k9 => k_is)
    (case a10 => k_is)
    (case l10 => k_is)
    (case c10 => k_is)
    (case k10 => k_is)
    (case a11 => k_is)
    (case l11 => k_is)
    (case c11 => k_is)
    (case k11 => k_is)
    (case a12 => k_is)
    (case l12 => k_is)
    (case c12 => k_is)
    (case k12 => k_is)
    (case a13 => k_is)
    (case l13 => k_is)
    (case c13 => k_is)
    (case k13 => k_is)
    (case a14 => k_is)
    (case l14 => k_is)
    (case c14 => k_is)
    (case k14 => k_is)
    (case a15 => k_is)
    (case l15 => k_is)
    (case c15 => k_is)
    (case k15 => k_is)
    (case a16 => k_is)
    (case l16 => k_is)
    (case c16 => k_is)
    (case k16 => k_is)
    (case a17 => k_is)
    (case l17 => k_is)
    (case c17 => k_is)
    (case k17 => k_is)
    (case a18 => k_is)
    (case l18 => k_is)
    (case c18 => k_is)
    (case k18 => k_is)
    (case a19 => k_is)
    (case l19 => k_is)
    (case c19 => k_is)
    (case k19 => k_is)
    (case a20 => k_is)
    (case l20 => k_is)
    (case c20 => k_is)
    (case k20 => k_is)
    (case a21 => k_is)
    (case l21 => k_is)
    (case c21 => k_is)
    (case k21 => k_is)
    (case a22 => k_is)
    (case l22 => k_is)
    (case c22 => k_is)
    (case k22 => k_is)
    (case a23 => k_is)
    (case l23 => k_is)
    (case c23 => k_is)
    (case k23 => k_is)
    (case a24 => k_is)
    (case l24 => k_is)
    (case c24 => k_is)
    (case k24 => k_is)
    (case a25 => k_is)
    (case l25 => k_is)
    (case c25 => k_is)
    (case k25 => k_is)
    (case z_len => k_is)
    (case z_isinstance => k_is)
    (case z_int => k_is)
    (case z_str => k_is)
    (case z_tuple => k_is)
    (case z_list => k_is)
    (case z_bool => k_is)
    (case z_dict => k_is)
    (case z_all => k_is)
    (case z_any => k_is)
    (case z_sum => k_is)
    (case z_sorted => k_is)
    (case z_set => k_is)
    (case z_range => k_is)
    (case z_enumerate => k_is)
    (case z_zip => k_is)
    (case z_reversed => k_is)
    (case z_super => k_is)
    (case z_ValueError => k_is)
    (case g_NoBook => k_is)
    (case g_NoCode => k_is)
    (case g_NoKind => k_is)
    (case g_NoRow => k_is)
    (case g_NoShuffle => k_is)
    (case g_NoStep => k_is)
    (case g_NoText => k_is)
    (case g_NoTurn => k_is)
    (case g_NoWord => k_is)
    (case g_Twice => k_is)
    (case g_TooMany => k_is)
    (case g_TakeError => k_is)
    (case g_LETTERS => k_is)
    (case g_MOST_LEFT => k_is)
    (case g_MOST_MAPS => k_is)
    (case opq => k_is)
    (case topS => first | rfl | kernel_rfl | decide +kernel)
    (case ac_C => k_is)
    (case pg_C => k_is)
    (case hd_C => k_is)
    (case po_C => k_is)
    (case sa_C => k_is)
    (case mk_C => k_is)
    (case kc_C => k_is)
    (case n_C_few => k_is)
    (case n_C_rows => k_is)
    (case n_C_longest => k_is)
    (case am0 => k_is)
    (case im0 => k_is)
    (case lm0 => k_is)
    (case cm0 => k_is)
    (case km0 => k_is)
    (case am1 => k_is)
    (case im1 => k_is)
    (case lm1 => k_is)
    (case cm1 => k_is)
    (case km1 => k_is)
    (case am2 => k_is)
    (case im2 => k_is)
    (case lm2 => k_is)
    (case cm2 => k_is)
    (case km2 => k_is)
    (case am3 => k_is)
    (case im3 => k_is)
    (case lm3 => k_is)
    (case cm3 => k_is)
    (case km3 => k_is)
    (case oc_TooMany => k_is)
    (case ov_TooMany => first | rfl | kernel_rfl)
    (case sa_TooMany => k_is)
    (case bPTooMany => k_is)
    (case tPTooMany => k_is)
    (case kPTooMany => k_is)
    (case iC_TooMany => k_is)
    (case tI_TooMany => k_is)
    (case lk_TooMany => k_is)
    (case cd_TooMany => k_is)
    (case ce_TooMany => k_is)
    (case su_TooMany => first | kernel_rfl | rfl | ks_is)
    (case sb_TooMany => k_is)
    (case sf_TooMany => k_is)
    (case cv_TooMany => k_is)
    (case cf_TooMany => first | rfl | kernel_rfl)
    (case cm_TooMany => first | rfl | kernel_rfl | decide +kernel)
    (case xf_TooMany => first | kernel_rfl | rfl | k_is | decide +kernel)
    (case nf_TooMany_many => k_is)
    (case nf_TooMany_most => k_is)
    (case g1 => k_is)
    (case g2 => k_is)
    (case g4 => k_is)
    (case g5 => k_is)
    (case g6 => k_is)
    (case g7 => k_is)
    (case g8 => k_is)
    (case e1 => k_is)
    (case e2 => k_is)
    (case e3 => k_is)
    (case e4 => k_is)
    (case ka => first | k_is | kernel_rfl)
    (case kq1 => first | k_is | kernel_rfl)
    (case kqv => first | k_is | kernel_rfl)
