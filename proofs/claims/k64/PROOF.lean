import PyProof.Rows.All
import Wide.All
import OpenK.AllK
import Wide.FinOn
import HandS.ForMost
import HandS.Rev
import KE.KDictList
import HandS.Style
import HandS.More
import HandS.IsInst
import HandS.StrMore
import HandS.Wide
import HandS.Codes
import HandS.Walk
import HandS.NoneIn
import HandS.WordsExc
import PyProof.AutoSeq1
import HandS.TupAny
import HandS.Conv
import HandS.SetFor
import HandS.ListEq
import HandS.ForExc
import HandS.ExcIs
import HandS.ExcOwn
import HandS.TupLe
import HandS.Deep
import HandS.Strs
import HandS.WordsDict
import KE.GoesMore
import KE.GoesEnum
import KE.SortData
import HandS.RevRange
import HandS.DictComp
import HandS.Text
import HandS.Zip
import HandS.CallLocal
import KE.KDictPairs
import HandS.Replace
import HandS.TryOnly
import HandS.Call
import HandS.Flow
import HandS.CallSlots
import HandS.Defaults
import HandS.Comp
import PyProof.NeKinds
import PySem.Challenge.RW_takeleave_k64_codes_run
set_option Elab.async false
set_option linter.all false
set_option maxRecDepth 100000
set_option maxHeartbeats 4000000
namespace Cm
open PySem PySem.Spec PyProof.Rows L2 RT
end Cm
namespace Cm
open PySem PySem.W L2 SX
theorem same_new {H : Hp} {p : Addr} (h : H p = none) (o : HO) : Same H (upd H p o) := fun b u q => by rw [upd_ne (ne_of_none q h)]; exact q
theorem own_new {H H' : Hp} {p : Addr} {o : HO} (s : Same H H') (h : H p = none) : Same H (upd H' p o) := fun b u q => by rw [upd_ne (ne_of_none q h)]; exact s _ _ q
theorem cut_map {α : Type} (f : α → V) (xs : List α) (lo hi : Option Int) : ∃ ys : List α, cutV (xs.map f) lo hi = ys.map f ∧ ys.length ≤ xs.length := by
  unfold cutV
  refine ⟨(xs.drop (HT.sIx (xs.map f).length 0 lo)).take (HT.sIx (xs.map f).length (xs.map f).length hi - HT.sIx (xs.map f).length 0 lo), ?_, ?_⟩
  · rw [List.map_take, List.map_drop]
  · rw [List.length_take, List.length_drop]; omega
theorem dp_ints {K : PySem.W.Frag} {H : Hp} : ∀ ns : List Int, DpAll K H (ns.map V.int) (ns.map PyData.int)
  | [] => .nil
  | n :: r => .cons (.int n) (dp_ints r)
theorem lay_ints : ∀ ns : List Int, PyData.canLayAll0 (ns.map PyData.int) = true
  | [] => rfl
  | n :: r => by
    show (PyData.canLay0 (PyData.int n) && PyData.canLayAll0 (r.map PyData.int)) = true
    rw [lay_ints r]; rfl
theorem deep_ints : ∀ ns : List Int, PyData.depthAll (ns.map PyData.int) = 0
  | [] => rfl
  | n :: r => by
    show max (PyData.depth (PyData.int n)) (PyData.depthAll (r.map PyData.int)) = 0
    rw [deep_ints r]; rfl
theorem shaped_ints (ns : List Int) : SeqAt.shaped (.list (ns.map PyData.int)) = true := by
  show (PyData.canLayAll0 (ns.map PyData.int) && decide (PyData.depthAll (ns.map PyData.int) + 1 ≤ 64)) = true
  rw [lay_ints, deep_ints]; rfl
theorem kn {H : Hp} {a t : Addr} {o o' : HO} (h : H a = some o) (n : H t = none) : upd H t o' a = some o := by rw [upd_ne (ne_of_none h n)]; exact h
/-- all but what stands at the places L is kept -/
def Kp (L : List Addr) (H H' : Hp) : Prop := ∀ b o, b ∉ L → H b = some o → H' b = some o
theorem Kp.refl (L : List Addr) (H : Hp) : Kp L H H := fun _ _ _ h => h
theorem Kp.trans {L : List Addr} {H H1 H2 : Hp} (a : Kp L H H1) (b : Kp L H1 H2) : Kp L H H2 := fun c o n h => b c o n (a c o n h)
theorem Kp.of {L : List Addr} {H H' : Hp} (s : Same H H') : Kp L H H' := fun b o _ h => s b o h
theorem Kp.new {L : List Addr} {p : Addr} {H H' : Hp} {o : HO} (a : Kp L H H') (h : H' p = none) : Kp L H (upd H' p o) := a.trans (.of (same_new h o))
theorem Kp.own {L : List Addr} {d : Addr} {H H' : Hp} {o : HO} (a : Kp L H H') (m : d ∈ L) : Kp L H (upd H' d o) := fun b u n h => by rw [upd_ne (show b ≠ d from fun z => n (by rw [z]; exact m))]; exact a b u n h
theorem Kp.mono {L M : List Addr} {H H' : Hp} (a : Kp L H H') (h : ∀ b ∈ L, b ∈ M) : Kp M H H' := fun b o n e => a b o (fun z => n (h b z)) e
theorem Kp.free {L : List Addr} {p : Addr} {H H' : Hp} (k : Kp L H H') (n : H' p = none) (m : p ∉ L) : H p = none := by
  cases e : H p with
  | none => rfl
  | some o => rw [k p o m e] at n; cases n
theorem Kp.put {L : List Addr} {p : Addr} {H H' : Hp} {o : HO} (k : Kp L H H') (n : H p = none) : Kp L H (upd H' p o) := fun b u m e => by rw [upd_ne (ne_of_none e n)]; exact k b u m e
theorem Kp.same {L : List Addr} {H0 H H' : Hp} (a : Kp L H H') (s : Same H0 H) (h : ∀ b ∈ L, H0 b = none) : Same H0 H' := fun b o e => a b o (fun z => by rw [h b z] at e; cases e) (s b o e)
def nn : List V := [V.str "number", V.str "number"]
end Cm
namespace Cm
open PySem PySem.W L2 SX
/-- a text, or something else that the law hands in -/
def Vl (H : Hp) (v : V) : Option (List Nat) → Prop
  | some x => v = .str (S x) ∧ x.length ≤ 1000
  | none => (v = .non ∨ (∃ b, v = .bl b) ∨ (∃ i, v = .int i) ∨ (∃ a xs, v = .ref a ∧ H a = some (.lst xs)) ∨ (∃ a kvs, v = .ref a ∧ H a = some (.dK kvs))) ∨ (∃ a xs, v = .ref a ∧ H a = some (.tup xs) ∧ (xs = [] ∨ ∃ z, xs = [.str z]))
theorem Vl.same {H H' : Hp} {v : V} {o : Option (List Nat)} (h : Vl H v o) (s : Same H H') : Vl H' v o := by
  cases o with
  | some x => exact h
  | none =>
    rcases h with (h | h | h | ⟨a, xs, e, h⟩ | ⟨a, xs, e, h⟩) | ⟨a, xs, e, h, g⟩
    · exact .inl (.inl h)
    · exact .inl (.inr (.inl h))
    · exact .inl (.inr (.inr (.inl h)))
    · exact .inl (.inr (.inr (.inr (.inl ⟨a, xs, e, s _ _ h⟩))))
    · exact .inl (.inr (.inr (.inr (.inr ⟨a, xs, e, s _ _ h⟩))))
    · exact .inr ⟨a, xs, e, s _ _ h, g⟩
end Cm
namespace Cm
open PySem PySem.W L2 SX
/-- a text of at most n signs that a text may have -/
structure Tx (z : Str) (n : Nat) : Prop where
  len : z.length ≤ n
  ch : ∀ c ∈ z.cps.toList, c < 1114112
theorem Tx.mono {a : Str} {m n : Nat} (h : Tx a m) (l : m ≤ n) : Tx a n := ⟨Nat.le_trans h.len l, h.ch⟩
theorem Tx.cut {z : Str} {n : Nat} (h : Tx z n) (lo hi : Option Int) : Tx (cutS z lo hi) n := by
  refine ⟨Nat.le_trans (cutS_length z lo hi) h.len, fun c hc => h.ch c ?_⟩
  have e : c ∈ (z.cps.toList.drop (HT.sIx z.length 0 lo)).take (HT.sIx z.length z.length hi - HT.sIx z.length 0 lo) := hc
  exact List.mem_of_mem_drop (List.mem_of_mem_take e)
theorem Tx.at_ {z : Str} {n : Nat} (h : Tx z n) {i : Int} {c : Nat} (e : atI z.cps.toList i = some c) : Tx ⟨#[c]⟩ 1 := by
  refine ⟨Nat.le_refl 1, fun d hd => ?_⟩
  have hd' : d ∈ [c] := hd
  rw [List.mem_singleton.mp hd']
  refine h.ch c ?_
  unfold atI at e
  cases q : ixN z.cps.toList.length i with
  | none => rw [q] at e; cases e
  | some j => rw [q] at e; exact List.mem_of_getElem? e
theorem Tx.sz {z : Str} {n : Nat} (h : Tx z n) (l : n ≤ 1000 := by decide) : z.length ≤ sizeLine := Nat.le_of_lt (small1000 (Nat.le_trans h.len l))
end Cm
namespace Cm
open PySem PySem.Spec PyProof.Rows L2
theorem ext_tup (l : Addr) (its : Array Value) (n : Nat) (b : Addr) (js : Array Value) (m : Nat) (dd : Option Addr) (sl : Array (Option Value)) (h0 : ¬(!its.isEmpty && Builtin.List.listTooLong (its.size + js.size)) = true) (h1 : its.size ≤ sizeLine) (h2 : its.size + js.size ≤ sizeLine + 1) :
    Meets (Builtin.«list.extend» ⟨[.ref l, .ref b], []⟩) (fun _ R s => s.heap.get? l = some { cls := .type "list", dict := none, data := .seq its n, slots := #[] } ∧ s.heap.get? b = some { cls := .type "tuple", dict := dd, data := .seq js m, slots := sl } ∧ R (.ok (.ret Value.none)) { s with heap := s.heap.update l (Obj.mapSeq fun x => x ++ js), toks := s.toks }) :=
  .of_wp fun prog w A R s h => by
    obtain ⟨hp, g, d, tk, os⟩ := s
    obtain ⟨hl, hb, h⟩ := h
    have f2 := sub_tuple_tuple; have f3 := sub_list_list; have f4 := sub_tuple_list; have f5 := sub_list_tuple; have f1 := AutoSeq1.idx_int
    have hz : (its ++ js).size ≤ sizeLine + 1 := by rw [Array.size_append]; exact h2
    wp_walk using (wpAny_updateSeq hl rfl (hz := h1) (_hz' := hz)), wpAny_loadPart' hl, wpAny_loadPart' hb
    exact ⟨_, rfl, h⟩
def rExtT (K : PySem.W.Frag) : V → List V → Hp → VK → Prop := fun x vs H Q => ∃ l b xs zs, x = .ref l ∧ vs = [.ref b] ∧ H l = some (.lst xs) ∧ SqT K H b zs ∧ xs.length + zs.length ≤ sizeLine ∧ Q .non (upd H l (.lst (xs ++ zs)))
/-- xs.extend(t), t a tuple -/
theorem mt_extT {X : Cx} : MtM X "list.extend" (rExtT X.K) := by
  intro pins s σ H x vs v us Q I rx rv h
  obtain ⟨l, b, xs, zs, rfl, rfl, hH, hB, hz, q⟩ := h
  cases rx
  obtain ⟨u, rfl, ru⟩ := rv.one
  cases ru
  obtain ⟨z, its, n, r, hl, e⟩ := I.lstM hH
  obtain ⟨js, r2, ⟨ob, e2, c2, m, d2⟩, z2⟩ := I.tuple hB
  obtain ⟨oc, od, dt, sl⟩ := ob
  cases (show oc = .type "tuple" from c2)
  cases (show dt = .seq js.toArray m from d2)
  have l2 := r2.length
  have hsz : its.toArray.size + js.toArray.size ≤ sizeLine := by rw [List.size_toArray, List.size_toArray]; omega
  have hlong : ¬ (!its.toArray.isEmpty && Builtin.List.listTooLong (its.toArray.size + js.toArray.size)) = true := by
    rw [notLongL hsz, Bool.and_false]; exact Bool.false_ne_true
  refine call_meets F.slot_list_extend ⟨_, e, rfl⟩ F.entry_list_extend (F.args_list_extend_2 _ _)
    (ext_tup l its.toArray n b js.toArray m od sl hlong (by rw [List.size_toArray]; omega) (by omega)) ⟨e, e2, ?_⟩
  refine ⟨.non, _, I.lset (its' := its ++ js) hH e (by simp) (r.append r2) ?_, rfl, q⟩
  rw [List.length_append]; omega
end Cm
namespace Cm
open PySem PySem.W L2 SX
/-! ### data of tuples, texts and numbers as it lies in the heap -/
mutual
inductive Tr (K : Frag) (H : Hp) : V → PyData → Prop
  | int (i : Int) : Tr K H (.int i) (.int i)
  | str (x : Str) : Tr K H (.str x) (.str x)
  | tup {a : Addr} {xs : List V} {ds : List PyData} : SqT K H a xs → TrAll K H xs ds → Tr K H (.ref a) (.tuple ds)
inductive TrAll (K : Frag) (H : Hp) : List V → List PyData → Prop
  | nil : TrAll K H [] []
  | cons {v : V} {vs : List V} {d : PyData} {ds : List PyData} : Tr K H v d → TrAll K H vs ds → TrAll K H (v :: vs) (d :: ds)
end
/-- tuples are kept -/
def TKs (K : Frag) (H H' : Hp) : Prop := ∀ a xs, SqT K H a xs → SqT K H' a xs
theorem TKs.refl {K : Frag} (H : Hp) : TKs K H H := fun _ _ h => h
theorem TKs.trans {K : Frag} {H H1 H2 : Hp} (a : TKs K H H1) (b : TKs K H1 H2) : TKs K H H2 := fun c x h => b c x (a c x h)
theorem TKs.of {K : Frag} {H H' : Hp} (s : Same H H') : TKs K H H' := fun a xs h => by
  rcases h with (h | ⟨o, h⟩) | h
  · exact .inl (.inl (s _ _ h))
  · exact .inl (.inr ⟨o, s _ _ h⟩)
  · exact .inr h
theorem TKs.kp {K : Frag} {L : List Addr} {H H' : Hp} (k : Kp L H H') (hl : ∀ b ∈ L, ∃ xs, H b = some (.lst xs)) : TKs K H H' := fun a xs h => by
  have nm : ∀ o, H a = some o → (∀ ys, o ≠ .lst ys) → a ∉ L := fun o e n z => by
    obtain ⟨ys, ey⟩ := hl a z
    rw [ey] at e
    exact n ys (Option.some.inj e).symm
  rcases h with (h | ⟨o, h⟩) | h
  · exact .inl (.inl (k _ _ (nm _ h (fun _ z => by cases z)) h))
  · exact .inl (.inr ⟨o, k _ _ (nm _ h (fun _ z => by cases z)) h⟩)
  · exact .inr h
theorem TKs.lst {K : Frag} {H : Hp} {d : Addr} {xs ys : List V} (h : H d = some (.lst xs)) : TKs K H (upd H d (.lst ys)) :=
  TKs.kp (L := [d]) (fun b o m e => by rw [upd_ne (fun z => m (List.mem_singleton.mpr z))]; exact e) (fun b hb => by rw [List.mem_singleton.mp hb]; exact ⟨xs, h⟩)
mutual
theorem Tr.mono {K : Frag} {H H' : Hp} (k : TKs K H H') : ∀ {v : V} {d : PyData}, Tr K H v d → Tr K H' v d
  | _, _, .int i => .int i
  | _, _, .str x => .str x
  | _, _, .tup h t => .tup (k _ _ h) (TrAll.mono k t)
theorem TrAll.mono {K : Frag} {H H' : Hp} (k : TKs K H H') : ∀ {v : List V} {d : List PyData}, TrAll K H v d → TrAll K H' v d
  | _, _, .nil => .nil
  | _, _, .cons h t => .cons (Tr.mono k h) (TrAll.mono k t)
end
mutual
theorem Tr.dp {K : Frag} {H : Hp} : ∀ {v : V} {d : PyData}, Tr K H v d → Dp K H v d
  | _, _, .int i => .int i
  | _, _, .str x => .str x
  | _, _, .tup h t => .tup h (TrAll.dp t)
theorem TrAll.dp {K : Frag} {H : Hp} : ∀ {v : List V} {d : List PyData}, TrAll K H v d → DpAll K H v d
  | _, _, .nil => .nil
  | _, _, .cons h t => .cons (Tr.dp h) (TrAll.dp t)
end
theorem TrAll.len {K : Frag} {H : Hp} : ∀ {v : List V} {d : List PyData}, TrAll K H v d → v.length = d.length
  | _, _, .nil => rfl
  | _, _, .cons _ t => congrArg (· + 1) (TrAll.len t)
theorem TrAll.append {K : Frag} {H : Hp} : ∀ {v v' : List V} {d d' : List PyData}, TrAll K H v d → TrAll K H v' d' → TrAll K H (v ++ v') (d ++ d')
  | _, _, _, _, .nil, h => h
  | _, _, _, _, .cons h t, h' => .cons h (TrAll.append t h')
theorem TrAll.get {K : Frag} {H : Hp} : ∀ {v : List V} {d : List PyData} {i : Nat} {x : V}, TrAll K H v d → v[i]? = some x → ∃ y, d[i]? = some y ∧ Tr K H x y
  | _, _, i, x, .nil, h => by simp at h
  | _, _, 0, x, .cons h t, e => ⟨_, rfl, by cases e; exact h⟩
  | _, _, i + 1, x, .cons h t, e => by
    rw [List.getElem?_cons_succ] at e ⊢
    exact TrAll.get t e
/-! ### things, rows, stacks: depth, words in all, size -/
mutual
inductive Thg : Nat → Nat → Nat → PyData → Prop
  | num {k : Nat} (n : Int) (h0 : 0 ≤ n) (h1 : n < 10 ^ 12) : Thg k 0 1 (.tuple [.str "number", .int n])
  | row {k k' w m : Nat} {ws : List PyData} : Rw k w m ws → k < k' → Thg k' w (m + 1) (.tuple [.str "row", .tuple ws])
  | lst {k k' w m : Nat} {ts : List PyData} : Stk k w m ts → k < k' → Thg k' w (m + 1) (.tuple [.str "list", .tuple ts])
inductive Rw : Nat → Nat → Nat → List PyData → Prop
  | nil {k : Nat} : Rw k 0 0 []
  | txt {k w m : Nat} {z : Str} {ws : List PyData} : Tx z 100 → Rw k w m ws → Rw k (w + 1) (m + 1) (.str z :: ws)
  | push {k w m w' m' : Nat} {t : PyData} {ws : List PyData} : Thg k w m t → Rw k w' m' ws → Rw k (w + w' + 1) (m + m' + 1) (.tuple [.str "push", t] :: ws)
inductive Stk : Nat → Nat → Nat → List PyData → Prop
  | nil {k : Nat} : Stk k 0 0 []
  | cons {k w m w' m' : Nat} {t : PyData} {ts : List PyData} : Thg k w m t → Stk k w' m' ts → Stk k (w + w') (m + m') (t :: ts)
end
theorem Rw.append {k : Nat} : ∀ {a b : List PyData} {w m w' m' : Nat}, Rw k w m a → Rw k w' m' b → Rw k (w + w') (m + m') (a ++ b)
  | _, _, _, _, _, _, .nil, h => by rw [Nat.zero_add, Nat.zero_add]; exact h
  | _, _, _, _, w', m', .txt (w := w) (m := m) h t, h' => by
    have := Rw.txt h (Rw.append t h')
    rw [show w + 1 + w' = w + w' + 1 by omega, show m + 1 + m' = m + m' + 1 by omega]
    exact this
  | _, _, _, _, w', m', .push (w := w) (m := m) (w' := x) (m' := y) h t, h' => by
    have := Rw.push h (Rw.append t h')
    rw [show w + x + 1 + w' = w + (x + w') + 1 by omega, show m + y + 1 + m' = m + (y + m') + 1 by omega]
    exact this
theorem Stk.append {k : Nat} : ∀ {a b : List PyData} {w m w' m' : Nat}, Stk k w m a → Stk k w' m' b → Stk k (w + w') (m + m') (a ++ b)
  | _, _, _, _, _, _, .nil, h => by rw [Nat.zero_add, Nat.zero_add]; exact h
  | _, _, _, _, _, _, .cons h t, h' => by
    rw [Nat.add_assoc, Nat.add_assoc]; exact .cons h (Stk.append t h')
theorem Thg.pos {k w m : Nat} {t : PyData} (h : Thg k w m t) : 1 ≤ m := by
  cases h <;> omega
theorem Stk.len {k : Nat} : ∀ {a : List PyData} {w m : Nat}, Stk k w m a → a.length ≤ m
  | _, _, _, .nil => Nat.le_refl 0
  | _, _, _, .cons h t => by
    have h1 := Stk.len t
    have h2 := h.pos
    rw [List.length_cons]; omega
theorem Rw.len {k : Nat} : ∀ {a : List PyData} {w m : Nat}, Rw k w m a → a.length ≤ m
  | _, _, _, .nil => Nat.le_refl 0
  | _, _, _, .txt h t => by have := Rw.len t; rw [List.length_cons]; omega
  | _, _, _, .push h t => by have := Rw.len t; rw [List.length_cons]; omega
theorem Rw.at_ {k : Nat} : ∀ {ws : List PyData} {w m i : Nat} {d : PyData}, Rw k w m ws → ws[i]? = some d → (∃ z, d = .str z) ∨ (∃ t, d = .tuple [.str "push", t])
  | _, _, _, i, d, .nil, h => by simp at h
  | _, _, _, 0, d, .txt (z := z) h t, e => .inl ⟨z, by cases e; rfl⟩
  | _, _, _, 0, d, .push (t := t) h _, e => .inr ⟨t, by cases e; rfl⟩
  | _, _, _, i + 1, d, .txt h t, e => Rw.at_ t e
  | _, _, _, i + 1, d, .push h t, e => Rw.at_ t e
theorem mid {n : Nat} (h : n ≤ 1000000) : n ≤ sizeLine := Nat.le_trans h (by decide)
theorem midlt {n : Nat} (h : n < 1000000) : n < sizeLine := Nat.lt_of_lt_of_le h (by decide)
theorem tyTup {K : Frag} {H : Hp} {a : Addr} {xs : List V} (h : SqT K H a xs) : TyX K H (.ref a) (.type "tuple") := by
  rcases h with (h | ⟨o, h⟩) | ⟨o, _, _, e, c, _⟩
  · exact .base (.tup h)
  · exact .fTuple h
  · exact .kTuple e c
mutual
theorem Thg.lay : ∀ {k w m : Nat} {t : PyData}, Thg k w m t → PyData.canLay0 t = true ∧ PyData.depth t ≤ 3 * k + 1
  | k, _, _, _, .num n h0 h1 => ⟨by show (PyData.canLay0 (.str "number") && (true && true)) = true; decide +kernel, Nat.le_add_left 1 _⟩
  | k', _, _, _, .row (k := k) (ws := ws) h l => by
    obtain ⟨a, b⟩ := Rw.lay h
    refine ⟨?_, ?_⟩
    · show (PyData.canLay0 (.str "row") && (PyData.canLayAll0 ws && true)) = true
      rw [a]; decide +kernel
    · show max 0 (max (PyData.depthAll ws + 1) 0) + 1 ≤ _
      omega
  | k', _, _, _, .lst (k := k) (ts := ts) h l => by
    obtain ⟨a, b⟩ := Stk.lay h
    refine ⟨?_, ?_⟩
    · show (PyData.canLay0 (.str "list") && (PyData.canLayAll0 ts && true)) = true
      rw [a]; decide +kernel
    · show max 0 (max (PyData.depthAll ts + 1) 0) + 1 ≤ _
      omega
theorem Rw.lay : ∀ {k w m : Nat} {ws : List PyData}, Rw k w m ws → PyData.canLayAll0 ws = true ∧ PyData.depthAll ws ≤ 3 * k + 2
  | k, _, _, _, .nil => ⟨rfl, Nat.zero_le _⟩
  | k, _, _, _, .txt (z := z) (ws := ws) h t => by
    obtain ⟨a, b⟩ := Rw.lay t
    refine ⟨?_, ?_⟩
    · show (z.cps.all (· < 0x110000) && PyData.canLayAll0 ws) = true
      rw [a, Bool.and_true, ← Array.all_toList, List.all_eq_true]
      intro c hc
      exact decide_eq_true (h.ch c hc)
    · show max 0 (PyData.depthAll ws) ≤ _
      omega
  | k, _, _, _, .push (t := t) (ws := ws) h r => by
    obtain ⟨a, b⟩ := Rw.lay r
    obtain ⟨a', b'⟩ := Thg.lay h
    refine ⟨?_, ?_⟩
    · show ((PyData.canLay0 (.str "push") && (PyData.canLay0 t && true)) && PyData.canLayAll0 ws) = true
      rw [a, a']; decide +kernel
    · show max (max 0 (max (PyData.depth t) 0) + 1) (PyData.depthAll ws) ≤ _
      omega
theorem Stk.lay : ∀ {k w m : Nat} {ts : List PyData}, Stk k w m ts → PyData.canLayAll0 ts = true ∧ PyData.depthAll ts ≤ 3 * k + 1
  | k, _, _, _, .nil => ⟨rfl, Nat.zero_le _⟩
  | k, _, _, _, .cons (t := t) (ts := ts) h r => by
    obtain ⟨a, b⟩ := Stk.lay r
    obtain ⟨a', b'⟩ := Thg.lay h
    refine ⟨?_, ?_⟩
    · show (PyData.canLay0 t && PyData.canLayAll0 ts) = true
      rw [a, a']; rfl
    · show max (PyData.depth t) (PyData.depthAll ts) ≤ _
      omega
end
theorem Stk.shaped {k w m : Nat} {ts : List PyData} (h : Stk k w m ts) (l : k ≤ 20) : SeqAt.shaped (.list ts) = true := by
  obtain ⟨a, b⟩ := h.lay
  show (PyData.canLayAll0 ts && decide (PyData.depthAll ts + 1 ≤ 64)) = true
  rw [a, Bool.true_and]; exact decide_eq_true (by omega)
end Cm
namespace Cm
open PySem PySem.W L2 SX
theorem Tr.tupD {K : Frag} {H : Hp} {v : V} {ds : List PyData} (h : Tr K H v (.tuple ds)) : ∃ a xs, v = .ref a ∧ SqT K H a xs ∧ TrAll K H xs ds := by
  cases h with
  | tup h t => exact ⟨_, _, rfl, h, t⟩
end Cm
namespace Cm
open PySem PySem.W L2 SX
/-! ### maps: what stays lowest -/
/-- the thing c stays where it is and stands nowhere behind -/
def Stays (ps : List Int) (c : Nat) : Prop := ps[c]? = some (c : Int) ∧ (c : Int) ∉ ps.drop (c + 1)
/-- as many as c may be cut -/
def IsCut (ps : List Int) (c : Nat) : Prop := (∀ j, j < c → Stays ps j) ∧ ¬ Stays ps c
theorem IsCut.uniq {ps : List Int} {c d : Nat} (a : IsCut ps c) (b : IsCut ps d) : c = d := by
  rcases Nat.lt_trichotomy c d with h | h | h
  · exact absurd (b.1 c h) a.2
  · exact h
  · exact absurd (a.1 d h) b.2
/-- a map as data: a number and a tuple of numbers -/
def mapD (n : Int) (ps : List Int) : PyData := .tuple [.int n, .tuple (ps.map PyData.int)]
/-- a map stands at p -/
def MapAt (K : Frag) (H : Hp) (p : Addr) (n : Int) (ps : List Int) : Prop := ∃ t, SqT K H p [.int n, .ref t] ∧ SqT K H t (ps.map V.int)
/-! ### rules -/
theorem Same.seqT {K : PySem.W.Frag} {H H' : Hp} {a : Addr} {xs : List V} (e : Same H H') (h : SqT K H a xs) : SqT K H' a xs := by
  rcases h with (h | ⟨o, h⟩) | h
  · exact .inl (.inl (e _ _ h))
  · exact .inl (.inr ⟨o, e _ _ h⟩)
  · exact .inr h
theorem MapAt.same {K : Frag} {H H' : Hp} {p : Addr} {n : Int} {ps : List Int} (h : MapAt K H p n ps) (s : Same H H') : MapAt K H' p n ps := by
  obtain ⟨t, h1, h2⟩ := h
  exact ⟨t, Same.seqT s h1, Same.seqT s h2⟩
theorem MapAt.dp {K : Frag} {H : Hp} {p : Addr} {n : Int} {ps : List Int} (h : MapAt K H p n ps) : Dp K H (.ref p) (mapD n ps) := by
  obtain ⟨t, h1, h2⟩ := h
  exact .tup h1 (.cons (.int _) (.cons (.tup h2 (dp_ints ps)) .nil))
/-! ### a tuple's method: the tuple is kept as the object that was made, which has no dict -/
/-- a tuple of xs stands at p, as an object without a dict -/
def TupO (H : Hp) (p : Addr) (xs : List V) : Prop := ∃ o : Obj, o.dict = none ∧ H p = some (.frz o (.tup xs))
theorem TupO.same {H H' : Hp} {p : Addr} {xs : List V} (h : TupO H p xs) (s : Same H H') : TupO H' p xs := by
  obtain ⟨o, d, h⟩ := h
  exact ⟨o, d, s _ _ h⟩
theorem TupO.kp {H H' : Hp} {d p : Addr} {xs ys : List V} (h : TupO H p xs) (hd : H d = some (.lst ys)) (s : Kp [d] H H') : TupO H' p xs := by
  obtain ⟨o, e, h⟩ := h
  exact ⟨o, e, s p _ (fun z => by rw [List.mem_singleton.mp z, hd] at h; cases h) h⟩
end Cm
/-! xs == [] of any list, and t[::-1] of a tuple -/
namespace PySem.SeqAt
open AutoSeq1 (wpAny_loadPart')
open MeetsSeq MeetsSeq2 MeetsSeq3 SeqRoads2
section
variable {prog : Program} {w : World}
theorem cm_list_neIn (l b : Addr) (items items2 : Array Value) (n n2 : Nat) (dd dd2 : Option Addr) (sl sl2 : Array (Option Value)) (hsz : items.size ≠ items2.size) :
    MeetsIn prog w (Builtin.«list.__eq__» ⟨[.ref l, .ref b], []⟩)
      (fun A R s => s.heap.get? l = some { cls := .type "list", dict := dd, data := .seq items n, slots := sl } ∧ s.heap.get? b = some { cls := .type "list", dict := dd2, data := .seq items2 n2, slots := sl2 } ∧
        R (.ok (.ret (.bool false))) s) := by
  intro A R s h
  obtain ⟨hp, g, d, tk, os⟩ := s; obtain ⟨hl, hb, h⟩ := h
  have f3 := AutoSeq1.sub_list_list
  have hne : (items.size != items2.size) = true := by simp [hsz]
  wp_walk using wpAny_loadPart' hl, wpAny_loadPart' hb
  exact h
theorem cm_rcP_ne {A : Around} {s : Shared} {l b : Addr} {items items2 : Array Value} (hl : s.heap.IsList l items) (hb : s.heap.IsList b items2) (hsz : items.size ≠ items2.size) (hu : A.units < cLine)
    (E Q : Value → Shared → Prop) (h : Q (.bool false) s) : wpAny (model prog w) A (richCompare .Eq (.ref l) (.ref b)) Q E s := by
  obtain ⟨⟨cls, dd, data, sl⟩, ho, hc, n, hd⟩ := id hl
  obtain ⟨⟨cls2, dd2, data2, sl2⟩, ho2, hc2, n2, hd2⟩ := id hb
  simp only at hc hd hc2 hd2
  subst hc hd hc2 hd2
  have ta : s.TypeIs (.ref l) "list" := ⟨_, ho, rfl⟩
  have tb : s.TypeIs (.ref b) "list" := ⟨_, ho2, rfl⟩
  exact wpAny_richCompare_same_room (op := .Eq) ta tb F.slot_list_eq (call_meetsIn F.slot_list_eq ta F.entry_list_eq (F.args_list_eq_2 _ _) (cm_list_neIn l b items items2 n n2 dd dd2 sl sl2 hsz)
    ⟨ho, ho2, show Value.bool false ≠ Value.notImplemented ∧ Q (.bool false) s from ⟨(fun x => nomatch x), h⟩⟩) hu
end
end PySem.SeqAt
namespace Cm
open PySem PySem.Spec PyProof.Rows PySem.W L2 SX
section
variable {X : Cx}
/-- xs == [] -/
def rEqNil (K : Frag) : R2 := fun x y H Q => ∃ a b xs, x = .ref a ∧ y = .ref b ∧ SqL K H a xs ∧ SqL K H b [] ∧ Q (.bl xs.isEmpty) H
theorem op_eqNil (hu : X.A.units + 64 < cLine) : OpR X (compareOp .Eq) (rEqNil X.K) := by
  intro pins s σ H x y v u Q I rx ry h
  obtain ⟨a, b, xs, rfl, rfl, ha, hb, q⟩ := h
  cases rx
  cases ry
  obtain ⟨us, r1, p1, _⟩ := I.list ha
  obtain ⟨ws, r2, p2, _⟩ := I.list hb
  cases r2
  cases r1 with
  | nil =>
    refine SeqAt.rcP_lists (e := fun _ => true) p1.isList p2.isList rfl (by omega) (fun j h1 h2 => ?_) _ _ ⟨.bl true, H, I, rfl, q⟩
    exact absurd h1 (Nat.not_lt_zero j)
  | cons h t =>
    refine SeqAt.cm_rcP_ne p1.isList p2.isList (by simp) (by omega) _ _ ⟨.bl false, H, I, rfl, q⟩
end
end Cm
namespace HT
open PySem PyProof.Rows
section
variable {prog : Program} {w : World} {A : Around} {E : Value → Shared → Prop} {s : Shared}
theorem cm_adjust (n : Nat) : Builtin.Slice.sliceAdjust none none (-1) (n : Int) = ((n : Int) - 1, -1) := rfl
theorem cm_places (n : Nat) : Builtin.Slice.slicePlaces ((n : Int) - 1) (-1) (-1) = n := by
  unfold Builtin.Slice.slicePlaces
  rw [if_neg (show ¬ ((-1 : Int) > 0) by omega)]
  cases n with
  | zero => rfl
  | succ n =>
    rw [if_pos (show ((n + 1 : Nat) : Int) - 1 > -1 by omega)]
    show ((((n + 1 : Nat) : Int) - 1 - -1 - 1) / 1 + 1).toNat = n + 1
    rw [Int.ediv_one]; omega
theorem cm_applied {sl : Addr} {vl vu vs : Value} {n : Nat} {Q : Int × Int × Nat → Shared → Prop} (hs : s.heap.IsSliceOf sl vl vu vs) (pl : IsPart vl none) (pu : IsPart vu none) (ps : IsPart vs (some (-1)))
    (h : Q ((n : Int) - 1, -1, n) s) : wpAny (model prog w) A (Builtin.Slice.sliceApplied (.ref sl) (pure (n : Int))) Q E s := by
  obtain ⟨os, hos, hcs, hds⟩ := id hs
  unfold Builtin.Slice.sliceApplied Builtin.Slice.sliceFields
  refine wpAny_bind (wpAny_bind (wpAny_field hos hds (x := vl) rfl (wpAny_bind (wpAny_field hos hds (x := vu) rfl (wpAny_bind (wpAny_field hos hds (x := vs) rfl (wpAny_pure ?_)))))))
  refine wpAny_bind (slicePart_ ps ?_)
  show wpAny _ _ (if ((-1 : Int) == 0) = true then _ else _) _ _ s
  rw [if_neg (by decide)]
  refine wpAny_bind (slicePart_ pl (wpAny_bind (slicePart_ pu (wpAny_bind (wpAny_pure ?_)))))
  show wpAny _ _ (match Builtin.Slice.sliceAdjust none none (-1) (n : Int) with | (lo, hi) => pure (lo, (-1 : Int), Builtin.Slice.slicePlaces lo hi (-1))) _ _ s
  rw [cm_adjust n]
  show wpAny _ _ (pure ((n : Int) - 1, (-1 : Int), Builtin.Slice.slicePlaces ((n : Int) - 1) (-1) (-1))) _ _ s
  rw [cm_places]
  exact wpAny_pure h
theorem cm_pick (xs : List Value) : ((List.range xs.length).filterMap fun (m : Nat) => xs.toArray[((xs.length : Int) - 1 + (m : Int) * -1).toNat]?).toArray = xs.reverse.toArray := by
  congr 1
  have e : ∀ m ∈ List.range xs.length, xs.toArray[((xs.length : Int) - 1 + (m : Int) * -1).toNat]? = xs.reverse[m]? := by
    intro m hm
    have hm := List.mem_range.mp hm
    rw [List.getElem?_reverse hm, show ((xs.length : Int) - 1 + (m : Int) * -1).toNat = xs.length - 1 - m by omega]
    simp
  have e2 : ∀ (l : List Nat), (∀ m ∈ l, m ∈ List.range xs.length) → (l.filterMap fun (m : Nat) => xs.toArray[((xs.length : Int) - 1 + (m : Int) * -1).toNat]?) = l.filterMap fun m => xs.reverse[m]? := by
    intro l
    induction l with
    | nil => intro _; rfl
    | cons a r ih =>
      intro h
      rw [List.filterMap_cons, List.filterMap_cons, e a (h a (List.mem_cons_self ..)), ih (fun m hm => h m (List.mem_cons_of_mem _ hm))]
  rw [e2 _ (fun _ h => h), ← List.length_reverse (as := xs)]
  generalize xs.reverse = ys
  induction ys with
  | nil => rfl
  | cons y r ih =>
    rw [List.length_cons, List.range_succ_eq_map, List.filterMap_cons]
    show y :: List.filterMap _ _ = _
    rw [List.filterMap_map]
    exact congrArg (y :: ·) ih
theorem cm_tuple_rev {t sl : Addr} {items : List Value} {vl vu vs : Value} {Q : Value → Shared → Prop} (ht : IsTup s.heap t items.toArray) (hs : s.heap.IsSliceOf sl vl vu vs) (pl : IsPart vl none) (pu : IsPart vu none) (ps : IsPart vs (some (-1)))
    (h : Q (.ref s.heap.objs.size) { s with heap := s.heap.push { cls := .type "tuple", data := .seq items.reverse.toArray } })
    (hsz : items.length ≤ sizeLine) : wpAny (model prog w) A (getItem (.ref t) (.ref sl)) Q E s := by
  have htake : sizeOk (.seq items.reverse.toArray) := by
    show items.reverse.toArray.size ≤ sizeLine
    rw [List.size_toArray, List.length_reverse]; exact hsz
  obtain ⟨os, hos, hcs, hds⟩ := id hs
  have hTs : s.TypeIs (.ref sl) "slice" := ⟨os, hos, hcs⟩
  unfold getItem
  try with_reducible refine wpAny_holding ?_
  first | refine wpAny_bind (wpAny_pure ?_) | skip
  refine wpAny_bind (wpAny_sequenceKey ht.typeIs (by decide) ?_)
  refine wpAny_bind (wpAny_callSpecial?_slot (name := Str.ofString "__getitem__") ht.typeIs PyProof.Rows.slot_tuple_getitem
    (wpAny_call_entry PyProof.Rows.slot_tuple_getitem ht.typeIs entry_tuple_getitem ?_ (args_tuple_getitem _ _)))
  show wpAny _ _ (Builtin.Tuple.tupleItemsOf (.ref t) >>= _) _ _ s
  refine wpAny_bind (tupleItemsOf_ ht ?_)
  refine wpAny_bind (wpAny_typeOf hTs ?_)
  rw [if_pos (by decide)]
  refine wpAny_bind (cm_applied (n := items.length) hs pl pu ps ?_)
  have hno : ¬ ((((items.length : Int) - 1) == 0 && (-1 : Int) == 1 && items.length == items.toArray.size) = true) := by
    intro q
    rw [Bool.and_eq_true, Bool.and_eq_true] at q
    exact absurd q.1.2 (by decide)
  show wpAny _ _ (if (((items.length : Int) - 1) == 0 && (-1 : Int) == 1 && items.length == items.toArray.size) = true then _ else _) _ _ s
  rw [if_neg hno, cm_pick]
  first
    | exact wpAny_bind (m := Builtin.Tuple.tupleExact _) (wpAny_newObj_type (wpAny_pure ⟨_, rfl, wpAny_pure h⟩) htake)
    | exact wpAny_bind (m := Builtin.Tuple.tupleExact _) (wpAny_newObj_type (wpAny_bind (wpAny_pure (wpAny_pure ⟨_, rfl, wpAny_pure h⟩))) htake)
    | exact wpAny_bind (wpAny_bind (m := Builtin.Tuple.tupleExact _) (wpAny_newObj_type (wpAny_pure (wpAny_pure ⟨_, rfl, wpAny_pure h⟩)) htake))
    | exact wpAny_bind (wpAny_bind (m := Builtin.Tuple.tupleExact _) (wpAny_newObj_type (wpAny_pure ⟨_, rfl, wpAny_pure h⟩) htake))
end
end HT
namespace Cm
open PySem PySem.Spec PyProof.Rows PySem.W L2 SX
section
variable {X : Cx}
/-- t[::-1] -/
def tRevT (K : Frag) (te : TE) : TE := fun σ H Q => te σ H fun x H1 => ∃ a xs, x = .ref a ∧ SqT K H1 a xs ∧ ∀ p, H1 p = none → Q (.ref p) (upd H1 p (.tup xs.reverse))
theorem pe_revT {e : Expr} {te : TE} {k : Nat} {p1 p2 p3 pos : Pos} (he : PE X e te) : PE X (.Subscript e (.Slice none none (some (.UnaryOp .USub (.Constant (.int 1) k p1) p2)) p3) pos) (tRevT X.K te) := by
  refine ⟨fun pins s σ H Q I h => ?_⟩
  refine Subscript_ (thn (he.run pins s σ H _ I h) fun v s1 ⟨x, H1, I1, r1, q1⟩ => ?_)
  obtain ⟨a, xs, ex, hx, q⟩ := q1
  subst ex
  cases r1
  have hst : PO X (some (.UnaryOp .USub (.Constant (.int 1) k p1) p2)) (tPart (tUn (rU fun i => .int (-i)) (tC (.int 1)))) := po_some (pe_un un_neg pe_int)
  refine wpAny_Slice (thn (po_none.run pins s1 σ H1 (fun o H2 => o = none ∧ H2 = H1) I1 ⟨rfl, rfl⟩) fun vl s2 ⟨l, H2, I2, pl, el, e2⟩ => ?_)
  subst el e2
  refine thn (po_none.run pins s2 σ H2 (fun o H3 => o = none ∧ H3 = H2) I2 ⟨rfl, rfl⟩) fun vu s3 ⟨u, H3, I3, pu, eu, e3⟩ => ?_
  subst eu e3
  refine thn (hst.run pins s3 σ H3 (fun o H4 => o = some (-1) ∧ H4 = H3) I3 ⟨1, rfl, -1, rfl, rfl, rfl⟩) fun vs s4 ⟨o, H4, I4, ps, eo, e4⟩ => ?_
  subst eo e4
  have I5 : Inv X pins σ H4 { s4 with heap := s4.heap.push { cls := .type "slice", data := .fields #[vl, vu, vs] } } := I4.kept (t' := s4.toks) fun b ob q => Heap.get?_push_of_some _ q
  obtain ⟨its, r, ht, hz⟩ := I5.tuple hx
  have hlen := r.length
  show wpAny (model X.prog X.w) X.A (subscriptTail e (.Slice none none (some (.UnaryOp .USub (.Constant (.int 1) k p1) p2)) p3) (.ref a) (.ref s4.heap.objs.size)) (EP X pins σ Q) X.xe { s4 with heap := s4.heap.push { cls := .type "slice", data := .fields #[vl, vu, vs] } }
  refine tail_any (ops := [.ref a, .ref s4.heap.objs.size]) ht.typeIs (PyProof.Rows.slot_tuple_getitem.lookup) ?_ (by with_unfolding_all rfl)
  refine HT.cm_tuple_rev ht (Heap.IsSliceOf.new _ vl vu vs) pl pu ps ?_ (by omega)
  refine ⟨.ref _, _, I5.laid (t' := s4.toks) (o := .tup xs.reverse) (fun b ob q => Heap.get?_push_of_some _ q) (Nat.le_refl _) ?_, rfl, q _ (I5.hok.fresh (Nat.le_refl _))⟩
  exact ⟨by rw [List.length_reverse]; exact hz, _, r.reverse, IsTup.new _ _⟩
end
end Cm
namespace Cm
open PySem PySem.Spec PyProof.Rows PySem.W L2 SX
section
variable {X : Cx}
/-- t == () -/
def rEqNilT (K : Frag) : R2 := fun x y H Q => ∃ a b xs, x = .ref a ∧ y = .ref b ∧ SqT K H a xs ∧ SqT K H b [] ∧ Q (.bl xs.isEmpty) H
theorem op_eqNilT (hu : X.A.units + 64 < cLine) : OpR X (compareOp .Eq) (rEqNilT X.K) := by
  intro pins s σ H x y v u Q I rx ry h
  obtain ⟨a, b, xs, rfl, rfl, ha, hb, q⟩ := h
  cases rx
  cases ry
  obtain ⟨us, r1, p1, _⟩ := I.tuple ha
  obtain ⟨ws, r2, p2, _⟩ := I.tuple hb
  cases r2
  have e : xs.isEmpty = ((List.range (min us.toArray.size (#[] : Array Value).size)).all (fun _ => true) && us.toArray.size == (#[] : Array Value).size) := by
    cases r1 with
    | nil => rfl
    | cons h t => rw [List.size_toArray]; rfl
  rw [e] at q
  obtain ⟨⟨cls, dd, data, sl⟩, ho, hc, n, hd⟩ := id p1
  obtain ⟨⟨cls2, dd2, data2, sl2⟩, ho2, hc2, n2, hd2⟩ := id p2
  simp only at hc hd hc2 hd2
  subst hc hd hc2 hd2
  refine richCompare_meets_room (op := .Eq) ⟨_, ho, rfl⟩ ⟨_, ho2, rfl⟩ F.slot_tuple_eq F.entry_tuple_eq (F.args_tuple_eq_2 _ _) (SeqAt.tuple_eqAt a b us.toArray #[] n n2 dd dd2 sl sl2 (fun _ => true)) ?_ (by omega)
  exact ⟨ho, ho2, (fun j h1 h2 => absurd h2 (Nat.not_lt_zero j)), (fun z => nomatch z), ⟨.bl _, H, I, rfl, q⟩⟩
end
end Cm
namespace Cm
open PySem PySem.W L2 SX
/-! ### isinstance of a caught error, its class and dict told by the reading -/
def rIsEc (K : PySem.W.Frag) (D a : Addr) (cls : Value) (d : Option Addr) : List V → Hp → VK → Prop := fun xs H Q => cls = .ref D ∧ d = none ∧ rIsE K D a xs H Q
section
open PySem.Spec PyProof.Rows
variable {X : Cx} {a D : Addr} {oe : Obj} {cls : Value} {d : Option Addr} {pn : List (Addr × Obj)}
theorem call_isEc (C : ExcC X.K D) (hz : Zc cls d oe) (hf : ∃ vs, oe.data = .fields vs) : CallR (X.suite a ((a, oe) :: pn)) (.builtin "isinstance") (rIsEc X.K D a cls d) := by
  intro pins s σ H xs us Q I r h
  obtain ⟨rfl, rfl, h⟩ := h
  exact call_isE C hz hf pins s σ H xs us Q I r h
end
end Cm
/-! an error that is caught and held beyond its suite: behind the suite its place is told by what its object is -/
namespace Cm
open PySem PySem.W L2 SX
/-- an error of the class cls, with the dict d, stands at a -/
def ExcAt (a : Addr) (cls : Value) (d : Option Addr) : Heap → Prop := fun h => ∃ oe vs, h.get? a = some oe ∧ Zc cls d oe ∧ oe.data = .fields vs
def eOb (a : Addr) (cls : Value) (d : Option Addr) : HO := .ext (ExcAt a cls d)
theorem eOb_ok {P : Program} {w : World} {H : Hp} {h : Heap} {a : Addr} {cls : Value} {d : Option Addr} {oe : Obj} {vs : Array Value} (e : h.get? a = some oe) (z : Zc cls d oe) (f : oe.data = .fields vs) : ObjOk P w H h a (eOb a cls d) :=
  ⟨⟨oe, vs, e, z, f⟩, ⟨oe, e⟩, fun h1 h2 ⟨o1, v1, e1, z1, f1⟩ k => ⟨o1, v1, k _ e1, z1, f1⟩⟩
section
open PySem.Spec PyProof.Rows
variable {X : Cx} {pins : List (Addr × Obj)} {σ : L2.St} {H : Hp} {s : Shared}
/-- what was not told is told from now on -/
theorem track {a : Addr} {o : HO} (I : Inv X pins σ H s) (na : H a = none) (h0 : ∀ u, X.s_0.heap.get? a = some u → a ∈ X.ex) (nL : a ≠ X.env.locals) (nC : ∀ x c, X.env.cells.lookup x = some c → c ≠ a) (np : ∀ p ∈ X.pn ++ pins, p.1 ≠ a)
    (new : ObjOk X.prog X.w (upd H a o) s.heap a o) : Inv X pins σ (upd H a o) s where
  ok := I.ok
  os := I.os
  bare := I.bare
  base :=
    { keep := I.base.keep
      slot := I.base.slot
      free := fun b u e n hx => by
        by_cases hb : b = a
        · subst hb; exact absurd (h0 u e) hx
        · rw [upd_ne hb]; exact I.base.free b u e n hx
      there := I.base.there
      tups := fun b xs q => by rw [upd_ne (ne_of_none (I.base.tups b xs q) na)]; exact I.base.tups b xs q
      frzs := fun b u x q => by rw [upd_ne (ne_of_none (I.base.frzs b u x q) na)]; exact I.base.frzs b u x q
      tbls := fun b ps q => by
        obtain ⟨more, hm⟩ := I.base.tbls b ps q
        exact ⟨more, by rw [upd_ne (ne_of_none hm na)]; exact hm⟩ }
  loc := I.loc
  cell := I.cell
  free := by rw [upd_ne nL.symm]; exact I.free
  freeC := fun x c e => by rw [upd_ne (nC x c e)]; exact I.freeC x c e
  pin := fun p hp => by
    obtain ⟨h1, h2, h3⟩ := I.pin p hp
    exact ⟨h1, by rw [upd_ne (np p hp)]; exact h2, h3⟩
  hok := fun b u e => by
    by_cases hb : b = a
    · subst hb; rw [upd_same] at e; cases e; exact new
    · rw [upd_ne hb] at e
      exact (I.hok b u e).stay (fun _ _ _ q => q) (fun c q => by rw [upd_ne (ne_of_none q na)]; exact q) fun c xs q => by rw [upd_ne (ne_of_none q na)]; exact q
  len := I.len
/-- what the clause wishes of an error of the body: as in wAs, and behind the suite the error stays told -/
def wHold (K : PySem.W.Frag) (c : Value) (i : Nat) (ts : Addr → Value → Option Addr → TS) (Wout : WX) (D : Ends) : WX := fun cls d σ H =>
  ∃ b, PySem.W.exmOne K cls c = some b ∧ (b = true → ∀ a, H a = none → ts a cls d { nx := fun σ' H' => H' a = none → D.nx (σ'.set i none) (upd H' a (eOb a cls d)), rt := D.rt, bk := fun σ' H' => D.bk (σ'.set i none) H', ct := fun σ' H' => D.ct (σ'.set i none) H' } (σ.set i (some (.ref a))) H) ∧ (b = false → Wout cls d σ H)
variable {x n : Str} {c : Value} {i : Nat} {body suite : List Stmt} {b₀ : Stmt} {np pos pos' : Pos} {tb : WX → TS} {ts : Addr → Value → Option Addr → TS} {Wout : WX}
theorem ps_try_hold (hs : X.stack = X.env :: X.outer) (hf : X.env.frame = some X.env.locals) (hN : X.N.Nodup) (hi : X.N[i]? = some n) (hln : X.env.kindOf n = some .local) (hc : Names X x c) (tk : Takes X Wout)
    (hb : ∀ (W : WX) (pn : List (Addr × Obj)) (xe : Value → Shared → Prop), Takes (X.tr pn xe) W → PassesOwn (model X.prog X.w) X.A X.env xe → PSs (X.tr pn xe) body (tb W)) (hsu : ∀ (a : Addr) (oe : Obj) (cls : Value) (d : Option Addr) (pn : List (Addr × Obj)), Zc cls d oe → (∃ vs, oe.data = .fields vs) → PSs (X.suite a ((a, oe) :: pn)) (b₀ :: suite) (ts a cls d)) :
    PS X (.Try body [.ExceptHandler (some (.Name x np)) (some n) (b₀ :: suite) pos'] [] [] pos) (fun D σ H => tb (wHold X.K c i ts Wout D) D σ H) := by
  refine ⟨fun pins s σ H D I h => ?_⟩
  have ok := I.ok
  have frm : X.A.frames = some (X.env :: X.outer) := by rw [ok.frames, hs]
  refine wpAny_Try_except (wpAny_mono ((hb (wHold X.K c i ts Wout D) (X.pn ++ pins) (fun e s₁ => wpAny (model X.prog X.w) X.A (noteFrame e X.env) (fun _ s₂ => wpAny (model X.prog X.w) X.A (setFlight e none) (fun _ s₃ => wpAny (model X.prog X.w) X.A (handleBy e X.env [.ExceptHandler (some (.Name x np)) (some n) (b₀ :: suite) pos']) (SP X pins D) X.xe s₃) X.xe s₂) X.xe s₁) (fun u s' xx => ?_) PassesOwn.looking).run [] s σ H D (I.toTry _) h) (fun f s1 hsp => ?_) (fun e s1 he => he))
  · obtain ⟨a, B, sI, pins', σ', H', cls, d, rfl, JT, nb, up, sky, na, os, ag, b, hb1, hyes, hno⟩ := xx
    have J : Inv X pins σ' H' sI := JT.ofTry ok
    have sk : Sky B (X.env :: X.outer) a (Zc cls d) X.env.locals s'.heap := by rw [← hs]; exact sky
    show wpAny (model X.prog X.w) X.A (noteFrame (.ref a) X.env) _ _ _
    refine Sky.land Zc.steady frm hf sk fun h3 fl3 up3 => ?_
    have J3 : Inv X pins σ' H' { s' with heap := h3 } := J.landed nb fl3.1 (up.trans up3) os ag
    obtain ⟨oe3, vs3, he3, hz3, hd3⟩ := fl3.there
    have nfr : a ∉ frs (X.env :: X.outer) := fun hm => by
      obtain ⟨_, o', e', hnf⟩ := fl3.2.2.1.mem hm
      rw [he3] at e'; cases e'; exact hnf _ hd3
    have nL : a ≠ X.env.locals := fun z => nfr (List.mem_filterMap.mpr ⟨X.env, List.mem_cons_self, by rw [hf, z]⟩)
    have nF : a ∉ X.fs := fun hm => by
      obtain ⟨e, he, q⟩ := List.mem_filterMap.mp hm; exact nfr (List.mem_filterMap.mpr ⟨e, List.mem_cons_of_mem _ he, q⟩)
    have nI : ∀ u, sI.heap.get? a = some u → False := fun u e => by
      have q := nb a u e (by rw [hs]; exact nfr)
      rw [fl3.2.1] at q; cases q
    have h0 : ∀ u, X.s_0.heap.get? a = some u → a ∈ X.ex := fun u e => Classical.byContradiction fun hx => by
      obtain ⟨o', e'⟩ := J.base.there a u e hx; exact nI _ e'
    have nC : ∀ x c, X.env.cells.lookup x = some c → c ≠ a := fun x c e z => by
      obtain ⟨v, o, e', _⟩ := J.cell x c e; rw [z] at e'; exact nI _ e'
    have nP : ∀ p ∈ X.pn ++ pins, p.1 ≠ a := fun p hp z => by
      have e' := (J.pin p hp).1; rw [z] at e'; exact nI _ e'
    have S3 := J3.suite he3 hd3 na nL nF
    refine wpAny_handleBy_cons (codeAny_handlers_test ?_) (by intro q; cases q)
    have LT : PySem.W.Looks (model X.prog X.w) h3 (typeOf (.ref a)) cls := fun A Q E s k q => wpAny_typeOf_ref (k _ _ he3) (by rw [hz3.1]; exact q)
    have LM := PySem.W.exm_one (M := model X.prog X.w) (J3.kIn) LT hb1
    have test : ∀ {Q : Value → Shared → Prop} {E : Value → Shared → Prop}, Q c { s' with heap := h3 } → wpAny (model X.prog X.w) (X.A.mark (some (.ref a))) (eval (.Name x np) X.env) Q E { s' with heap := h3 } := fun {Q E} q => by
      obtain ⟨hg, hdbg, hm | ⟨hm, hv, hnn⟩⟩ := hc
      · exact ld_glob (X := X.suite a ((a, oe3) :: (X.pn ++ pins))) S3 hg hm q hdbg
      · exact ld_blt (X := X.suite a ((a, oe3) :: (X.pn ++ pins))) S3 hg hm hv q hnn hdbg
    refine test (LM.here ?_)
    cases b with
    | true =>
      refine codeAny_handlers_suite_as (HandSPX.lands_againZ fl3 fun h4 fl4 up4 => ?_)
      have J4 : Inv X pins σ' H' { s' with heap := h4 } := J.landed nb fl4.1 ((up.trans up3).trans up4) os ag
      obtain ⟨oe4, vs4, he4, hz4, hd4⟩ := fl4.there
      refine store_ok (X := X.suite a ((a, oe4) :: (X.pn ++ pins))) (v := .ref a) (J4.suite he4 hd4 na nL nF) hN hi (.inl hln) rfl (fun s5 S5 => ?_) (.inr hln)
      refine wpAny_mono ((hsu a oe4 cls d (X.pn ++ pins) hz4 ⟨_, hd4⟩).run [] s5 _ H' _ S5 (hyes rfl a na)) (fun f s6 hsp => ?_) (fun _ _ z => False.elim z)
      have tell : ∀ {σ6 : L2.St} {H6 : Hp}, Inv (X.suite a ((a, oe4) :: (X.pn ++ pins))) [] σ6 H6 s6 → H6 a = none ∧ Inv X pins σ6 (upd H6 a (eOb a cls d)) s6 := fun {σ6 H6} S6 => by
        obtain ⟨g6, n6, _⟩ := S6.pin (a, oe4) (List.mem_append_left _ List.mem_cons_self)
        exact ⟨n6, track (S6.unsuite ok) n6 h0 nL nC nP (eOb_ok g6 hz4 hd4)⟩
      cases f with
      | next =>
        obtain ⟨σ6, H6, S6, q6⟩ := hsp
        obtain ⟨n6, T6⟩ := tell S6
        exact gone_ok T6 hN hi hln fun s7 J7 => ⟨_, _, J7, q6 n6⟩
      | brk => obtain ⟨σ6, H6, S6, q6⟩ := hsp; exact gone_ok (S6.unsuite ok) hN hi hln fun s7 J7 => ⟨_, _, J7, q6⟩
      | cont => obtain ⟨σ6, H6, S6, q6⟩ := hsp; exact gone_ok (S6.unsuite ok) hN hi hln fun s7 J7 => ⟨_, _, J7, q6⟩
      | ret u => obtain ⟨v6, σ6, H6, S6, r6, q6⟩ := hsp; exact gone_ok (S6.unsuite ok) hN hi hln fun s7 J7 => ⟨_, _, _, J7, r6, q6⟩
    | false =>
      show wpAny _ X.A (handleBy (.ref a) X.env []) _ _ _
      refine wpAny_handleBy_nil ?_
      obtain ⟨_, _, _, oe, vs, T, oT, ts', he, hz, hd, h1, hr⟩ := id fl3
      unfold PySem.passOn
      refine wpAny_bind (wpAny_field he hd h1 ?_); rw [if_neg (show ¬ ((Value.ref T == Value.none) = true) from by simp)]
      have fin : wpAny (model X.prog X.w) X.A (setFlight (.ref a) X.env.frame) (fun _ s4 => wpAny (model X.prog X.w) X.A (throw (.ref a) : Sem Flow) (SP X pins D) X.xe s4) X.xe { s' with heap := h3 } := by
        rw [hf]; exact HandSPX.setFlight_upZ fl3 fun h4 hh4 up4 => wpAny_throw (tk _ _ ⟨a, B, sI, pins, σ', H', cls, d, rfl, J, nb, (up.trans up3).trans up4, .inr (.inr (by rw [hs]; exact hh4)), na, os, ag, hno rfl⟩)
      first | exact wpAny_bind (wpAny_pure (wpAny_bind fin)) | exact wpAny_bind fin
  · cases f with
    | next => obtain ⟨σ', H', J', q⟩ := hsp; exact wpAny_execs_nil ⟨σ', H', J'.ofTry ok, q⟩
    | brk => obtain ⟨σ', H', J', q⟩ := hsp; exact ⟨σ', H', J'.ofTry ok, q⟩
    | cont => obtain ⟨σ', H', J', q⟩ := hsp; exact ⟨σ', H', J'.ofTry ok, q⟩
    | ret u => obtain ⟨v, σ', H', J', r, q⟩ := hsp; exact ⟨v, σ', H', J'.ofTry ok, r, q⟩
/-! ### isinstance of an error that is held -/
end
end Cm
/-! The layer of data: tuples are values, what can change stands in a store of its own. -/
namespace DD
open PySem PySem.W L2 SX Cm
inductive DV where
  | non | bl (b : Bool) | int (i : Int) | str (z : Str) | ty (n : String) | tup (xs : List DV) | ref (a : Addr)
noncomputable instance : DecidableEq DV := fun a b => Classical.propDecidable (a = b)
mutual
inductive RV (K : Frag) (H : Hp) : V → DV → Prop
  | non : RV K H .non .non
  | bl (b : Bool) : RV K H (.bl b) (.bl b)
  | int (i : Int) : RV K H (.int i) (.int i)
  | str (z : Str) : RV K H (.str z) (.str z)
  | ty (n : String) : RV K H (.ty n) (.ty n)
  | ref (a : Addr) : RV K H (.ref a) (.ref a)
  | tup {a : Addr} {xs : List V} {ds : List DV} : SqT K H a xs → RVs K H xs ds → RV K H (.ref a) (.tup ds)
inductive RVs (K : Frag) (H : Hp) : List V → List DV → Prop
  | nil : RVs K H [] []
  | cons {v : V} {vs : List V} {d : DV} {ds : List DV} : RV K H v d → RVs K H vs ds → RVs K H (v :: vs) (d :: ds)
end
mutual
theorem RV.mono {K : Frag} {H H' : Hp} (k : TKs K H H') : ∀ {v : V} {d : DV}, RV K H v d → RV K H' v d
  | _, _, .non => .non
  | _, _, .bl b => .bl b
  | _, _, .int i => .int i
  | _, _, .str z => .str z
  | _, _, .ty n => .ty n
  | _, _, .ref a => .ref a
  | _, _, .tup h t => .tup (k _ _ h) (RVs.mono k t)
theorem RVs.mono {K : Frag} {H H' : Hp} (k : TKs K H H') : ∀ {v : List V} {d : List DV}, RVs K H v d → RVs K H' v d
  | _, _, .nil => .nil
  | _, _, .cons h t => .cons (RV.mono k h) (RVs.mono k t)
end
section
variable {K : Frag} {H H' : Hp}
theorem RVs.len : ∀ {v : List V} {d : List DV}, RVs K H v d → v.length = d.length
  | _, _, .nil => rfl
  | _, _, .cons _ t => congrArg (· + 1) (RVs.len t)
theorem RVs.append : ∀ {v v' : List V} {d d' : List DV}, RVs K H v d → RVs K H v' d' → RVs K H (v ++ v') (d ++ d')
  | _, _, _, _, .nil, h => h
  | _, _, _, _, .cons h t, h' => .cons h (RVs.append t h')
theorem RVs.get : ∀ {v : List V} {d : List DV} {i : Nat} {y : DV}, RVs K H v d → d[i]? = some y → ∃ x, v[i]? = some x ∧ RV K H x y
  | _, _, _, _, .nil, e => by simp at e
  | _, _, 0, _, .cons h t, e => by cases e; exact ⟨_, rfl, h⟩
  | _, _, i + 1, _, .cons h t, e => RVs.get (i := i) t (by simpa using e)
theorem RVs.getV : ∀ {v : List V} {d : List DV} {i : Nat} {x : V}, RVs K H v d → v[i]? = some x → ∃ y, d[i]? = some y ∧ RV K H x y
  | _, _, _, _, .nil, e => by simp at e
  | _, _, 0, _, .cons h t, e => by cases e; exact ⟨_, rfl, h⟩
  | _, _, i + 1, _, .cons h t, e => RVs.getV (i := i) t (by simpa using e)
theorem RVs.drop : ∀ (n : Nat) {v : List V} {d : List DV}, RVs K H v d → RVs K H (v.drop n) (d.drop n)
  | 0, _, _, h => h
  | _ + 1, _, _, .nil => .nil
  | n + 1, _, _, .cons _ t => RVs.drop n t
theorem RVs.take : ∀ (n : Nat) {v : List V} {d : List DV}, RVs K H v d → RVs K H (v.take n) (d.take n)
  | 0, _, _, _ => .nil
  | _ + 1, _, _, .nil => .nil
  | n + 1, _, _, .cons h t => .cons h (RVs.take n t)
theorem RVs.reverse : ∀ {v : List V} {d : List DV}, RVs K H v d → RVs K H v.reverse d.reverse
  | _, _, .nil => .nil
  | _, _, .cons h t => by rw [List.reverse_cons, List.reverse_cons]; exact (RVs.reverse t).append (.cons h .nil)
theorem RVs.set {x : V} {y : DV} (r : RV K H x y) : ∀ {v : List V} {d : List DV} (i : Nat), RVs K H v d → RVs K H (v.set i x) (d.set i y)
  | _, _, _, .nil => .nil
  | _, _, 0, .cons _ t => .cons r t
  | _, _, i + 1, .cons h t => .cons h (RVs.set r i t)
theorem RVs.dropLast : ∀ {v : List V} {d : List DV}, RVs K H v d → RVs K H v.dropLast d.dropLast
  | _, _, .nil => .nil
  | _, _, .cons h .nil => .nil
  | _, _, .cons h (.cons h' t) => .cons h (RVs.dropLast (.cons h' t))
theorem RVs.isEmpty {v : List V} {d : List DV} (h : RVs K H v d) : v.isEmpty = d.isEmpty := by cases h <;> rfl
theorem RVs.strs' : ∀ (ns : List Str), RVs K H (ns.map V.str) (ns.map DV.str)
  | [] => .nil
  | n :: r => .cons (.str n) (RVs.strs' r)
theorem RV.tupD {v : V} {ds : List DV} (h : RV K H v (.tup ds)) : ∃ a xs, v = .ref a ∧ SqT K H a xs ∧ RVs K H xs ds := by
  cases h with
  | tup a b => exact ⟨_, _, rfl, a, b⟩
end
/-! ### the store -/
inductive DO where
  | lst (xs : List DV)
  /-- a list that is only read -/
  | ro (xs : List DV)
  | dct (kvs : List (Key × DV))
  /-- a list of one number, whatever it is -/
  | cnt
  /-- a tuple kept as the object that was made -/
  | ptp (ds : List DV)
  /-- an instance of the class at C, its attributes -/
  | obj (C : Addr) (fs : List (Str × DV))
  /-- a caught error of this class -/
  | err (cls : Value)
  /-- what is true of the objects at L, the first of which it is -/
  | abs (L : List Addr) (φ : Hp → Prop)
abbrev DG := Addr → Option DO
def dupd (G : DG) (a : Addr) (o : DO) : DG := fun b => if b = a then some o else G b
theorem dupd_same {G : DG} {a : Addr} {o : DO} : dupd G a o a = some o := if_pos rfl
theorem dupd_ne {G : DG} {a b : Addr} {o : DO} (h : b ≠ a) : dupd G a o b = G b := if_neg h
theorem dupd_dupd {G : DG} {a : Addr} {o o' : DO} : dupd (dupd G a o) a o' = dupd G a o' := by
  funext b; unfold dupd; split <;> rfl
inductive KRV (K : Frag) (H : Hp) : List (Key × V) → List (Key × DV) → Prop
  | nil : KRV K H [] []
  | cons {k : Key} {v : V} {d : DV} {vs : List (Key × V)} {ds : List (Key × DV)} : RV K H v d → KRV K H vs ds → KRV K H ((k, v) :: vs) ((k, d) :: ds)
theorem KRV.mono {K : Frag} {H H' : Hp} (k : TKs K H H') {vs : List (Key × V)} {ds : List (Key × DV)} (h : KRV K H vs ds) : KRV K H' vs ds := by
  induction h with
  | nil => exact .nil
  | cons h _ ih => exact .cons (h.mono k) ih
inductive FRV (K : Frag) (H : Hp) : List (Str × V) → List (Str × DV) → Prop
  | nil : FRV K H [] []
  | cons {k : Str} {v : V} {d : DV} {vs : List (Str × V)} {ds : List (Str × DV)} : RV K H v d → FRV K H vs ds → FRV K H ((k, v) :: vs) ((k, d) :: ds)
theorem FRV.mono {K : Frag} {H H' : Hp} (k : TKs K H H') {vs : List (Str × V)} {ds : List (Str × DV)} (h : FRV K H vs ds) : FRV K H' vs ds := by
  induction h with
  | nil => exact .nil
  | cons h _ ih => exact .cons (h.mono k) ih
def OR (K : Frag) (H : Hp) (O : Addr → Option Addr) (a : Addr) : DO → Prop
  | .lst ds => ∃ xs, H a = some (.lst xs) ∧ RVs K H xs ds
  | .ro ds => ∃ xs, Rd H a (.lst xs) ∧ RVs K H xs ds
  | .dct kvs => ∃ ks, H a = some (.dK ks) ∧ KRV K H ks kvs
  | .cnt => ∃ n : Int, H a = some (.lst [.int n])
  | .ptp ds => ∃ o xs, o.dict = Option.none ∧ H a = some (.frz o (.tup xs)) ∧ RVs K H xs ds
  | .obj C fs => ∃ dx vs, H a = some (.ins C dx vs) ∧ FRV K H vs fs
  | .err cls => H a = some (eOb a cls Option.none)
  | .abs L φ => a ∈ L ∧ (∃ xs, H a = some (.lst xs)) ∧ φ H ∧ (∀ H1 H2, (∀ b ∈ L, H1 b = H2 b) → φ H1 → φ H2) ∧ ∀ b ∈ L, b ≠ a → O b = some a
/-- the store stands in the heap; O: who owns what does not stand in the store -/
structure WdO (K : Frag) (H : Hp) (O : Addr → Option Addr) (G : DG) : Prop where
  own : ∀ b a, O b = some a → G b = none ∧ ∃ xs, H b = some (.lst xs)
  ob : ∀ a o, G a = some o → OR K H O a o
def Wd (K : Frag) (H : Hp) (G : DG) : Prop := ∃ O, WdO K H O G
section
variable {K : Frag} {H H' : Hp} {G G' : DG} {O : Addr → Option Addr} {a p : Addr} {o : DO}
theorem OR.some (h : OR K H O a o) : ∃ u, H a = some u := by
  cases o with
  | lst ds => obtain ⟨xs, e, _⟩ := h; exact ⟨_, e⟩
  | ro ds =>
    obtain ⟨xs, e | ⟨o, e⟩, _⟩ := h
    · exact ⟨_, e⟩
    · exact ⟨_, e⟩
  | dct kvs => obtain ⟨xs, e, _⟩ := h; exact ⟨_, e⟩
  | cnt => obtain ⟨xs, e⟩ := h; exact ⟨_, e⟩
  | ptp ds => obtain ⟨_, _, _, e, _⟩ := h; exact ⟨_, e⟩
  | obj C fs => obtain ⟨_, _, e, _⟩ := h; exact ⟨_, e⟩
  | err cls => exact ⟨_, h⟩
  | abs L φ => obtain ⟨xs, e⟩ := h.2.1; exact ⟨_, e⟩
theorem WdO.free (w : WdO K H O G) (n : H p = none) : G p = none ∧ O p = none := by
  refine ⟨?_, ?_⟩
  · cases e : G p with
    | none => rfl
    | some o => obtain ⟨u, h⟩ := (w.ob p o e).some; rw [n] at h; cases h
  · cases e : O p with
    | none => rfl
    | some o => obtain ⟨_, xs, h⟩ := w.own p o e; rw [n] at h; cases h
theorem Wd.free (w : Wd K H G) (n : H p = none) : G p = none := by
  obtain ⟨O, w⟩ := w
  exact (w.free n).1
/-- what stays of an object where its addresses stay -/
theorem OR.keep (w : WdO K H O G) (t : TKs K H H') (e : G a = Option.some o) (h : ∀ b, (b = a ∨ O b = Option.some a) → H' b = H b) : OR K H' O a o := by
  have x := w.ob a o e
  have ha : H' a = H a := h a (.inl rfl)
  cases o with
  | lst ds => obtain ⟨xs, e, r⟩ := x; exact ⟨xs, by rw [ha]; exact e, r.mono t⟩
  | ro ds =>
    obtain ⟨xs, e | ⟨o, e⟩, r⟩ := x
    · exact ⟨xs, .inl (by rw [ha]; exact e), r.mono t⟩
    · exact ⟨xs, .inr ⟨o, by rw [ha]; exact e⟩, r.mono t⟩
  | dct kvs => obtain ⟨ks, e, r⟩ := x; exact ⟨ks, by rw [ha]; exact e, r.mono t⟩
  | cnt => obtain ⟨n, e⟩ := x; exact ⟨n, by rw [ha]; exact e⟩
  | ptp ds => obtain ⟨u, xs, d, e, r⟩ := x; exact ⟨u, xs, d, by rw [ha]; exact e, r.mono t⟩
  | obj C fs => obtain ⟨dx, vs, e, r⟩ := x; exact ⟨dx, vs, by rw [ha]; exact e, r.mono t⟩
  | err cls => show H' a = _; rw [ha]; exact x
  | abs L φ =>
    obtain ⟨m, ⟨u, hu⟩, hφ, loc, ow⟩ := x
    refine ⟨m, ⟨u, by rw [ha]; exact hu⟩, loc H H' (fun b hb => ?_) hφ, loc, ow⟩
    by_cases hba : b = a
    · rw [hba]; exact ha.symm
    · exact (h b (.inr (ow b hb hba))).symm
theorem Wd.same (w : Wd K H G) (s : Same H H') : Wd K H' G := by
  obtain ⟨O, w⟩ := w
  refine ⟨O, ⟨fun b a e => ?_, fun a o e => OR.keep w (TKs.of s) e fun b hb => ?_⟩⟩
  · obtain ⟨h1, xs, h2⟩ := w.own b a e
    exact ⟨h1, xs, s _ _ h2⟩
  · obtain ⟨u, hu⟩ : ∃ u, H b = Option.some u := by
      rcases hb with rfl | hb
      · exact (w.ob _ o e).some
      · obtain ⟨_, xs, h⟩ := w.own b a hb; exact ⟨_, h⟩
    rw [hu, s _ _ hu]
/-- less is known -/
def Sub (G G' : DG) : Prop := ∀ a o, G a = Option.some o → G' a = Option.some o
theorem Sub.refl (G : DG) : Sub G G := fun _ _ h => h
theorem Sub.trans {A B C : DG} (h : Sub A B) (g : Sub B C) : Sub A C := fun a o e => g a o (h a o e)
theorem Sub.new (h : Sub G G') (n : G p = none) : Sub G (dupd G' p o) := fun a u e => by
  rw [dupd_ne (fun z => by rw [z, n] at e; cases e)]; exact h a u e
theorem Sub.set (h : Sub G G') : Sub (dupd G p o) (dupd G' p o) := fun a u e => by
  by_cases z : a = p
  · subst z; rw [dupd_same] at e ⊢; exact e
  · rw [dupd_ne z] at e ⊢; exact h a u e
theorem Wd.sub (w : Wd K H G') (s : Sub G G') : Wd K H G := by
  obtain ⟨O, w⟩ := w
  refine ⟨O, ⟨fun b a e => ⟨?_, (w.own b a e).2⟩, fun a o e => w.ob a o (s a o e)⟩⟩
  cases h : G b with
  | none => rfl
  | some u => have := s b u h; rw [(w.own b a e).1] at this; cases this
/-- the store's object at p is changed, in the heap too -/
theorem Wd.put {o' : DO} {u' : HO} (w : Wd K H G) (hp : ∃ o, G p = Option.some o ∧ ∀ L φ, o ≠ .abs L φ) (t : TKs K H (upd H p u')) (h' : ∀ O, OR K (upd H p u') O p o') : Wd K (upd H p u') (dupd G p o') := by
  obtain ⟨O, w⟩ := w
  obtain ⟨o, ep, na⟩ := hp
  have op : O p = none := by
    cases e : O p with
    | none => rfl
    | some c => have := (w.own p c e).1; rw [ep] at this; cases this
  refine ⟨O, ⟨fun b a e => ?_, fun a o1 e => ?_⟩⟩
  · obtain ⟨h1, xs, h2⟩ := w.own b a e
    have bp : b ≠ p := fun z => by rw [z, op] at e; cases e
    exact ⟨by rw [dupd_ne bp]; exact h1, xs, by rw [upd_ne bp]; exact h2⟩
  · by_cases hap : a = p
    · subst hap
      rw [dupd_same] at e
      cases e
      exact h' O
    · rw [dupd_ne hap] at e
      exact OR.keep w t e fun b hb => upd_ne (fun z => by
        rcases hb with hb | hb
        · exact hap (hb.symm.trans z)
        · rw [z, op] at hb; cases hb)
/-- a new object -/
theorem Wd.new {u : HO} (w : Wd K H G) (n : H p = none) (h : ∀ O, OR K (upd H p u) O p o) : Wd K (upd H p u) (dupd G p o) := by
  have w' := w.same (same_new n u)
  obtain ⟨O, w⟩ := w
  have fr := w.free n
  refine ⟨O, ⟨fun b a e => ?_, fun a o1 e => ?_⟩⟩
  · obtain ⟨h1, xs, h2⟩ := w.own b a e
    have bp : b ≠ p := fun z => by rw [z, fr.2] at e; cases e
    exact ⟨by rw [dupd_ne bp]; exact h1, xs, by rw [upd_ne bp]; exact h2⟩
  · by_cases hap : a = p
    · subst hap
      rw [dupd_same] at e
      cases e
      exact h O
    · rw [dupd_ne hap] at e
      exact OR.keep w (TKs.of (same_new n u)) e fun b hb => upd_ne (fun z => by
        rcases hb with hb | hb
        · exact hap (hb.symm.trans z)
        · rw [z, fr.2] at hb; cases hb)
end
end DD
namespace DD
open PySem PySem.W L2 SX Cm
abbrev DSt := List (Option DV)
abbrev DK := DV → DG → Prop
abbrev TD := DSt → DG → DK → Prop
abbrev TDT := DSt → DG → (Bool → DG → Prop) → Prop
abbrev TDA := DSt → DG → (List DV → DG → Prop) → Prop
structure DEnds where
  nx : DSt → DG → Prop
  rt : DK
  bk : DSt → DG → Prop := fun _ _ => False
  ct : DSt → DG → Prop := fun _ _ => False
abbrev TDS := DEnds → DSt → DG → Prop
/-! ### slots -/
inductive Sl (K : Frag) (H : Hp) : St → DSt → Prop
  | nil : Sl K H [] []
  | non {σ : St} {δ : DSt} : Sl K H σ δ → Sl K H (none :: σ) (none :: δ)
  | cons {v : V} {d : DV} {σ : St} {δ : DSt} : RV K H v d → Sl K H σ δ → Sl K H (some v :: σ) (some d :: δ)
section
variable {K : Frag} {H H' : Hp}
theorem Sl.mono (k : TKs K H H') {σ : St} {δ : DSt} (h : Sl K H σ δ) : Sl K H' σ δ := by
  induction h with
  | nil => exact .nil
  | non _ ih => exact .non ih
  | cons r _ ih => exact .cons (r.mono k) ih
theorem Sl.get : ∀ {σ : St} {δ : DSt} {i : Nat} {d : DV}, Sl K H σ δ → δ[i]? = some (some d) → ∃ v, σ[i]? = some (some v) ∧ RV K H v d
  | _, _, _, _, .nil, e => by simp at e
  | _, _, 0, _, .non _, e => by simp at e
  | _, _, 0, _, .cons r _, e => by simp at e; subst e; exact ⟨_, rfl, r⟩
  | _, _, i + 1, _, .non t, e => Sl.get (i := i) t (by simpa using e)
  | _, _, i + 1, _, .cons _ t, e => Sl.get (i := i) t (by simpa using e)
theorem Sl.set {v : V} {d : DV} (r : RV K H v d) : ∀ {σ : St} {δ : DSt} (i : Nat), Sl K H σ δ → Sl K H (σ.set i (some v)) (δ.set i (some d))
  | _, _, _, .nil => .nil
  | _, _, 0, .non t => .cons r t
  | _, _, 0, .cons _ t => .cons r t
  | _, _, i + 1, .non t => .non (Sl.set r i t)
  | _, _, i + 1, .cons h t => .cons h (Sl.set r i t)
theorem Sl.unset : ∀ {σ : St} {δ : DSt} (i : Nat), Sl K H σ δ → Sl K H (σ.set i none) (δ.set i none)
  | _, _, _, .nil => .nil
  | _, _, 0, .non t => .non t
  | _, _, 0, .cons _ t => .non t
  | _, _, i + 1, .non t => .non (Sl.unset i t)
  | _, _, i + 1, .cons h t => .cons h (Sl.unset i t)
theorem RVs.atI {v : List V} {d : List DV} {i : Int} {y : DV} (h : RVs K H v d) (e : L2.atI d i = some y) : ∃ x, L2.atI v i = some x ∧ RV K H x y := by
  unfold L2.atI at *
  rw [h.len]
  cases hj : ixN d.length i with
  | none => rw [hj] at e; cases e
  | some j =>
    rw [hj] at e
    obtain ⟨x, h1, h2⟩ := h.get e
    exact ⟨x, h1, h2⟩
/-- a slice -/
def cutD {α : Type} (xs : List α) (lo hi : Option Int) : List α := (xs.drop (HT.sIx xs.length 0 lo)).take (HT.sIx xs.length xs.length hi - HT.sIx xs.length 0 lo)
theorem RVs.cut {v : List V} {d : List DV} (h : RVs K H v d) (lo hi : Option Int) : RVs K H (cutV v lo hi) (cutD d lo hi) := by
  unfold cutV cutD
  rw [h.len]
  exact (h.drop _).take _
theorem cutD_all {α : Type} {xs : List α} {lo hi : Option Int} (h : HT.sIx xs.length 0 lo = 0 ∧ HT.sIx xs.length xs.length hi = xs.length) : cutD xs lo hi = xs := by
  unfold cutD
  rw [h.1, h.2, List.drop_zero, Nat.sub_zero, List.take_length]
end
/-! ### what a reading of data says of the heap -/
def Fin (K : Frag) (H : Hp) (R : DK) (Q : VK) : Prop := ∀ d G v H', R d G → TKs K H H' → Wd K H' G → RV K H' v d → Q v H'
def up (K : Frag) (t : TD) : TE := fun σ H Q => ∃ δ G R, Sl K H σ δ ∧ Wd K H G ∧ t δ G R ∧ Fin K H R Q
def upT (K : Frag) (t : TDT) : TT := fun σ H Q => ∃ δ G R, Sl K H σ δ ∧ Wd K H G ∧ t δ G R ∧ ∀ b G' H', R b G' → TKs K H H' → Wd K H' G' → Q b H'
def upA (K : Frag) (t : TDA) : TA := fun σ H Q => ∃ δ G R, Sl K H σ δ ∧ Wd K H G ∧ t δ G R ∧ ∀ ds G' vs H', R ds G' → TKs K H H' → Wd K H' G' → RVs K H' vs ds → Q vs H'
/-- the ends of data and the ends of the heap -/
structure Links (K : Frag) (H : Hp) (D' : DEnds) (D : Ends) : Prop where
  nx : ∀ σ δ G H', D'.nx δ G → TKs K H H' → Wd K H' G → Sl K H' σ δ → D.nx σ H'
  rt : ∀ d G v H', D'.rt d G → TKs K H H' → Wd K H' G → RV K H' v d → D.rt v H'
  bk : ∀ σ δ G H', D'.bk δ G → TKs K H H' → Wd K H' G → Sl K H' σ δ → D.bk σ H'
  ct : ∀ σ δ G H', D'.ct δ G → TKs K H H' → Wd K H' G → Sl K H' σ δ → D.ct σ H'
def upS (K : Frag) (t : TDS) : TS := fun D σ H => ∃ D' δ G, Sl K H σ δ ∧ Wd K H G ∧ Links K H D' D ∧ t D' δ G
section
variable {K : Frag} {H H1 : Hp}
theorem Fin.step {R : DK} {Q : VK} (f : Fin K H R Q) (t : TKs K H H1) : Fin K H1 R Q := fun d G v H' r t' w rv => f d G v H' r (t.trans t') w rv
theorem Links.step {D' : DEnds} {D : Ends} (l : Links K H D' D) (t : TKs K H H1) : Links K H1 D' D :=
  ⟨fun σ δ G H' r t' => l.nx σ δ G H' r (t.trans t'), fun d G v H' r t' => l.rt d G v H' r (t.trans t'), fun σ δ G H' r t' => l.bk σ δ G H' r (t.trans t'), fun σ δ G H' r t' => l.ct σ δ G H' r (t.trans t')⟩
end
section
variable {X : Cx}
theorem PE_mono {e : Expr} {t t' : TE} (h : PE X e t) (i : ∀ σ H Q, t' σ H Q → t σ H Q) : PE X e t' := ⟨fun pins s σ H Q I q => h.run pins s σ H Q I (i σ H Q q)⟩
theorem PT_mono {e : Expr} {t t' : TT} (h : PT X e t) (i : ∀ σ H Q, t' σ H Q → t σ H Q) : PT X e t' := ⟨fun pins s σ H Q I q => h.run pins s σ H Q I (i σ H Q q)⟩
theorem PW_mono {e : Expr} {t t' : TT} (h : PW X e t) (i : ∀ σ H Q, t' σ H Q → t σ H Q) : PW X e t' := ⟨fun wh pins s σ H Q I q => h.run wh pins s σ H Q I (i σ H Q q)⟩
theorem PA_mono {e : List Expr} {t t' : TA} (h : PA X e t) (i : ∀ σ H Q, t' σ H Q → t σ H Q) : PA X e t' := ⟨fun pos pins s σ H Q I q => h.run pos pins s σ H Q I (i σ H Q q)⟩
theorem PS_mono {e : Stmt} {t t' : TS} (h : PS X e t) (i : ∀ D σ H, t' D σ H → t D σ H) : PS X e t' := ⟨fun pins s σ H D I q => h.run pins s σ H D I (i D σ H q)⟩
theorem PSs_mono {e : List Stmt} {t t' : TS} (h : PSs X e t) (i : ∀ D σ H, t' D σ H → t D σ H) : PSs X e t' := ⟨fun pins s σ H D I q => h.run pins s σ H D I (i D σ H q)⟩
abbrev DE (X : Cx) (e : Expr) (t : TD) : Prop := PE X e (up X.K t)
abbrev DT (X : Cx) (e : Expr) (t : TDT) : Prop := PT X e (upT X.K t)
abbrev DW (X : Cx) (e : Expr) (t : TDT) : Prop := PW X e (upT X.K t)
abbrev DA (X : Cx) (e : List Expr) (t : TDA) : Prop := PA X e (upA X.K t)
abbrev DS (X : Cx) (e : Stmt) (t : TDS) : Prop := PS X e (upS X.K t)
abbrev DSs (X : Cx) (e : List Stmt) (t : TDS) : Prop := PSs X e (upS X.K t)
/-! ### names, constants -/
def dVar (i : Nat) : TD := fun δ G Q => ∃ d, δ[i]? = some (some d) ∧ Q d G
def dC (d : DV) : TD := fun _ G Q => Q d G
theorem de_var {i : Nat} {x : Str} {pos : Pos} (hN : X.N[i]? = some x) (hv : Vis X.env.scope x) (hd : (x == ("__debug__" : Str)) = false := by decide) (hcd : (x == ("__classdict__" : Str)) = false := by decide) : DE X (.Name x pos) (dVar i) :=
  PE_mono (pe_var hN hv hd hcd) fun σ H Q ⟨δ, G, R, sl, w, ⟨d, e, r⟩, f⟩ => by
    obtain ⟨v, e', rv⟩ := sl.get e
    exact ⟨v, e', f d G v H r (TKs.refl H) w rv⟩
theorem de_c {e : Expr} {v : V} {d : DV} (h : PE X e (tC v)) (r : ∀ H, RV X.K H v d) : DE X e (dC d) :=
  PE_mono h fun σ H Q ⟨δ, G, R, sl, w, q, f⟩ => f d G v H q (TKs.refl H) w (r H)
theorem de_int {i : Int} {j pos} : DE X (.Constant (.int i) j pos) (dC (.int i)) := de_c pe_int fun _ => .int i
theorem de_bl {b : Bool} {j pos} : DE X (.Constant (.bool b) j pos) (dC (.bl b)) := de_c pe_bl fun _ => .bl b
theorem de_non {j pos} : DE X (.Constant .none j pos) (dC .non) := de_c pe_non fun _ => .non
theorem de_str {x : Str} {j pos} : DE X (.Constant (.str x) j pos) (dC (.str x)) := de_c pe_str fun _ => .str x
theorem de_gint {x : Str} {z : Int} {pos : Pos} (hm : ∃ t, X.mg x = some (.int z t)) (hg : Gl X x) (hd : (x == ("__debug__" : Str)) = false := by decide) : DE X (.Name x pos) (dC (.int z)) := by
  obtain ⟨t, hm⟩ := hm
  exact de_c (pe_glob (v := .int z) hg hm ⟨t, rfl⟩ hd) fun _ => .int z
theorem de_gref {x : Str} {a : Addr} {pos : Pos} (hm : X.mg x = some (.ref a)) (hg : Gl X x) (hd : (x == ("__debug__" : Str)) = false := by decide) : DE X (.Name x pos) (dC (.ref a)) := de_c (pe_glob (v := .ref a) hg hm rfl hd) fun _ => .ref a
theorem de_ty {x : Str} {n : String} {pos : Pos} (hm : X.mg x = none) (hg : Gl X x) (hv : bootBuiltins x = some (.type n)) (hn : x ≠ "__name__" := by decide) (hd : (x == ("__debug__" : Str)) = false := by decide) : DE X (.Name x pos) (dC (.ty n)) := de_c (pe_bltn (v := .ty n) hg hm hv rfl hn hd) fun _ => .ty n
/-! ### operators -/
abbrev D2 := DV → DV → DG → DK → Prop
def dOp (b : D2) (ta tb : TD) : TD := fun δ G Q => ta δ G fun x G1 => tb δ G1 fun y G2 => b x y G2 Q
def Ok2 (K : Frag) (r : R2) (b : D2) : Prop := ∀ x y vx vy H G R Q, RV K H vx x → RV K H vy y → Wd K H G → b x y G R → Fin K H R Q → r vx vy H Q
def OpD (X : Cx) (f : Value → Value → Sem Value) (b : D2) : Prop := ∃ r, OpR X f r ∧ Ok2 X.K r b
theorem bin_up {r : R2} {b : D2} {K : Frag} (ok : Ok2 K r b) {ta tb : TD} {σ : St} {H : Hp} {Q : VK} (h : up K (dOp b ta tb) σ H Q) : tOp r (up K ta) (up K tb) σ H Q := by
  obtain ⟨δ, G, R, sl, w, q, f⟩ := h
  exact ⟨δ, G, _, sl, w, q, fun x G1 vx H1 q1 t1 w1 r1 => ⟨δ, G1, _, sl.mono t1, w1, q1, fun y G2 vy H2 q2 t2 w2 r2 => ok x y vx vy H2 G2 R Q (r1.mono t2) r2 w2 q2 (f.step (t1.trans t2))⟩⟩
theorem de_op {op : Operator} {b : D2} {e1 e2 : Expr} {ta tb : TD} {pos : Pos} (ho : OpD X (binaryOp op) b) (ha : DE X e1 ta) (hb : DE X e2 tb) : DE X (.BinOp e1 op e2 pos) (dOp b ta tb) := by
  obtain ⟨r, hr, ok⟩ := ho
  exact PE_mono (pe_op hr ha hb) fun σ H Q h => bin_up ok h
theorem de_cmp {op : CmpOp} {b : D2} {e1 e2 : Expr} {ta tb : TD} {pos : Pos} (ho : OpD X (compareOp op) b) (ha : DE X e1 ta) (hb : DE X e2 tb) (hm : behindInMarks op e2 = false) : DE X (.Compare e1 [op] [e2] pos) (dOp b ta tb) := by
  obtain ⟨r, hr, ok⟩ := ho
  exact PE_mono (pe_cmpR hr ha hb hm) fun σ H Q h => bin_up ok h
def dTest (t : TD) : TDT := fun δ G Q => t δ G fun d G' => ∃ k, d = .bl k ∧ Q k G'
theorem test_up {K : Frag} {t : TD} {σ : St} {H : Hp} {Q : Bool → Hp → Prop} (h : upT K (dTest t) σ H Q) : up K t σ H fun x H' => ∃ k, x = .bl k ∧ Q k H' := by
  obtain ⟨δ, G, R, sl, w, q, f⟩ := h
  refine ⟨δ, G, _, sl, w, q, fun d G' v H' ⟨k, e, r⟩ t' w' rv => ?_⟩
  subst e
  cases rv
  exact ⟨k, rfl, f k G' H' r t' w'⟩
theorem dt_cmp {op : CmpOp} {b : D2} {e1 e2 : Expr} {ta tb : TD} {pos : Pos} (ho : OpD X (compareOp op) b) (ha : DE X e1 ta) (hb : DE X e2 tb) (hm : behindInMarks op e2 = false) : DT X (.Compare e1 [op] [e2] pos) (dTest (dOp b ta tb)) := by
  obtain ⟨r, hr, ok⟩ := ho
  refine PT_mono (pt_cmpR hr ha hb hm) fun σ H Q h => ?_
  have := test_up h
  exact bin_up ok this
theorem Ok2.or {K : Frag} {r r' : R2} {b : D2} (h : ∀ x y vx vy H G R Q, RV K H vx x → RV K H vy y → Wd K H G → b x y G R → Fin K H R Q → r vx vy H Q ∨ r' vx vy H Q) : Ok2 K (fun x y H Q => r x y H Q ∨ r' x y H Q) b := h
/-- sums: numbers, texts, tuples, lists -/
def bAdd : D2
  | .int i, .int j, G, Q => Q (.int (i + j)) G
  | .str a, .str b, G, Q => a.length + b.length ≤ sizeLine ∧ Q (.str (a ++ b)) G
  | .tup a, .tup b, G, Q => a.length + b.length ≤ sizeLine ∧ Q (.tup (a ++ b)) G
  | .ref p, .ref q, G, Q => ∃ xs ys, G p = some (.lst xs) ∧ G q = some (.lst ys) ∧ xs.length + ys.length ≤ sizeLine ∧ ∀ r, G r = none → Q (.ref r) (dupd G r (.lst (xs ++ ys)))
  | _, _, _, _ => False
theorem od_add : OpD X (binaryOp .Add) bAdd := by
  refine ⟨_, op_add.or (op_add_str.or (op_catA.or op_cat)), fun x y vx vy H G R Q rx ry w h f => ?_⟩
  cases rx with
  | int i =>
    cases ry with
    | int j => exact .inl ⟨i, j, rfl, rfl, f _ G _ H h (TKs.refl H) w (.int _)⟩
    | _ => exact h.elim
  | str a =>
    cases ry with
    | str b => exact .inr (.inl ⟨a, b, rfl, rfl, h.1, f _ G _ H h.2 (TKs.refl H) w (.str _)⟩)
    | _ => exact h.elim
  | tup sa ra =>
    rename_i p xs ds
    cases ry with
    | tup sb rb =>
      rename_i q ys es
      obtain ⟨hl, hq⟩ := h
      refine .inr (.inr (.inl ⟨p, q, xs, ys, rfl, rfl, sa, sb, by rw [ra.len, rb.len]; exact hl, fun e => ?_, fun _ e => ?_, fun _ _ r nr => ?_⟩))
      · subst e
        cases ra
        exact f _ G _ H hq (TKs.refl H) w (.tup sb rb)
      · subst e
        cases rb
        rw [List.append_nil] at hq
        exact f _ G _ H hq (TKs.refl H) w (.tup sa ra)
      · have s := same_new nr (.tup (xs ++ ys))
        exact f _ G _ _ hq (TKs.of s) (w.same s) (.tup (SqT.of upd_same) ((ra.append rb).mono (.of s)))
    | _ => exact h.elim
  | ref p =>
    cases ry with
    | ref q =>
      obtain ⟨xs, ys, e1, e2, hl, hq⟩ := h
      obtain ⟨O, w'⟩ := id w
      obtain ⟨us, h1, r1⟩ := w'.ob p _ e1
      obtain ⟨vs, h2, r2⟩ := w'.ob q _ e2
      refine .inr (.inr (.inr ⟨p, q, us, vs, rfl, rfl, h1, h2, by rw [r1.len, r2.len]; exact hl, fun r nr => ?_⟩))
      have s := same_new nr (.lst (us ++ vs))
      exact f _ _ _ _ (hq r (w.free nr)) (TKs.of s) (w.new nr fun O => ⟨_, upd_same, (r1.append r2).mono (.of s)⟩) (.ref r)
    | _ => exact h.elim
  | _ => exact h.elim
/-- two numbers -/
def bInt (C : Int → Int → Prop) (g : Int → Int → DV) : D2
  | .int i, .int j, G, Q => C i j ∧ Q (g i j) G
  | _, _, _, _ => False
theorem od_int {op : Operator} {C : Int → Int → Prop} {g : Int → Int → Int} (h : OpR X (binaryOp op) (rI C fun i j => .int (g i j))) : OpD X (binaryOp op) (bInt C fun i j => .int (g i j)) := by
  refine ⟨_, h, fun x y vx vy H G R Q rx ry w h f => ?_⟩
  cases rx with
  | int i =>
    cases ry with
    | int j => exact ⟨i, j, rfl, rfl, h.1, f _ G _ H h.2 (TKs.refl H) w (.int _)⟩
    | _ => exact h.elim
  | _ => exact h.elim
def bSub : D2
  | .int i, .int j, G, Q => Q (.int (i - j)) G
  | _, _, _, _ => False
theorem od_sub : OpD X (binaryOp .Sub) bSub := by
  refine ⟨_, op_sub, fun x y vx vy H G R Q rx ry w h f => ?_⟩
  cases rx with
  | int i =>
    cases ry with
    | int j => exact ⟨i, j, rfl, rfl, f _ G _ H h (TKs.refl H) w (.int _)⟩
    | _ => exact h.elim
  | _ => exact h.elim
theorem od_mul : OpD X (binaryOp .Mult) (bInt CMul fun i j => .int (i * j)) := od_int op_mul
theorem od_mod : OpD X (binaryOp .Mod) (bInt (fun _ j => 0 < j) fun i j => .int (i % j)) := od_int op_mod
theorem od_fdiv : OpD X (binaryOp .FloorDiv) (bInt CDivW fun i j => .int (i / j)) := od_int op_fdivW
theorem od_pow : OpD X (binaryOp .Pow) (bInt CPow fun i j => .int (i ^ j.toNat)) := od_int op_pow
/-- comparisons of numbers and texts -/
def bCmp (g : Int → Int → Bool) (s : List Nat → List Nat → Bool) : D2
  | .int i, .int j, G, Q => Q (.bl (g i j)) G
  | .str a, .str b, G, Q => Q (.bl (s a.cps.toList b.cps.toList)) G
  | _, _, _, _ => False
theorem od_cmp {op : CmpOp} {g : Int → Int → Bool} {s : List Nat → List Nat → Bool} (h : OpR X (compareOp op) (rI0 fun i j => .bl (g i j))) (h' : OpR X (compareOp op) (fun x y H Q => ∃ i j, x = .str i ∧ y = .str j ∧ Q (.bl (s i.cps.toList j.cps.toList)) H)) : OpD X (compareOp op) (bCmp g s) := by
  refine ⟨_, h.or h', fun x y vx vy H G R Q rx ry w h f => ?_⟩
  cases rx with
  | int i =>
    cases ry with
    | int j => exact .inl ⟨i, j, rfl, rfl, f _ G _ H h (TKs.refl H) w (.bl _)⟩
    | _ => exact h.elim
  | str i =>
    cases ry with
    | str j => exact .inr ⟨i, j, rfl, rfl, f _ G _ H h (TKs.refl H) w (.bl _)⟩
    | _ => exact h.elim
  | _ => exact h.elim
theorem od_lt : OpD X (compareOp .Lt) (bCmp (fun i j => decide (i < j)) fun a b => decide (a < b)) := od_cmp op_lt op_lt_str
theorem od_gt : OpD X (compareOp .Gt) (bCmp (fun i j => decide (j < i)) fun a b => decide (b < a)) := od_cmp op_gt op_gt_str
/-- is None, is True .. -/
def bIs (neg : Bool) : D2
  | x, .non, G, Q => Q (.bl (if neg then !decide (x = .non) else decide (x = .non))) G
  | .bl a, .bl b, G, Q => Q (.bl (if neg then !decide (a = b) else decide (a = b))) G
  | _, _, _, _ => False
theorem non_iff {K : Frag} {H : Hp} {v : V} {d : DV} (r : RV K H v d) : decide (v = .non) = decide (d = .non) := by
  cases r with
  | non => rw [decide_eq_true rfl, decide_eq_true rfl]
  | _ => rw [decide_eq_false (by intro z; cases z), decide_eq_false (by intro z; cases z)]
theorem od_is : OpD X (compareOp .Is) (bIs false) := by
  refine ⟨_, op_isN.or op_is_bl, fun x y vx vy H G R Q rx ry w h f => ?_⟩
  cases ry with
  | non =>
    refine .inl ⟨rfl, ?_⟩
    rw [non_iff rx]
    cases rx <;> exact f _ G _ H h (TKs.refl H) w (.bl _)
  | bl b =>
    cases rx with
    | bl a => exact .inr ⟨a, b, rfl, rfl, f _ G _ H h (TKs.refl H) w (.bl _)⟩
    | _ => exact h.elim
  | _ => cases rx <;> exact h.elim
end
end DD
namespace Cm
open PySem PySem.W L2 SX PySem.Spec PyProof.Rows
end Cm
namespace DD
open PySem PySem.W L2 SX Cm
/-! ### data as the comparisons see it -/
mutual
def dat : DV → PyData
  | .non => .none
  | .bl b => .bool b
  | .int i => .int i
  | .str z => .str z
  | .tup ds => .tuple (dats ds)
  | .ref _ => .none
  | .ty _ => .none
def dats : List DV → List PyData
  | [] => []
  | d :: r => dat d :: dats r
end
mutual
/-- no reference and no type within -/
def pure_ : DV → Bool
  | .ref _ => false
  | .ty _ => false
  | .tup ds => pures ds
  | _ => true
def pures : List DV → Bool
  | [] => true
  | d :: r => pure_ d && pures r
end
mutual
/-- nor a truth -/
def plain : DV → Bool
  | .ref _ => false
  | .ty _ => false
  | .bl _ => false
  | .tup ds => plains ds
  | _ => true
def plains : List DV → Bool
  | [] => true
  | d :: r => plain d && plains r
end
mutual
theorem plain_pure : ∀ d : DV, plain d = true → pure_ d = true
  | .non, _ => rfl
  | .int _, _ => rfl
  | .str _, _ => rfl
  | .tup ds, h => plains_pure ds h
  | .bl _, h => rfl
  | .ref _, h => h
  | .ty _, h => h
theorem plains_pure : ∀ ds : List DV, plains ds = true → pures ds = true
  | [], _ => rfl
  | d :: r, h => by
    have h' : (plain d && plains r) = true := h
    rw [Bool.and_eq_true] at h'
    show (pure_ d && pures r) = true
    rw [plain_pure d h'.1, plains_pure r h'.2]; rfl
end
mutual
theorem eqv_plain : ∀ x y : DV, plain x = true → plain y = true → PyData.eqv (dat x) (dat y) = decide (x = y)
  | .non, .non, _, _ => (decide_eq_true rfl).symm
  | .int i, .int j, _, _ => by
    show (i == j) = _
    by_cases h : i = j
    · rw [h, decide_eq_true rfl, beq_self_eq_true]
    · rw [decide_eq_false (fun z => h (DV.int.inj z)), beq_eq_false_iff_ne.mpr h]
  | .str i, .str j, _, _ => by
    show (i == j) = _
    by_cases h : i = j
    · rw [h, decide_eq_true rfl, beq_self_eq_true]
    · rw [decide_eq_false (fun z => h (DV.str.inj z)), beq_eq_false_iff_ne.mpr h]
  | .tup a, .tup b, h, g => by
    show PyData.eqvAll (dats a) (dats b) = _
    rw [eqvs_plain a b h g]
    by_cases e : a = b
    · rw [e, decide_eq_true rfl, decide_eq_true rfl]
    · rw [decide_eq_false e, decide_eq_false (fun z => e (DV.tup.inj z))]
  | .non, .int _, _, _ => (decide_eq_false (by intro z; cases z)).symm
  | .non, .str _, _, _ => (decide_eq_false (by intro z; cases z)).symm
  | .non, .tup _, _, _ => (decide_eq_false (by intro z; cases z)).symm
  | .int _, .non, _, _ => (decide_eq_false (by intro z; cases z)).symm
  | .int _, .str _, _, _ => (decide_eq_false (by intro z; cases z)).symm
  | .int _, .tup _, _, _ => (decide_eq_false (by intro z; cases z)).symm
  | .str _, .non, _, _ => (decide_eq_false (by intro z; cases z)).symm
  | .str _, .int _, _, _ => (decide_eq_false (by intro z; cases z)).symm
  | .str _, .tup _, _, _ => (decide_eq_false (by intro z; cases z)).symm
  | .tup _, .non, _, _ => (decide_eq_false (by intro z; cases z)).symm
  | .tup _, .int _, _, _ => (decide_eq_false (by intro z; cases z)).symm
  | .tup _, .str _, _, _ => (decide_eq_false (by intro z; cases z)).symm
theorem eqvs_plain : ∀ x y : List DV, plains x = true → plains y = true → PyData.eqvAll (dats x) (dats y) = decide (x = y)
  | [], [], _, _ => (decide_eq_true rfl).symm
  | [], _ :: _, _, _ => (decide_eq_false (by intro z; cases z)).symm
  | _ :: _, [], _, _ => (decide_eq_false (by intro z; cases z)).symm
  | a :: r, b :: s, h, g => by
    have h' : (plain a && plains r) = true := h
    have g' : (plain b && plains s) = true := g
    rw [Bool.and_eq_true] at h' g'
    show (PyData.eqv (dat a) (dat b) && PyData.eqvAll (dats r) (dats s)) = _
    rw [eqv_plain a b h'.1 g'.1, eqvs_plain r s h'.2 g'.2]
    by_cases e : a = b
    · by_cases e' : r = s
      · rw [decide_eq_true e, decide_eq_true e', decide_eq_true (by rw [e, e'])]; rfl
      · rw [decide_eq_false e', Bool.and_false, decide_eq_false (fun z => e' (List.cons.inj z).2)]
    · rw [decide_eq_false e, Bool.false_and, decide_eq_false (fun z => e (List.cons.inj z).1)]
end
mutual
theorem RV.dp {K : Frag} {H : Hp} : ∀ {v : V} {d : DV}, RV K H v d → pure_ d = true → Dp K H v (dat d)
  | _, _, .non, _ => .non
  | _, _, .bl b, _ => .bl b
  | _, _, .int i, _ => .int i
  | _, _, .str z, _ => .str z
  | _, _, .ty n, h => by cases h
  | _, _, .ref a, h => by cases h
  | _, _, .tup s t, h => .tup s (RVs.dp t h)
theorem RVs.dp {K : Frag} {H : Hp} : ∀ {v : List V} {d : List DV}, RVs K H v d → pures d = true → DpAll K H v (dats d)
  | _, _, .nil, _ => .nil
  | _, _, .cons (d := d) (ds := ds) h t, g => by
    have g' : (pure_ d && pures ds) = true := g
    rw [Bool.and_eq_true] at g'
    exact .cons (RV.dp h g'.1) (RVs.dp t g'.2)
end
mutual
/-- how deep -/
def dpt : DV → Nat
  | .tup ds => 1 + dpts ds
  | _ => 0
def dpts : List DV → Nat
  | [] => 0
  | d :: r => max (dpt d) (dpts r)
end
mutual
/-- its texts are texts -/
def txB : DV → Bool
  | .str z => PyData.strOk z
  | .tup ds => txBs ds
  | _ => true
def txBs : List DV → Bool
  | [] => true
  | d :: r => txB d && txBs r
end
mutual
theorem lay_dat : ∀ d : DV, txB d = true → PyData.canLay0 (dat d) = true ∧ PyData.depth (dat d) ≤ dpt d
  | .non, _ => ⟨by simp only [dat, PyData.canLay0], by simp only [dat, PyData.depth]; exact Nat.zero_le _⟩
  | .bl _, _ => ⟨by simp only [dat, PyData.canLay0], by simp only [dat, PyData.depth]; exact Nat.zero_le _⟩
  | .int _, _ => ⟨by simp only [dat, PyData.canLay0], by simp only [dat, PyData.depth]; exact Nat.zero_le _⟩
  | .ref _, _ => ⟨by simp only [dat, PyData.canLay0], by simp only [dat, PyData.depth]; exact Nat.zero_le _⟩
  | .ty _, _ => ⟨by simp only [dat, PyData.canLay0], by simp only [dat, PyData.depth]; exact Nat.zero_le _⟩
  | .str z, h => ⟨by simp only [dat, PyData.canLay0]; exact h, by simp only [dat, PyData.depth]; exact Nat.zero_le _⟩
  | .tup ds, h => by
    obtain ⟨a, b⟩ := lays_dat ds h
    refine ⟨by simp only [dat, PyData.canLay0]; exact a, ?_⟩
    simp only [dat, PyData.depth, dpt]
    omega
theorem lays_dat : ∀ ds : List DV, txBs ds = true → PyData.canLayAll0 (dats ds) = true ∧ PyData.depthAll (dats ds) ≤ dpts ds
  | [], _ => ⟨by simp only [dats, PyData.canLayAll0], by simp only [dats, PyData.depthAll]; exact Nat.zero_le _⟩
  | d :: r, h => by
    have h' : (txB d && txBs r) = true := h
    rw [Bool.and_eq_true] at h'
    obtain ⟨a, b⟩ := lay_dat d h'.1
    obtain ⟨a', b'⟩ := lays_dat r h'.2
    refine ⟨by simp only [dats, PyData.canLayAll0, a, a']; rfl, ?_⟩
    simp only [dats, PyData.depthAll, dpts]
    omega
end
theorem shp {d : DV} (h : txB d = true) (l : dpt d ≤ 60) : SeqAt.shaped (dat d) = true := by
  obtain ⟨a, b⟩ := lay_dat d h
  unfold SeqAt.shaped
  rw [a, decide_eq_true (show (dat d).depth ≤ 64 by omega)]; rfl
theorem shpL {ds : List DV} (h : txBs ds = true) (l : dpts ds ≤ 60) : SeqAt.shaped (.list (dats ds)) = true := by
  obtain ⟨a, b⟩ := lays_dat ds h
  have e : (PyData.list (dats ds)).depth ≤ 64 := by simp only [PyData.depth]; omega
  unfold SeqAt.shaped
  rw [decide_eq_true e, Bool.and_true]
  simp only [PyData.canLay0]; exact a
/-- what can be compared -/
structure Cmp (d : DV) : Prop where
  pu : pure_ d = true
  tx : txB d = true
  dp : dpt d ≤ 60
structure Cmps (ds : List DV) : Prop where
  pu : pures ds = true
  tx : txBs ds = true
  dp : dpts ds ≤ 60
theorem shpT {ds : List DV} (c : Cmps ds) : SeqAt.shaped (.tuple (dats ds)) = true := by
  obtain ⟨a, b⟩ := lays_dat ds c.tx
  have l := c.dp
  have e : (PyData.tuple (dats ds)).depth ≤ 64 := by simp only [PyData.depth]; omega
  unfold SeqAt.shaped
  rw [decide_eq_true e, Bool.and_true]
  simp only [PyData.canLay0]; exact a
section
variable {X : Cx}
theorem wd_list {K : Frag} {H : Hp} {G : DG} {p : Addr} {ds : List DV} (w : Wd K H G) (e : G p = some (.lst ds)) : ∃ xs, H p = some (.lst xs) ∧ RVs K H xs ds := by
  obtain ⟨O, w⟩ := w
  exact w.ob p _ e
/-- a list that can be read -/
def Ls (G : DG) (p : Addr) (ds : List DV) : Prop := G p = some (.lst ds) ∨ G p = some (.ro ds)
theorem wd_seq {K : Frag} {H : Hp} {G : DG} {p : Addr} {ds : List DV} (w : Wd K H G) (e : Ls G p ds) : ∃ xs, SqL K H p xs ∧ RVs K H xs ds := by
  obtain ⟨O, w⟩ := w
  rcases e with e | e
  · obtain ⟨xs, h, r⟩ := w.ob p _ e
    exact ⟨xs, SqL.of h, r⟩
  · obtain ⟨xs, h, r⟩ := w.ob p _ e
    exact ⟨xs, .inl h, r⟩
/-- not, where n -/
def ng : Bool → Bool → Bool
  | true, b => !b
  | false, b => b
/-- == and != (n: !=) -/
def bEq (n : Bool) : D2
  | .str a, .str b, G, Q => Q (.bl (ng n (decide (a = b)))) G
  | .int a, .int b, G, Q => Q (.bl (ng n (decide (a = b)))) G
  | .bl a, .bl b, G, Q => Q (.bl (ng n (decide (a = b)))) G
  | .str a, .non, G, Q => Q (.bl n) G
  | .int a, .non, G, Q => Q (.bl n) G
  | .str a, .int b, G, Q => Q (.bl n) G
  | .int a, .str b, G, Q => Q (.bl n) G
  | .bl a, .str b, G, Q => Q (.bl n) G
  | .non, .str b, G, Q => Q (.bl n) G
  | .ref p, .ref q, G, Q => ∃ xs ys, Ls G p xs ∧ Ls G q ys ∧ ((n = false ∧ ys = [] ∧ Q (.bl xs.isEmpty) G) ∨ (Cmps xs ∧ Cmps ys ∧ Q (.bl (ng n (PyData.eqvAll (dats xs) (dats ys)))) G))
  | .tup a, .tup b, G, Q => (n = false ∧ b = [] ∧ Q (.bl a.isEmpty) G) ∨ (Cmps a ∧ Cmps b ∧ Q (.bl (ng n (PyData.eqvAll (dats a) (dats b)))) G)
  | x, y, G, Q => Cmp x ∧ Cmp y ∧ Q (.bl (ng n (PyData.eqv (dat x) (dat y)))) G
theorem dV_str (a b : Str) : decide (V.str a = V.str b) = decide (a = b) := by
  by_cases e : a = b
  · rw [decide_eq_true e, decide_eq_true (by rw [e])]
  · rw [decide_eq_false e, decide_eq_false (fun z => e (V.str.inj z))]
theorem dV_int (a b : Int) : decide (V.int a = V.int b) = decide (a = b) := by
  by_cases e : a = b
  · rw [decide_eq_true e, decide_eq_true (by rw [e])]
  · rw [decide_eq_false e, decide_eq_false (fun z => e (V.int.inj z))]
theorem dV_bl (a b : Bool) : decide (V.bl a = V.bl b) = decide (a = b) := by
  by_cases e : a = b
  · rw [decide_eq_true e, decide_eq_true (by rw [e])]
  · rw [decide_eq_false e, decide_eq_false (fun z => e (V.bl.inj z))]
theorem flat_up {K : Frag} {H : Hp} {G : DG} {R : DK} {Q : VK} {b : Bool} (w : Wd K H G) (f : Fin K H R Q) (h : R (.bl b) G) : Q (.bl b) H := f _ G _ H h (TKs.refl H) w (.bl b)
theorem od_eq (hu : X.A.units + 64 < cLine) : OpD X (compareOp .Eq) (bEq false) := by
  refine ⟨_, op_eq.or ((op_eqNil hu).or ((op_eqNilT hu).or (op_eqD hu))), fun x y vx vy H G R Q rx ry w h f => ?_⟩
  have gen : (Cmp x ∧ Cmp y ∧ R (.bl (ng false (PyData.eqv (dat x) (dat y)))) G) → (rEq vx vy H Q ∨ rEqNil X.K vx vy H Q ∨ rEqNilT X.K vx vy H Q ∨ rEqD X.K vx vy H Q) := fun ⟨c1, c2, q⟩ =>
    .inr (.inr (.inr ⟨_, _, rx.dp c1.pu, ry.dp c2.pu, shp c1.tx c1.dp, shp c2.tx c2.dp, flat_up w f q⟩))
  have no : decide (vx = vy) = false → scal vx vy = true → R (.bl false) G → (rEq vx vy H Q ∨ rEqNil X.K vx vy H Q ∨ rEqNilT X.K vx vy H Q ∨ rEqD X.K vx vy H Q) := fun e s q => .inl ⟨s, by rw [e]; exact flat_up w f q⟩
  cases rx with
  | str a =>
    cases ry with
    | str b => exact .inl ⟨rfl, by rw [dV_str]; exact flat_up w f h⟩
    | non => exact no (decide_eq_false (by intro z; cases z)) rfl h
    | int b => exact no (decide_eq_false (by intro z; cases z)) rfl h
    | _ => exact gen h
  | int a =>
    cases ry with
    | int b => exact .inl ⟨rfl, by rw [dV_int]; exact flat_up w f h⟩
    | non => exact no (decide_eq_false (by intro z; cases z)) rfl h
    | str b => exact no (decide_eq_false (by intro z; cases z)) rfl h
    | _ => exact gen h
  | bl a =>
    cases ry with
    | bl b => exact .inl ⟨rfl, by rw [dV_bl]; exact flat_up w f h⟩
    | str b => exact no (decide_eq_false (by intro z; cases z)) rfl h
    | _ => exact gen h
  | non =>
    cases ry with
    | str b => exact no (decide_eq_false (by intro z; cases z)) rfl h
    | _ => exact gen h
  | ty n => cases ry <;> exact gen h
  | tup s r =>
    cases ry with
    | tup s' r' =>
      rcases h with ⟨_, e, q⟩ | ⟨c1, c2, q⟩
      · subst e
        cases r'
        exact .inr (.inr (.inl ⟨_, _, _, rfl, rfl, s, s', by rw [r.isEmpty]; exact flat_up w f q⟩))
      · exact .inr (.inr (.inr ⟨_, _, .tup s (r.dp c1.pu), .tup s' (r'.dp c2.pu), shpT c1, shpT c2, flat_up w f q⟩))
    | _ => exact gen h
  | ref p =>
    cases ry with
    | ref q =>
      obtain ⟨xs, ys, l1, l2, ⟨_, e, q⟩ | ⟨c1, c2, q⟩⟩ := h
      · obtain ⟨us, h1, r1⟩ := wd_seq w l1
        obtain ⟨vs, h2, r2⟩ := wd_seq w l2
        subst e
        cases r2
        exact .inr (.inl ⟨_, _, _, rfl, rfl, h1, h2, by rw [r1.isEmpty]; exact flat_up w f q⟩)
      · obtain ⟨us, h1, r1⟩ := wd_seq w l1
        obtain ⟨vs, h2, r2⟩ := wd_seq w l2
        exact .inr (.inr (.inr ⟨_, _, .lst h1 (r1.dp c1.pu), .lst h2 (r2.dp c2.pu), shpL c1.tx c1.dp, shpL c2.tx c2.dp, flat_up w f q⟩))
    | _ => exact gen h
theorem od_ne (hu : X.A.units + 64 < cLine) : OpD X (compareOp .NotEq) (bEq true) := by
  refine ⟨_, op_ne.or (op_neD hu), fun x y vx vy H G R Q rx ry w h f => ?_⟩
  have gen : (Cmp x ∧ Cmp y ∧ R (.bl (ng true (PyData.eqv (dat x) (dat y)))) G) → (rNe vx vy H Q ∨ rNeD X.K vx vy H Q) := fun ⟨c1, c2, q⟩ =>
    .inr ⟨_, _, rx.dp c1.pu, ry.dp c2.pu, shp c1.tx c1.dp, shp c2.tx c2.dp, flat_up w f q⟩
  have no : decide (vx = vy) = false → scal vx vy = true → R (.bl true) G → (rNe vx vy H Q ∨ rNeD X.K vx vy H Q) := fun e s q => .inl ⟨s, by rw [e]; exact flat_up w f q⟩
  cases rx with
  | str a =>
    cases ry with
    | str b => exact .inl ⟨rfl, by rw [dV_str]; exact flat_up w f h⟩
    | non => exact no (decide_eq_false (by intro z; cases z)) rfl h
    | int b => exact no (decide_eq_false (by intro z; cases z)) rfl h
    | _ => exact gen h
  | int a =>
    cases ry with
    | int b => exact .inl ⟨rfl, by rw [dV_int]; exact flat_up w f h⟩
    | non => exact no (decide_eq_false (by intro z; cases z)) rfl h
    | str b => exact no (decide_eq_false (by intro z; cases z)) rfl h
    | _ => exact gen h
  | bl a =>
    cases ry with
    | bl b => exact .inl ⟨rfl, by rw [dV_bl]; exact flat_up w f h⟩
    | str b => exact no (decide_eq_false (by intro z; cases z)) rfl h
    | _ => exact gen h
  | non =>
    cases ry with
    | str b => exact no (decide_eq_false (by intro z; cases z)) rfl h
    | _ => exact gen h
  | ty n => cases ry <;> exact gen h
  | tup s r =>
    cases ry with
    | tup s' r' =>
      rcases h with ⟨e, _⟩ | ⟨c1, c2, q⟩
      · cases e
      · exact .inr ⟨_, _, .tup s (r.dp c1.pu), .tup s' (r'.dp c2.pu), shpT c1, shpT c2, flat_up w f q⟩
    | _ => exact gen h
  | ref p =>
    cases ry with
    | ref q =>
      obtain ⟨xs, ys, l1, l2, ⟨e, _⟩ | ⟨c1, c2, q⟩⟩ := h
      · cases e
      · obtain ⟨us, h1, r1⟩ := wd_seq w l1
        obtain ⟨vs, h2, r2⟩ := wd_seq w l2
        exact .inr ⟨_, _, .lst h1 (r1.dp c1.pu), .lst h2 (r2.dp c2.pu), shpL c1.tx c1.dp, shpL c2.tx c2.dp, flat_up w f q⟩
    | _ => exact gen h
/-! ### in -/
def toV : DV → V
  | .non => .non
  | .bl b => .bl b
  | .int i => .int i
  | .str z => .str z
  | _ => .ref 0
def flatD : DV → Bool
  | .non => true
  | .bl _ => true
  | .int _ => true
  | .str _ => true
  | _ => false
def inD (x : DV) (ds : List DV) : Bool := inV (toV x) (ds.map toV)
def bIn (n : Bool) : D2
  | .str a, .str b, G, Q => ∃ c, a = ⟨#[c]⟩ ∧ Q (.bl (ng n (decide (c ∈ b.cps.toList)))) G
  | x, .tup ds, G, Q => flatD x = true ∧ ds.all flatD = true ∧ Q (.bl (ng n (inD x ds))) G
  | x, .ref p, G, Q => ∃ ds, Ls G p ds ∧ flatD x = true ∧ ds.all flatD = true ∧ Q (.bl (ng n (inD x ds))) G
  | _, _, _, _ => False
end
end DD
namespace DD
open PySem PySem.W L2 SX Cm
section
variable {X : Cx}
/-! ### x[i] -/
def bIx : D2
  | .tup ds, .int i, G, Q => ∃ d, atI ds i = some d ∧ Q d G
  | .str z, .int i, G, Q => z.length ≤ sizeLine ∧ ∃ c, atI z.cps.toList i = some c ∧ Q (.str ⟨#[c]⟩) G
  | .ref p, .int i, G, Q => (∃ ds d, Ls G p ds ∧ atI ds i = some d ∧ Q d G) ∨ (G p = some .cnt ∧ i = 0 ∧ ∀ n, Q (.int n) G)
  | _, _, _, _ => False
theorem de_ix {e1 e2 : Expr} {ta tb : TD} {pos : Pos} (ha : DE X e1 ta) (hb : DE X e2 tb) (hs : PlainIx e2 := by exact fun _ _ => rfl) : DE X (.Subscript e1 e2 pos) (dOp bIx ta tb) := by
  refine PE_mono (pe_ix (ix_seq (X := X)) ha hb hs) fun σ H Q h => bin_up (r := rIx X.K) (fun x y vx vy H G R Q rx ry w h f => ?_) h
  cases ry with
  | int i =>
    cases rx with
    | tup s r =>
      obtain ⟨d, e, q⟩ := h
      obtain ⟨v, e', rv⟩ := r.atI e
      exact .inr (.inl ⟨_, _, i, v, rfl, rfl, s, e', f _ G _ H q (TKs.refl H) w rv⟩)
    | str z =>
      obtain ⟨hl, c, e, q⟩ := h
      exact .inr (.inr ⟨z, i, c, rfl, rfl, hl, e, f _ G _ H q (TKs.refl H) w (.str _)⟩)
    | ref p =>
      rcases h with ⟨ds, d, l, e, q⟩ | ⟨l, rfl, q⟩
      · obtain ⟨us, hs, r⟩ := wd_seq w l
        obtain ⟨v, e', rv⟩ := r.atI e
        exact .inl ⟨p, us, i, v, rfl, rfl, hs, e', f _ G _ H q (TKs.refl H) w rv⟩
      · obtain ⟨O, w'⟩ := id w
        obtain ⟨n, hn⟩ := w'.ob p _ l
        exact .inl ⟨p, _, 0, .int n, rfl, rfl, SqL.of hn, atI_nat (j := 0) rfl, f _ G _ H (q n) (TKs.refl H) w (.int n)⟩
    | _ => exact h.elim
  | _ => cases rx <;> exact h.elim
/-! ### slices -/
abbrev TDO := DSt → DG → (Option Int → DG → Prop) → Prop
def upO (K : Frag) (t : TDO) : TO := fun σ H Q => ∃ δ G R, Sl K H σ δ ∧ Wd K H G ∧ t δ G R ∧ ∀ o G' H', R o G' → TKs K H H' → Wd K H' G' → Q o H'
abbrev DO_ (X : Cx) (e : Option Expr) (t : TDO) : Prop := PO X e (upO X.K t)
theorem PO_mono {e : Option Expr} {t t' : TO} (h : PO X e t) (i : ∀ σ H Q, t' σ H Q → t σ H Q) : PO X e t' := ⟨fun pins s σ H Q I q => h.run pins s σ H Q I (i σ H Q q)⟩
def dNone : TDO := fun _ G Q => Q none G
def dSome (t : TD) : TDO := fun δ G Q => t δ G fun d G' => ∃ i, d = .int i ∧ Q (some i) G'
theorem do_none : DO_ X none dNone := PO_mono po_none fun σ H Q ⟨δ, G, R, sl, w, q, f⟩ => f _ G H q (TKs.refl H) w
theorem do_some {e : Expr} {t : TD} (h : DE X e t) : DO_ X (some e) (dSome t) := PO_mono (po_some h) fun σ H Q ⟨δ, G, R, sl, w, q, f⟩ =>
  ⟨δ, G, _, sl, w, q, fun d G' v H' ⟨i, e, q⟩ t' w' rv => by subst e; cases rv; exact ⟨i, rfl, f _ G' H' q t' w'⟩⟩
def bSl : DV → Option Int → Option Int → DG → DK → Prop
  | .tup ds, lo, hi, G, Q => Q (.tup (cutD ds lo hi)) G
  | .str z, lo, hi, G, Q => z.length ≤ sizeLine ∧ Q (.str (cutS z lo hi)) G
  | .ref p, lo, hi, G, Q => ∃ ds, Ls G p ds ∧ ∀ r, G r = none → Q (.ref r) (dupd G r (.lst (cutD ds lo hi)))
  | _, _, _, _, _ => False
def dSl (te : TD) (tl th : TDO) : TD := fun δ G Q => te δ G fun x G1 => tl δ G1 fun l G2 => th δ G2 fun u G3 => bSl x l u G3 Q
theorem de_slice {e : Expr} {lo hi : Option Expr} {te : TD} {tl th : TDO} {p2 pos : Pos} (he : DE X e te) (hl : DO_ X lo tl) (hu : DO_ X hi th) : DE X (.Subscript e (.Slice lo hi none p2) pos) (dSl te tl th) := by
  refine PE_mono (pe_slice (sl_tupA.or (sl_str.or sl_list)) he hl hu) fun σ H Q ⟨δ, G, R, sl, w, q, f⟩ => ?_
  refine ⟨δ, G, _, sl, w, q, fun x G1 vx H1 q1 t1 w1 r1 => ⟨δ, G1, _, sl.mono t1, w1, q1, fun l G2 H2 q2 t2 w2 => ⟨δ, G2, _, sl.mono (t1.trans t2), w2, q2, fun u G3 H3 h t3 w => ?_⟩⟩⟩
  have f := f.step ((t1.trans t2).trans t3)
  have rx := r1.mono (t2.trans t3)
  cases rx with
  | tup s r =>
    rename_i a xs ds
    refine .inl ⟨_, _, rfl, s, fun e => ?_, fun _ p np => ?_⟩
    · rw [r.len] at e
      have h : R (.tup (cutD ds l u)) G3 := h
      rw [cutD_all e] at h
      exact f _ _ _ _ h (TKs.refl _) w (.tup s r)
    · have s' := same_new np (.tup (cutV xs l u))
      exact f _ _ _ _ h (TKs.of s') (w.same s') (.tup (SqT.of upd_same) ((r.cut l u).mono (.of s')))
  | str z => exact .inr (.inl ⟨z, rfl, h.1, f _ _ _ _ h.2 (TKs.refl _) w (.str _)⟩)
  | ref p =>
    obtain ⟨ds, ls, q⟩ := h
    obtain ⟨us, hs, r⟩ := wd_seq w ls
    refine .inr (.inr ⟨p, us, rfl, hs, fun r' nr => ?_⟩)
    have s' := same_new nr (.lst (cutV us l u))
    exact f _ _ _ _ (q r' (w.free nr)) (TKs.of s') (w.new nr fun O => ⟨_, upd_same, (r.cut l u).mono (.of s')⟩) (.ref r')
  | _ => exact h.elim
/-- t[::-1] -/
def dRev (te : TD) : TD := fun δ G Q => te δ G fun x G1 => ∃ ds, x = .tup ds ∧ Q (.tup ds.reverse) G1
theorem de_revT {e : Expr} {te : TD} {k : Nat} {p1 p2 p3 pos : Pos} (he : DE X e te) : DE X (.Subscript e (.Slice none none (some (.UnaryOp .USub (.Constant (.int 1) k p1) p2)) p3) pos) (dRev te) := by
  refine PE_mono (pe_revT he) fun σ H Q ⟨δ, G, R, sl, w, q, f⟩ => ⟨δ, G, _, sl, w, q, fun x G1 vx H1 q1 t1 w1 r1 => ?_⟩
  obtain ⟨ds, rfl, q⟩ := q1
  obtain ⟨a, xs, rfl, s, r⟩ := r1.tupD
  refine ⟨a, xs, rfl, s, fun p np => ?_⟩
  have s' := same_new np (.tup xs.reverse)
  exact f _ _ _ _ q (t1.trans (TKs.of s')) (w1.same s') (.tup (SqT.of upd_same) (r.reverse.mono (.of s')))
/-! ### tests -/
def bTru : DV → DG → (Bool → DG → Prop) → Prop
  | .non, G, Q => Q false G
  | .bl b, G, Q => Q b G
  | .int i, G, Q => Q (i != 0) G
  | .str z, G, Q => z.length ≤ sizeLine ∧ Q ((z.length : Int) != 0) G
  | .tup ds, G, Q => Q (!ds.isEmpty) G
  | .ref p, G, Q => (∃ ds, Ls G p ds ∧ Q (!ds.isEmpty) G) ∨ (∃ kvs, G p = some (.dct kvs) ∧ Q (!kvs.isEmpty) G)
  | .ty _, _, _ => False
def dTru (t : TD) : TDT := fun δ G Q => t δ G fun d G' => bTru d G' Q
theorem KRV.isEmpty {K : Frag} {H : Hp} {v : List (Key × V)} {d : List (Key × DV)} (h : KRV K H v d) : v.isEmpty = d.isEmpty := by cases h <;> rfl
theorem dt_e {e : Expr} {t : TD} (he : DE X e t) (hp : ∀ whole, isTrue e X.env whole = (do let v ← whole; standAt e.pos; holding [v] (truthy v)) := by intro _; rfl) : DT X e (dTru t) := by
  refine PT_mono (pt_truth he hp) fun σ H Q ⟨δ, G, R, sl, w, q, f⟩ => ⟨δ, G, _, sl, w, q, fun d G' v H' h t' w' rv => ?_⟩
  cases rv with
  | non => exact ⟨_, rfl, f _ _ _ h t' w'⟩
  | bl b => exact ⟨_, rfl, f _ _ _ h t' w'⟩
  | int i => exact ⟨_, rfl, f _ _ _ h t' w'⟩
  | str z => exact ⟨_, ⟨h.1, rfl⟩, f _ _ _ h.2 t' w'⟩
  | ty n => exact h.elim
  | tup s r => exact ⟨_, .inr (.inl ⟨_, s, by rw [r.isEmpty]⟩), f _ _ _ h t' w'⟩
  | ref p =>
    rcases h with ⟨ds, l, q⟩ | ⟨kvs, l, q⟩
    · obtain ⟨us, hs, r⟩ := wd_seq w' l
      exact ⟨_, .inl ⟨_, hs, by rw [r.isEmpty]⟩, f _ _ _ q t' w'⟩
    · obtain ⟨O, wo⟩ := id w'
      obtain ⟨ks, hk, r⟩ := wo.ob p _ l
      exact ⟨_, .inr (.inr ⟨_, hk, by rw [r.isEmpty]⟩), f _ _ _ q t' w'⟩
def dAnd (t u : TDT) : TDT := fun δ G Q => t δ G fun c G1 => if c = true then u δ G1 Q else Q false G1
def dOr (t u : TDT) : TDT := fun δ G Q => t δ G fun c G1 => if c = true then Q true G1 else u δ G1 Q
def dNot (t : TDT) : TDT := fun δ G Q => t δ G fun c G1 => Q (!c) G1
variable {a b c : Expr} {rest : List Expr} {ta tb : TDT} {pos : Pos}
theorem dw_and1 (ha : DT X a ta) : DW X (.BoolOp .And [a] pos) ta := pw_and1 ha
theorem dw_or1 (ha : DT X a ta) : DW X (.BoolOp .Or [a] pos) ta := pw_or1 ha
theorem dw_and (ha : DT X a ta) (hb : DW X (.BoolOp .And (b :: rest) pos) tb) : DW X (.BoolOp .And (a :: b :: rest) pos) (dAnd ta tb) :=
  PW_mono (pw_and ha hb) fun σ H Q ⟨δ, G, R, sl, w, q, f⟩ => ⟨δ, G, _, sl, w, q, fun k G' H' h t' w' => by
    cases k with
    | true => exact iteT ⟨δ, G', R, sl.mono t', w', h, fun k2 G2 H2 q2 t2 w2 => f k2 G2 H2 q2 (t'.trans t2) w2⟩
    | false => exact iteF (f _ _ _ h t' w')⟩
theorem dw_or (ha : DT X a ta) (hb : DW X (.BoolOp .Or (b :: rest) pos) tb) : DW X (.BoolOp .Or (a :: b :: rest) pos) (dOr ta tb) :=
  PW_mono (pw_or ha hb) fun σ H Q ⟨δ, G, R, sl, w, q, f⟩ => ⟨δ, G, _, sl, w, q, fun k G' H' h t' w' => by
    cases k with
    | false => exact iteF ⟨δ, G', R, sl.mono t', w', h, fun k2 G2 H2 q2 t2 w2 => f k2 G2 H2 q2 (t'.trans t2) w2⟩
    | true => exact iteT (f _ _ _ h t' w')⟩
theorem dt_w (h : DW X a ta) : DT X a ta := PW.pt h
theorem dt_not (ha : DT X a ta) : DT X (.UnaryOp .Not a pos) (dNot ta) :=
  PT_mono (pt_not ha) fun σ H Q ⟨δ, G, R, sl, w, q, f⟩ => ⟨δ, G, _, sl, w, q, fun k G' H' h t' w' => f _ _ _ h t' w'⟩
/-! and, or, not as values: truths -/
variable {ua ub : TD}
def dAndV (t u : TD) : TD := fun δ G Q => t δ G fun x G1 => ∃ c, x = .bl c ∧ if c = true then u δ G1 Q else Q (.bl false) G1
def dOrV (t u : TD) : TD := fun δ G Q => t δ G fun x G1 => ∃ c, x = .bl c ∧ if c = true then Q (.bl true) G1 else u δ G1 Q
def dNotV (t : TD) : TD := fun δ G Q => t δ G fun x G1 => ∃ c, x = .bl c ∧ Q (.bl (!c)) G1
def dNeg (t : TD) : TD := fun δ G Q => t δ G fun x G1 => ∃ i, x = .int i ∧ Q (.int (-i)) G1
theorem de_neg (ha : DE X a ua) : DE X (.UnaryOp .USub a pos) (dNeg ua) :=
  PE_mono (pe_un un_neg ha) fun σ H Q ⟨δ, G, R, sl, w, q, f⟩ => ⟨δ, G, _, sl, w, q, fun d G' v H' ⟨c, e, h⟩ t' w' rv => by
    subst e
    cases rv
    exact ⟨c, rfl, f _ _ _ _ h t' w' (.int _)⟩⟩
def dIf (t : TDT) (u v : TD) : TD := fun δ G Q => t δ G fun c G1 => if c = true then u δ G1 Q else v δ G1 Q
theorem de_if (hc : DT X c ta) (ha : DE X a ua) (hb : DE X b ub) : DE X (.IfExp c a b pos) (dIf ta ua ub) :=
  PE_mono (pe_ifExp hc ha hb) fun σ H Q ⟨δ, G, R, sl, w, q, f⟩ => ⟨δ, G, _, sl, w, q, fun k G' H' h t' w' => by
    cases k with
    | true => exact iteT ⟨δ, G', R, sl.mono t', w', h, f.step t'⟩
    | false => exact iteF ⟨δ, G', R, sl.mono t', w', h, f.step t'⟩⟩
/-! ### arguments, displays -/
def dNil : TDA := fun _ G Q => Q [] G
def dCons (t : TD) (u : TDA) : TDA := fun δ G Q => t δ G fun x G1 => u δ G1 fun xs G2 => Q (x :: xs) G2
variable {e : Expr} {es : List Expr} {te : TD} {ts : TDA}
theorem da_nil : DA X [] dNil := PA_mono pa_nil fun σ H Q ⟨δ, G, R, sl, w, q, f⟩ => f _ _ _ _ q (TKs.refl _) w .nil
theorem da_cons (ha : DE X e te) (hr : DA X es ts) (hs : starEach (e :: es) X.env = (false, eval e X.env) :: starEach es X.env := by rfl) : DA X (e :: es) (dCons te ts) :=
  PA_mono (pa_cons ha hr hs) fun σ H Q ⟨δ, G, R, sl, w, q, f⟩ => ⟨δ, G, _, sl, w, q, fun d G1 v H1 h1 t1 w1 r1 => ⟨δ, G1, _, sl.mono t1, w1, h1, fun ds G2 vs H2 h2 t2 w2 r2 => f _ _ _ _ h2 (t1.trans t2) w2 (.cons (r1.mono t2) r2)⟩⟩
def dTup (t : TDA) : TD := fun δ G Q => t δ G fun ds G1 => ds.length ≤ sizeLine ∧ Q (.tup ds) G1
def dLst (t : TDA) : TD := fun δ G Q => t δ G fun ds G1 => ds.length ≤ sizeLine ∧ ∀ p, G1 p = none → Q (.ref p) (dupd G1 p (.lst ds))
theorem de_tup {x1} (h : DA X es ts) : DE X (.Tuple es x1 pos) (dTup ts) :=
  PE_mono (pe_tup h) fun σ H Q ⟨δ, G, R, sl, w, q, f⟩ => ⟨δ, G, _, sl, w, q, fun ds G1 vs H1 h1 t1 w1 r1 => ⟨by rw [r1.len]; exact h1.1, fun p np => by
    have s' := same_new np (.tup vs)
    exact f _ _ _ _ h1.2 (t1.trans (TKs.of s')) (w1.same s') (.tup (SqT.of upd_same) (r1.mono (.of s')))⟩⟩
theorem de_lst (h : DA X es ts) : DE X (.List es pos) (dLst ts) :=
  PE_mono (pe_lst h) fun σ H Q ⟨δ, G, R, sl, w, q, f⟩ => ⟨δ, G, _, sl, w, q, fun ds G1 vs H1 h1 t1 w1 r1 => ⟨by rw [r1.len]; exact h1.1, fun p np => by
    have s' := same_new np (.lst vs)
    exact f _ _ _ _ (h1.2 p (w1.free np)) (t1.trans (TKs.of s')) (w1.new np fun O => ⟨_, upd_same, r1.mono (.of s')⟩) (.ref p)⟩⟩
/-! ### calls of builtins -/
abbrev DC := List DV → DG → DK → Prop
def CallD (X : Cx) (f : Value) (b : DC) : Prop := ∃ r, CallR X f r ∧ ∀ ds vs H G R Q, RVs X.K H vs ds → Wd X.K H G → b ds G R → Fin X.K H R Q → r vs H Q
def dCB (b : DC) (t : TDA) : TD := fun δ G Q => t δ G fun ds G1 => b ds G1 Q
theorem de_callB {x : Str} {id : String} {b : DC} {p pos : Pos} (hc : CallD X (.builtin id) b) (hm : X.mg x = none) (hg : Gl X x) (hv : bootBuiltins x = some (.builtin id)) (ha : DA X (e :: es) ts) (hn : x ≠ "__name__" := by decide) (hdb : (x == ("__debug__" : Str)) = false := by decide)
    (he : starEach (e :: es) X.env = (false, eval e X.env) :: starEach es X.env := by rfl) (hpl : (backTo pos (starEach es X.env)).any (·.1) = false := by rfl) : DE X (.Call (.Name x p) (e :: es) [] pos) (dCB b ts) := by
  obtain ⟨r, hr, ok⟩ := hc
  exact PE_mono (pe_callB hr hg hm hv ha hn hdb he hpl) fun σ H Q ⟨δ, G, R, sl, w, q, f⟩ => ⟨δ, G, _, sl, w, q, fun ds G1 vs H1 h1 t1 w1 r1 => ok ds vs H1 G1 R Q r1 w1 h1 (f.step t1)⟩
theorem de_callTy {x : Str} {T : String} {b : DC} {p pos : Pos} (hc : CallD X (.type T) b) (hm : X.mg x = none) (hg : Gl X x) (hv : bootBuiltins x = some (.type T)) (ha : DA X (e :: es) ts) (hn : x ≠ "__name__" := by decide) (hdb : (x == ("__debug__" : Str)) = false := by decide)
    (he : starEach (e :: es) X.env = (false, eval e X.env) :: starEach es X.env := by rfl) (hpl : (backTo pos (starEach es X.env)).any (·.1) = false := by rfl) : DE X (.Call (.Name x p) (e :: es) [] pos) (dCB b ts) := by
  obtain ⟨r, hr, ok⟩ := hc
  exact PE_mono (pe_callTy hr hg hm hv ha hn hdb he hpl) fun σ H Q ⟨δ, G, R, sl, w, q, f⟩ => ⟨δ, G, _, sl, w, q, fun ds G1 vs H1 h1 t1 w1 r1 => ok ds vs H1 G1 R Q r1 w1 h1 (f.step t1)⟩
end
end DD
namespace DD
open PySem PySem.W L2 SX Cm
section
variable {X : Cx}
/-! ### builtins -/
def bLen : DC
  | [.tup ds], G, Q => Q (.int ds.length) G
  | [.str z], G, Q => z.length ≤ sizeLine ∧ Q (.int z.length) G
  | [.ref p], G, Q => (∃ ds, Ls G p ds ∧ Q (.int ds.length) G) ∨ (∃ kvs, G p = some (.dct kvs) ∧ Q (.int kvs.length) G)
  | _, _, _ => False
theorem KRV.len {K : Frag} {H : Hp} {v : List (Key × V)} {d : List (Key × DV)} (h : KRV K H v d) : v.length = d.length := by
  induction h with
  | nil => rfl
  | cons _ _ ih => exact congrArg (· + 1) ih
theorem cd_len : CallD X (.builtin "len") bLen := by
  refine ⟨_, call_len_seq.or (call_len_str.or call_lenD), fun ds vs H G R Q r w h f => ?_⟩
  cases r with
  | nil => exact h.elim
  | cons rv rt =>
    cases rt with
    | cons _ _ => cases rv <;> exact h.elim
    | nil =>
      cases rv with
      | tup s r => exact .inl ⟨_, _, rfl, .inr s, by rw [r.len]; exact f _ _ _ _ h (TKs.refl H) w (.int _)⟩
      | str z => exact .inr (.inl ⟨z, rfl, h.1, f _ _ _ _ h.2 (TKs.refl H) w (.int _)⟩)
      | ref p =>
        rcases h with ⟨ds, l, q⟩ | ⟨kvs, l, q⟩
        · obtain ⟨us, hs, r⟩ := wd_seq w l
          exact .inl ⟨p, us, rfl, .inl hs, by rw [r.len]; exact f _ _ _ _ q (TKs.refl H) w (.int _)⟩
        · obtain ⟨O, wo⟩ := id w
          obtain ⟨ks, hk, r⟩ := wo.ob p _ l
          exact .inr (.inr ⟨p, ks, rfl, hk, by rw [r.len]; exact f _ _ _ _ q (TKs.refl H) w (.int _)⟩)
      | _ => exact h.elim
/-- the type of a value, where it is known -/
def tyN : DV → String
  | .non => "NoneType"
  | .bl _ => "bool"
  | .int _ => "int"
  | .str _ => "str"
  | .tup _ => "tuple"
  | .ty _ => "type"
  | .ref _ => "object"
/-- isinstance of built-in types -/
def tyB (a t : String) : Bool := a == t || (a == "bool" && t == "int")
def tysK : List String := ["tuple", "str", "int", "bool", "list", "dict"]
theorem kit_tab : ∀ a ∈ ["NoneType", "bool", "int", "str", "tuple", "list", "dict"], ∀ t ∈ tysK, kitB a t = some (tyB a t) := by decide +kernel
def TyAt (G : DG) : DV → String → Prop
  | .ref p, a => (a = "list" ∧ (G p = some .cnt ∨ (∃ ds, Ls G p ds))) ∨ (a = "dict" ∧ ∃ kvs, G p = some (.dct kvs))
  | .ty _, _ => False
  | d, a => a = tyN d
def bIsi : DC
  | [x, .ty t], G, Q => t ∈ tysK ∧ ∃ a b, TyAt G x a ∧ tyB a t = b ∧ Q (.bl b) G
  | _, _, _ => False
theorem ty_of {K : Frag} {H : Hp} {G : DG} {v : V} {d : DV} {a : String} (w : Wd K H G) (r : RV K H v d) (h : TyAt G d a) : TyX K H v (.type a) ∧ a ∈ ["NoneType", "bool", "int", "str", "tuple", "list", "dict"] := by
  cases r with
  | non => cases h; exact ⟨.base .non, by decide⟩
  | bl b => cases h; exact ⟨.base (.bl b), by show "bool" ∈ _; decide⟩
  | int i => cases h; exact ⟨.base (.int i), by show "int" ∈ _; decide⟩
  | str z => cases h; exact ⟨.base (.str z), by show "str" ∈ _; decide⟩
  | tup s r => cases h; exact ⟨tyTup s, by show "tuple" ∈ _; decide⟩
  | ty n => exact h.elim
  | ref p =>
    rcases h with ⟨rfl, h⟩ | ⟨rfl, kvs, h⟩
    · refine ⟨?_, by decide⟩
      obtain ⟨O, w⟩ := w
      rcases h with h | ⟨ds, h | h⟩
      · obtain ⟨n, e⟩ := w.ob p _ h; exact .base (.lst e)
      · obtain ⟨n, e, _⟩ := w.ob p _ h; exact .base (.lst e)
      · obtain ⟨n, e | ⟨o, e⟩, _⟩ := w.ob p _ h
        · exact .base (.lst e)
        · exact .base (.frz e)
    · obtain ⟨O, w⟩ := w
      obtain ⟨n, e, _⟩ := w.ob p _ h
      exact ⟨.base (.dK e), by decide⟩
theorem cd_isi : CallD X (.builtin "isinstance") bIsi := by
  refine ⟨_, call_isi, fun ds vs H G R Q r w h f => ?_⟩
  cases r with
  | nil => exact h.elim
  | cons rv rt =>
    cases rt with
    | nil => exact h.elim
    | cons rv2 rt =>
      cases rt with
      | cons _ _ => cases rv2 <;> exact h.elim
      | nil =>
        cases rv2 with
        | ty t =>
          obtain ⟨ht, a, b, ha, rfl, q⟩ := h
          obtain ⟨h1, h2⟩ := ty_of w rv ha
          exact ⟨_, _, _, _, _, rfl, .ty t, h1, kit_ty (kit_tab a h2 t ht), flat_up w f q⟩
        | _ => exact h.elim
def bInt1 : DC
  | [.int i], G, Q => Q (.int i) G
  | [.bl k], G, Q => Q (.int (if k = true then 1 else 0)) G
  | _, _, _ => False
theorem cd_int : CallD X (.type "int") bInt1 := by
  refine ⟨_, call_int1, fun ds vs H G R Q r w h f => ?_⟩
  cases r with
  | nil => exact h.elim
  | cons rv rt =>
    cases rt with
    | cons _ _ => cases rv <;> exact h.elim
    | nil =>
      cases rv with
      | int i => exact .inl ⟨i, rfl, f _ _ _ _ h (TKs.refl H) w (.int _)⟩
      | bl k => exact .inr ⟨k, rfl, f _ _ _ _ h (TKs.refl H) w (.int _)⟩
      | _ => exact h.elim
def bTuple : DC
  | [.tup ds], G, Q => Q (.tup ds) G
  | [.ref p], G, Q => ∃ ds, Ls G p ds ∧ Q (.tup ds) G
  | _, _, _ => False
theorem cd_tuple : CallD X (.type "tuple") bTuple := by
  refine ⟨_, call_tuple_of, fun ds vs H G R Q r w h f => ?_⟩
  cases r with
  | nil => exact h.elim
  | cons rv rt =>
    cases rt with
    | cons _ _ => cases rv <;> exact h.elim
    | nil =>
      cases rv with
      | tup s r => exact ⟨_, _, rfl, .inr ⟨s, f _ _ _ _ h (TKs.refl H) w (.tup s r)⟩⟩
      | ref p =>
        obtain ⟨ds, l, q⟩ := h
        obtain ⟨us, hs, r⟩ := wd_seq w l
        refine ⟨p, us, rfl, .inl ⟨hs, fun l nl => ?_⟩⟩
        have s' := same_new nl (.tup us)
        exact f _ _ _ _ q (TKs.of s') (w.same s') (.tup (SqT.of upd_same) (r.mono (.of s')))
      | _ => exact h.elim
def bList : DC
  | [.tup ds], G, Q => ∀ r, G r = none → Q (.ref r) (dupd G r (.lst ds))
  | [.ref p], G, Q => ∃ ds, Ls G p ds ∧ ∀ r, G r = none → Q (.ref r) (dupd G r (.lst ds))
  | _, _, _ => False
theorem cd_list : CallD X (.type "list") bList := by
  refine ⟨_, call_list_of, fun ds vs H G R Q r w h f => ?_⟩
  cases r with
  | nil => exact h.elim
  | cons rv rt =>
    cases rt with
    | cons _ _ => cases rv <;> exact h.elim
    | nil =>
      cases rv with
      | tup s r =>
        rename_i a xs ds
        refine ⟨_, _, rfl, .inr s, fun l nl => ?_⟩
        have s' := same_new nl (.lst xs)
        exact f _ _ _ _ (h l (w.free nl)) (TKs.of s') (w.new nl fun O => ⟨_, upd_same, r.mono (.of s')⟩) (.ref l)
      | ref p =>
        obtain ⟨ds, l, q⟩ := h
        obtain ⟨us, hs, r⟩ := wd_seq w l
        refine ⟨p, us, rfl, .inl hs, fun l nl => ?_⟩
        have s' := same_new nl (.lst us)
        exact f _ _ _ _ (q l (w.free nl)) (TKs.of s') (w.new nl fun O => ⟨_, upd_same, r.mono (.of s')⟩) (.ref l)
      | _ => exact h.elim
/-! ### methods -/
abbrev DM := DV → List DV → DG → DK → Prop
def rcv (T : String) (x : DV) (G : DG) : Prop := match x with
  | .str _ => T = "str"
  | .ref p => (T = "list" ∧ ∃ ds, Ls G p ds) ∨ (T = "dict" ∧ ∃ kvs, G p = some (.dct kvs))
  | _ => False
theorem rcv_ok {K : Frag} {H : Hp} {G : DG} {T : String} {x : DV} {v : V} (w : Wd K H G) (r : RV K H v x) (h : rcv T x G) : tyV K T v H := by
  cases r with
  | str z => exact h
  | ref p =>
    rcases h with ⟨rfl, ds, l⟩ | ⟨rfl, kvs, l⟩
    · obtain ⟨us, hs, _⟩ := wd_seq w l
      exact .inl ⟨rfl, us, hs⟩
    · obtain ⟨O, w⟩ := w
      obtain ⟨ks, e, _⟩ := w.ob p _ l
      exact .inr (.inr (.inl ⟨rfl, .inl ⟨ks, e⟩⟩))
  | _ => exact h.elim
def MtD (X : Cx) (id : String) (b : DM) : Prop := ∃ r, MtR X id r ∧ ∀ x ds vx vs H G R Q, RV X.K H vx x → RVs X.K H vs ds → Wd X.K H G → b x ds G R → Fin X.K H R Q → r vx vs H Q
def dBM (T : String) (b : DM) (to : TD) (t : TDA) : TD := fun δ G Q => to δ G fun x G1 => rcv T x G1 ∧ t δ G1 fun ds G2 => b x ds G2 Q
def dBM0 (T : String) (b : DM) (to : TD) : TD := fun δ G Q => to δ G fun x G1 => rcv T x G1 ∧ b x [] G1 Q
variable {o e : Expr} {es : List Expr} {to : TD} {t : TDA} {name : Str} {apos cpos : Pos} {T id : String} {b : DM}
theorem de_bm (pa : PlainAttrs T) (slot : Slot T name id) (hty : typeOf (.builtin id) = pure (.type "method_descriptor")) (hm : MtD X id b) (ho : DE X o to) (ha : DA X (e :: es) t)
    (hbase : attributeBase o name X.env (eval o X.env) = eval o X.env := by rfl)
    (hfew : ((backTo cpos (starEach (e :: es) X.env)).all (fun x => !x.1) && (backToKw cpos (keywordEach [] X.env)).all (fun x => x.1.isSome)
      && decide ((e :: es).length + ([] : List Keyword).length + (if ([] : List Keyword).isEmpty then 0 else 1) < 30)) = true := by rfl)
    (hline : (apos.endLine == cpos.line) = true := by rfl) (hs : starEach (e :: es) X.env = (false, eval e X.env) :: starEach es X.env := by rfl) (hplain : (backTo cpos (starEach es X.env)).any (·.1) = false := by rfl) :
    DE X (.Call (.Attribute o name apos) (e :: es) [] cpos) (dBM T b to t) := by
  obtain ⟨r, hr, ok⟩ := hm
  refine PE_mono (pe_bm pa slot hty hr ho ha hbase hfew hline hs hplain) fun σ H Q ⟨δ, G, R, sl, w, q, f⟩ => ⟨δ, G, _, sl, w, q, fun x G1 vx H1 h1 t1 w1 r1 => ⟨rcv_ok w1 r1 h1.1, δ, G1, _, sl.mono t1, w1, h1.2, fun ds G2 vs H2 h2 t2 w2 r2 => ?_⟩⟩
  exact ok x ds vx vs H2 G2 R Q (r1.mono t2) r2 w2 h2 (f.step (t1.trans t2))
theorem de_bm0 (pa : PlainAttrs T) (slot : Slot T name id) (hty : typeOf (.builtin id) = pure (.type "method_descriptor")) (hm : MtD X id b) (ho : DE X o to)
    (hbase : attributeBase o name X.env (eval o X.env) = eval o X.env := by rfl) (hline : (apos.endLine == cpos.line) = true := by rfl) : DE X (.Call (.Attribute o name apos) [] [] cpos) (dBM0 T b to) := by
  obtain ⟨r, hr, ok⟩ := hm
  exact PE_mono (pe_bm0 pa slot hty hr ho hbase hline) fun σ H Q ⟨δ, G, R, sl, w, q, f⟩ => ⟨δ, G, _, sl, w, q, fun x G1 vx H1 h1 t1 w1 r1 => ⟨rcv_ok w1 r1 h1.1, ok x [] vx [] H1 G1 R Q r1 .nil w1 h1.2 (f.step t1)⟩⟩
/-- a change of one of the store's lists -/
theorem put_lst {K : Frag} {H : Hp} {G : DG} {p : Addr} {ds es : List DV} {xs ys : List V} (w : Wd K H G) (e : G p = some (.lst ds)) (h : H p = some (.lst xs)) (r : RVs K H ys es) : TKs K H (upd H p (.lst ys)) ∧ Wd K (upd H p (.lst ys)) (dupd G p (.lst es)) := by
  have t : TKs K H (upd H p (.lst ys)) := TKs.lst h
  exact ⟨t, w.put ⟨_, e, fun L φ z => by cases z⟩ t fun O => ⟨ys, upd_same, r.mono t⟩⟩
def bAppend : DM := fun x ds G Q => ∃ p xs y, x = .ref p ∧ ds = [y] ∧ G p = some (.lst xs) ∧ xs.length < sizeLine ∧ Q .non (dupd G p (.lst (xs ++ [y])))
theorem md_append : MtD X "list.append" bAppend := by
  refine ⟨_, mt_append, fun x ds vx vs H G R Q rx rs w h f => ?_⟩
  obtain ⟨p, xs, y, rfl, rfl, e, hl, q⟩ := h
  cases rx
  cases rs with
  | cons ry rt =>
    cases rt
    obtain ⟨us, hu, r⟩ := wd_list w e
    obtain ⟨t, w'⟩ := put_lst (es := xs ++ [y]) w e hu (r.append (.cons ry .nil))
    exact ⟨p, us, _, rfl, rfl, hu, by rw [r.len]; exact hl, f _ _ _ _ q t w' .non⟩
def bPop : DM := fun x ds G Q => ∃ p xs y, x = .ref p ∧ ds = [] ∧ G p = some (.lst (xs ++ [y])) ∧ Q y (dupd G p (.lst xs))
theorem md_pop : MtD X "list.pop" bPop := by
  refine ⟨_, mt_pop, fun x ds vx vs H G R Q rx rs w h f => ?_⟩
  obtain ⟨p, xs, y, rfl, rfl, e, q⟩ := h
  cases rx
  cases rs
  obtain ⟨us, hu, r⟩ := wd_list w e
  have l := r.len
  rw [List.length_append, List.length_singleton] at l
  obtain ⟨v, hv, rv⟩ := r.get (i := us.length - 1) (y := y) (by rw [l, Nat.add_sub_cancel, List.getElem?_append_right (Nat.le_refl _), Nat.sub_self]; rfl)
  have rd := r.dropLast
  rw [List.dropLast_concat] at rd
  obtain ⟨t, w'⟩ := put_lst w e hu rd
  exact ⟨p, us, v, rfl, rfl, hu, hv, f _ _ _ _ q t w' (rv.mono t)⟩
def bExt : DM := fun x ds G Q => ∃ p xs zs, x = .ref p ∧ G p = some (.lst xs) ∧ (ds = [.tup zs] ∨ ∃ q, ds = [.ref q] ∧ G q = some (.lst zs)) ∧ xs.length + zs.length ≤ sizeLine ∧ Q .non (dupd G p (.lst (xs ++ zs)))
theorem md_extend : MtD X "list.extend" bExt := by
  refine ⟨_, MtR.or mt_extend mt_extT, fun x ds vx vs H G R Q rx rs w h f => ?_⟩
  obtain ⟨p, xs, zs, rfl, e, hd, hl, q⟩ := h
  cases rx
  obtain ⟨us, hu, r⟩ := wd_list w e
  rcases hd with rfl | ⟨q', rfl, e'⟩
  · cases rs with
    | cons ry rt =>
      cases rt
      obtain ⟨a, ys, rfl, s, r'⟩ := ry.tupD
      obtain ⟨t, w'⟩ := put_lst w e hu (r.append r')
      exact .inr ⟨p, a, us, ys, rfl, rfl, hu, s, by rw [r.len, r'.len]; exact hl, f _ _ _ _ q t w' .non⟩
  · cases rs with
    | cons ry rt =>
      cases rt
      cases ry
      obtain ⟨ys, hy, r'⟩ := wd_list w e'
      obtain ⟨t, w'⟩ := put_lst w e hu (r.append r')
      exact .inl ⟨p, q', us, ys, rfl, rfl, hu, hy, by rw [r.len, r'.len]; exact hl, f _ _ _ _ q t w' .non⟩
end
end DD
namespace DD
open PySem PySem.W L2 SX Cm
section
variable {X : Cx}
/-! ### blocks -/
def dNext : TDS := fun D δ G => D.nx δ G
def dSeq (t u : TDS) : TDS := fun D δ G => t { D with nx := u D } δ G
variable {st : Stmt} {rest : List Stmt} {t u : TDS}
theorem dss_nil : DSs X [] dNext := PSs_mono pss_nil fun D σ H ⟨D', δ, G, sl, w, l, h⟩ => l.nx σ δ G H h (TKs.refl H) w sl
theorem seq_up {K : Frag} {D : Ends} {σ : St} {H : Hp} (h : upS K (dSeq t u) D σ H) : tSeq (upS K t) (upS K u) D σ H := by
  obtain ⟨D', δ, G, sl, w, l, h⟩ := h
  exact ⟨{ D' with nx := u D' }, δ, G, sl, w, ⟨fun σ1 δ1 G1 H1 q t1 w1 s1 => ⟨D', δ1, G1, s1, w1, l.step t1, q⟩, l.rt, l.bk, l.ct⟩, h⟩
theorem dss_cons (h1 : DS X st t) (h2 : DSs X rest u) : DSs X (st :: rest) (dSeq t u) := PSs_mono (pss_cons h1 h2) fun D σ H h => seq_up h
theorem dss_one (h1 : DS X st t) : DSs X [st] t := pss_one h1
/-- a middle assertion behind the first statement -/
def dCut (t u : TDS) : TDS := fun D δ G => ∃ Mid : DSt → DG → Prop, t { D with nx := Mid } δ G ∧ ∀ δ' G', Mid δ' G' → u D δ' G'
theorem dss_cut (h1 : DS X st t) (h2 : DSs X rest u) : DSs X (st :: rest) (dCut t u) := PSs_mono (pss_cons h1 h2) fun D σ H ⟨D', δ, G, sl, w, l, Mid, h, g⟩ =>
  ⟨{ D' with nx := Mid }, δ, G, sl, w, ⟨fun σ1 δ1 G1 H1 q t1 w1 s1 => ⟨D', δ1, G1, s1, w1, l.step t1, g _ _ q⟩, l.rt, l.bk, l.ct⟩, h⟩
def dBreak : TDS := fun D δ G => D.bk δ G
def dCont : TDS := fun D δ G => D.ct δ G
def dDrop (te : TD) : TDS := fun D δ G => te δ G fun _ G1 => D.nx δ G1
theorem ds_expr {e : Expr} {te : TD} {pos : Pos} (he : DE X e te) (hs : swapsWith e none pos.line X.env = pure false := by rfl) : DS X (.Expr e pos) (dDrop te) :=
  PS_mono (ps_expr he hs) fun D σ H ⟨D', δ, G, sl, w, l, h⟩ => ⟨δ, G, _, sl, w, h, fun d G1 v H1 q t1 w1 _ => l.nx σ δ G1 H1 q t1 w1 (sl.mono t1)⟩
def dRet (te : TD) : TDS := fun D δ G => te δ G D.rt
theorem ds_ret {e : Expr} {te : TD} {pos : Pos} (he : DE X e te) : DS X (.Return (some e) pos) (dRet te) :=
  PS_mono (ps_ret he) fun D σ H ⟨D', δ, G, sl, w, l, h⟩ => ⟨δ, G, _, sl, w, h, fun d G1 v H1 q t1 w1 r1 => l.rt d G1 v H1 q t1 w1 r1⟩
def dRetN : TDS := fun D _ G => D.rt .non G
def dIfS (c : TDT) (t u : TDS) : TDS := fun D δ G => c δ G fun b G1 => if b = true then t D δ G1 else u D δ G1
theorem ds_if {c : Expr} {a b : List Stmt} {tc : TDT} {pos : Pos} (hc : DT X c tc) (ha : DSs X a t) (hb : DSs X b u) : DS X (.If c a b pos) (dIfS tc t u) :=
  PS_mono (ps_if hc ha hb) fun D σ H ⟨D', δ, G, sl, w, l, h⟩ => ⟨δ, G, _, sl, w, h, fun k G1 H1 q t1 w1 => by
    cases k with
    | true => exact iteT ⟨D', δ, G1, sl.mono t1, w1, l.step t1, q⟩
    | false => exact iteF ⟨D', δ, G1, sl.mono t1, w1, l.step t1, q⟩⟩
/-! ### targets -/
abbrev TDG := DV → DSt → DG → (DSt → DG → Prop) → Prop
abbrev TDGs := List DV → DSt → DG → (DSt → DG → Prop) → Prop
def FinG (K : Frag) (H : Hp) (R : DSt → DG → Prop) (Q : St → Hp → Prop) : Prop := ∀ δ G σ H', R δ G → TKs K H H' → Wd K H' G → Sl K H' σ δ → Q σ H'
theorem FinG.step {K : Frag} {H H1 : Hp} {R : DSt → DG → Prop} {Q : St → Hp → Prop} (f : FinG K H R Q) (t : TKs K H H1) : FinG K H1 R Q := fun δ G σ H' r t' => f δ G σ H' r (t.trans t')
def upG (K : Frag) (g : TDG) : TG := fun v σ H Q => ∃ d δ G R, RV K H v d ∧ Sl K H σ δ ∧ Wd K H G ∧ g d δ G R ∧ FinG K H R Q
def upGs (K : Frag) (g : TDGs) : TGs := fun vs σ H Q => ∃ ds δ G R, RVs K H vs ds ∧ Sl K H σ δ ∧ Wd K H G ∧ g ds δ G R ∧ FinG K H R Q
abbrev DGt (X : Cx) (e : Expr) (g : TDG) : Prop := PG X e (upG X.K g)
abbrev DGs (X : Cx) (e : List Expr) (g : TDGs) : Prop := PGs X e (upGs X.K g)
theorem PG_mono {e : Expr} {t t' : TG} (h : PG X e t) (i : ∀ v σ H Q, t' v σ H Q → t v σ H Q) : PG X e t' := ⟨fun pins s σ H v u Q I r q => h.run pins s σ H v u Q I r (i v σ H Q q)⟩
theorem PGs_mono {e : List Expr} {t t' : TGs} (h : PGs X e t) (i : ∀ v σ H Q, t' v σ H Q → t v σ H Q) : PGs X e t' := ⟨fun pins s σ H v u Q I r q => h.run pins s σ H v u Q I r (i v σ H Q q)⟩
def gN (i : Nat) : TDG := fun d δ G Q => Q (δ.set i (some d)) G
theorem dg_name {i : Nat} {x : Str} {pos : Pos} (hN : X.N.Nodup) (hi : X.N[i]? = some x) (hx : Loc X.env.scope x) (hf : X.fn x = true ∨ X.env.scope.names.lookup x = some .local := by first | exact .inl rfl | exact .inr rfl | assumption) : DGt X (.Name x pos) (gN i) :=
  PG_mono (pg_name hN hi hx hf) fun v σ H Q ⟨d, δ, G, R, r, sl, w, h, f⟩ => f _ _ _ _ h (TKs.refl H) w (sl.set r i)
def gN0 : TDGs := fun ds δ G Q => ds = [] ∧ Q δ G
def gNC (t : TDG) (u : TDGs) : TDGs := fun ds δ G Q => ∃ d r, ds = d :: r ∧ t d δ G fun δ' G' => u r δ' G' Q
theorem dgs_nil : DGs X [] gN0 := PGs_mono pgs_nil fun vs σ H Q ⟨ds, δ, G, R, r, sl, w, ⟨e, h⟩, f⟩ => by
  subst e
  cases r
  exact ⟨rfl, f _ _ _ _ h (TKs.refl H) w sl⟩
theorem dgs_cons {e : Expr} {es : List Expr} {t : TDG} {u : TDGs} (h1 : DGt X e t) (h2 : DGs X es u)
    (hs : (assignEach (e :: es) X.env).map (·.2) = assign e X.env :: (assignEach es X.env).map (·.2) := by rfl) : DGs X (e :: es) (gNC t u) := PGs_mono (pgs_cons h1 h2 hs) fun vs σ H Q ⟨ds, δ, G, R, r, sl, w, ⟨d, rs, e, h⟩, f⟩ => by
  subst e
  cases r with
  | cons rv rt => exact ⟨_, _, rfl, d, δ, G, _, rv, sl, w, h, fun δ1 G1 σ1 H1 q t1 w1 s1 => ⟨rs, δ1, G1, R, rt.mono t1, s1, w1, q, f.step t1⟩⟩
def gT (n : Nat) (t : TDGs) : TDG := fun d δ G Q => ∃ ds, d = .tup ds ∧ ds.length = n ∧ t ds δ G Q
theorem dg_tup {es : List Expr} {k : Nat} {t : TDGs} {n : Nat} {pos : Pos} (hc : X.calm = true) (h : DGs X es t)
    (hn : (assignEach es X.env).length = n := by rfl) (hst : (assignEach es X.env).findIdx? (·.1) = none := by rfl) : DGt X (.Tuple es k pos) (gT n t) := PG_mono (pg_tup hc h hn hst) fun v σ H Q ⟨d, δ, G, R, r, sl, w, ⟨ds, e, l, h⟩, f⟩ => by
  subst e
  obtain ⟨a, xs, rfl, s, r⟩ := r.tupD
  exact ⟨a, xs, rfl, s, by rw [r.len]; exact l, ds, δ, G, R, r, sl, w, h, f⟩
/-- xs[i] = v -/
def bSet : DV → DV → DV → DG → (DG → Prop) → Prop
  | .ref p, .int i, v, G, Q => (∃ ds j, G p = some (.lst ds) ∧ ixN ds.length i = some j ∧ Q (dupd G p (.lst (ds.set j v)))) ∨ (G p = some .cnt ∧ i = 0 ∧ (∃ n, v = .int n) ∧ Q G)
  | _, _, _, _, _ => False
def gSb (to ti : TD) : TDG := fun v δ G Q => to δ G fun o G1 => ti δ G1 fun i G2 => bSet o i v G2 fun G3 => Q δ G3
def dAsg (te : TD) (g : TDG) : TDS := fun D δ G => te δ G fun d G1 => g d δ G1 D.nx
theorem asg_up {K : Frag} {te : TD} {g : TDG} {D : Ends} {σ : St} {H : Hp} (h : upS K (dAsg te g) D σ H) : tAsg (up K te) (upG K g) D σ H := by
  obtain ⟨D', δ, G, sl, w, l, h⟩ := h
  exact ⟨δ, G, _, sl, w, h, fun d G1 v H1 q t1 w1 r1 => ⟨d, δ, G1, _, r1, sl.mono t1, w1, q, fun δ2 G2 σ2 H2 q2 t2 w2 s2 => l.nx σ2 δ2 G2 H2 q2 (t1.trans t2) w2 s2⟩⟩
theorem ds_asg {tg e : Expr} {te : TD} {g : TDG} {pos : Pos} (he : DE X e te) (hg : DGt X tg g) (hs : swapsWithSole [tg] e pos.line X.env = pure false := by rfl) (hw : swappedStores [tg] e X.env = pure none := by rfl) (h1 : (assignEach [tg] X.env).map (·.2) = [assign tg X.env] := by rfl) : DS X (.Assign [tg] e pos) (dAsg te g) := PS_mono (ps_asg he hg hs hw h1) fun D σ H h => asg_up h
theorem ds_set {i : Nat} {x : Str} {e : Expr} {te : TD} {pos' pos : Pos} (hN : X.N.Nodup) (hi : X.N[i]? = some x) (hx : Loc X.env.scope x) (he : DE X e te) (hs : swapsWith e (some (.Name x pos')) pos.line X.env = pure false := by rfl) (hf : X.fn x = true ∨ X.env.scope.names.lookup x = some .local := by first | exact .inl rfl | exact .inr rfl | assumption) : DS X (.Assign [.Name x pos'] e pos) (dAsg te (gN i)) :=
  PS_mono (ps_set hN hi hx he hs hf) fun D σ H ⟨D', δ, G, sl, w, l, h⟩ => ⟨δ, G, _, sl, w, h, fun d G1 v H1 q t1 w1 r1 => l.nx _ _ G1 H1 q t1 w1 ((sl.mono t1).set r1 i)⟩
def dPar (i j : Nat) (t : TDA) : TDS := fun D δ G => t δ G fun ds G1 => ∃ a b, ds = [a, b] ∧ D.nx ((δ.set i (some a)).set j (some b)) G1
end
end DD
namespace DD
open PySem PySem.W L2 SX Cm
/-! ### what is walked: its items, and what must stay so -/
abbrev TDI := DSt → DG → (List DV → (DG → Prop) → DG → Prop) → Prop
structure JRel (K : Frag) (H0 : Hp) (J : It) (ds : List DV) (st : DG → Prop) : Prop where
  go : ∀ i H G, TKs K H0 H → Wd K H G → st G → i < ds.length → J.go i H
  yld : ∀ i H G x H', TKs K H0 H → Wd K H G → st G → i < ds.length → J.yld i H x H' → Same H H' ∧ ∃ d, ds[i]? = some d ∧ RV K H' x d
  stop : ∀ i H G, TKs K H0 H → Wd K H G → st G → i = ds.length → J.stop i H
def upI (K : Frag) (ti : TDI) : TI := fun σ H R' => ∃ δ G R, Sl K H σ δ ∧ Wd K H G ∧ ti δ G R ∧ ∀ ds st G1 H1 J, R ds st G1 → TKs K H H1 → Wd K H1 G1 → JRel K H1 J ds st → R' J H1
section
variable {X : Cx} {tg : Expr}
abbrev DI (X : Cx) (tg iter : Expr) (ti : TDI) : Prop := PI X tg iter (upI X.K ti)
theorem PI_mono {e : Expr} {t t' : TI} (h : PI X tg e t) (i : ∀ σ H R, t' σ H R → t σ H R) : PI X tg e t' := ⟨fun pins s σ H Q I q => h.run pins s σ H Q I (i σ H Q q)⟩
/-- over a tuple -/
def dITup (t : TD) : TDI := fun δ G R => t δ G fun d G1 => ∃ ds, d = .tup ds ∧ R ds (fun _ => True) G1
theorem di_tup {e : Expr} {t : TD} (h : DE X e t) : DI X tg e (dITup t) := PI_mono (pi_tup h) fun σ H R' ⟨δ, G, R, sl, w, q, f⟩ => ⟨δ, G, _, sl, w, q, fun d G1 v H1 ⟨ds, e, q1⟩ t1 w1 r1 => by
  subst e
  obtain ⟨a, xs, rfl, s, r⟩ := r1.tupD
  refine ⟨a, rfl, ⟨xs, s⟩, f _ _ _ _ _ q1 t1 w1 ⟨fun i H2 G2 t2 w2 _ hi => ?_, fun i H2 G2 x H3 t2 w2 _ _ y => ?_, fun i H2 G2 t2 w2 _ hi => ?_⟩⟩
  · obtain ⟨x, hx, _⟩ := r.get (List.getElem?_eq_getElem hi)
    exact ⟨xs, x, t2 _ _ s, hx⟩
  · obtain ⟨rfl, y⟩ := y
    obtain ⟨d, hd, rd⟩ := (r.mono t2).getV (y xs (t2 _ _ s))
    exact ⟨Same.refl _, d, hd, rd⟩
  · exact ⟨xs, t2 _ _ s, by rw [r.len]; exact Nat.le_of_eq hi.symm⟩⟩
/-- over a list, which stays as it is -/
def dIList (t : TD) : TDI := fun δ G R => t δ G fun d G1 => ∃ p ds, d = .ref p ∧ Ls G1 p ds ∧ R ds (fun G => Ls G p ds) G1
theorem di_list {e : Expr} {t : TD} (h : DE X e t) : DI X tg e (dIList t) := PI_mono (pi_list h) fun σ H R' ⟨δ, G, R, sl, w, q, f⟩ => ⟨δ, G, _, sl, w, q, fun d G1 v H1 ⟨p, ds, e, ls, q1⟩ t1 w1 r1 => by
  subst e
  cases r1
  obtain ⟨xs, s, r⟩ := wd_seq w1 ls
  refine ⟨p, rfl, ⟨xs, s⟩, f _ _ _ _ _ q1 t1 w1 ⟨fun i H2 G2 t2 w2 l2 hi => ?_, fun i H2 G2 x H3 t2 w2 l2 _ y => ?_, fun i H2 G2 t2 w2 l2 hi => ?_⟩⟩
  · obtain ⟨ys, s2, r2⟩ := wd_seq w2 l2
    obtain ⟨x, hx, _⟩ := r2.get (List.getElem?_eq_getElem hi)
    exact ⟨ys, x, s2, hx⟩
  · obtain ⟨rfl, y⟩ := y
    obtain ⟨ys, s2, r2⟩ := wd_seq w2 l2
    obtain ⟨d, hd, rd⟩ := r2.getV (y ys s2)
    exact ⟨Same.refl _, d, hd, rd⟩
  · obtain ⟨ys, s2, r2⟩ := wd_seq w2 l2
    exact ⟨ys, s2, by rw [r2.len]; exact Nat.le_of_eq hi.symm⟩⟩
def signs (z : Str) : List DV := z.cps.toList.map fun c => .str ⟨#[c]⟩
def dIStr (t : TD) : TDI := fun δ G R => t δ G fun d G1 => ∃ z, d = .str z ∧ R (signs z) (fun _ => True) G1
/-- range(n), range(a, b) -/
def rng (lo : Int) (n : Nat) : List DV := (List.range n).map fun i => .int (lo + (i : Nat))
theorem rng_len (lo : Int) (n : Nat) : (rng lo n).length = n := by unfold rng; rw [List.length_map, List.length_range]
theorem rng_get {lo : Int} {n i : Nat} (h : i < n) : (rng lo n)[i]? = some (.int (lo + (i : Nat))) := by
  unfold rng
  rw [List.getElem?_map, List.getElem?_range h]; rfl
theorem rng_rel {K : Frag} {H : Hp} {lo : Int} {n : Nat} : JRel K H (Itr lo n) (rng lo n) (fun _ => True) :=
  ⟨fun i H2 G2 t2 w2 l2 hi => by rw [rng_len] at hi; exact hi, fun i H2 G2 x H3 t2 w2 l2 hi y => by
    obtain ⟨rfl, rfl⟩ := y
    rw [rng_len] at hi
    exact ⟨Same.refl _, .int (lo + i), rng_get hi, .int _⟩, fun i H2 G2 t2 w2 l2 hi => by rw [rng_len] at hi; exact Nat.le_of_eq hi.symm⟩
def dIRng (t : TDA) : TDI := fun δ G R => t δ G fun ds G1 => ∃ j : Int, ds = [.int j] ∧ -(2 ^ 62) ≤ j ∧ j < 2 ^ 62 ∧ R (rng 0 j.toNat) (fun _ => True) G1
theorem di_range {a : Expr} {t : TDA} {p pos : Pos} (hm : X.mg "range" = none) (hg : Gl X "range") (ha : DA X [a] t) (hs : starEach [a] X.env = [(false, eval a X.env)] := by rfl) : DI X tg (.Call (.Name "range" p) [a] [] pos) (dIRng t) :=
  PI_mono (pi_range1 hg hm ha hs) fun σ H R' ⟨δ, G, R, sl, w, q, f⟩ => ⟨δ, G, _, sl, w, q, fun ds G1 vs H1 ⟨j, e, h1, h2, q1⟩ t1 w1 r1 => by
    subst e
    cases r1 with
    | cons ra rb =>
      cases rb
      cases ra
      exact ⟨j, rfl, h1, h2, f _ _ _ _ _ q1 t1 w1 rng_rel⟩⟩
def dIRng2 (t : TDA) : TDI := fun δ G R => t δ G fun ds G1 => ∃ i j : Int, ds = [.int i, .int j] ∧ (-(2 ^ 62) ≤ i ∧ i < 2 ^ 62 ∧ -(2 ^ 62) ≤ j ∧ j < 2 ^ 62) ∧ R (rng i (j - i).toNat) (fun _ => True) G1
/-- enumerate of a list -/
def nmbd (ds : List DV) : List DV := ds.zipIdx.map fun p => .tup [.int (p.2 : Nat), p.1]
variable {elts : List Expr} {kk : Nat} {tpos : Pos}
def dIEnum (t : TDA) : TDI := fun δ G R => t δ G fun xs G1 => ∃ p ds, xs = [.ref p] ∧ Ls G1 p ds ∧ R (nmbd ds) (fun G => Ls G p ds) G1
/-- reversed of a list -/
def dIRev (t : TDA) : TDI := fun δ G R => t δ G fun xs G1 => ∃ p ds, xs = [.ref p] ∧ Ls G1 p ds ∧ R ds.reverse (fun G => Ls G p ds) G1
/-! ### for -/
def dFor (ti : TDI) (g : TDG) (tb : TDS) : TDS := fun D δ G => ti δ G fun ds st G1 => ∃ Pv : Nat → DSt → DG → Prop, Pv 0 δ G1 ∧ (∀ i δ G, Pv i δ G → st G) ∧
  (∀ i d δ G, ds[i]? = some d → Pv i δ G → g d δ G fun δ2 G2 => tb { D with nx := Pv (i + 1), ct := Pv (i + 1), bk := D.nx } δ2 G2) ∧ (∀ δ G, Pv ds.length δ G → D.nx δ G)
theorem ds_for {iter : Expr} {body : List Stmt} {ti : TDI} {g : TDG} {tb : TDS} {pos : Pos} (hp : PassesOwn (model X.prog X.w) X.A X.env X.xe) (hc : X.calm = true) (hi : DI X tg iter ti) (hg : DGt X tg g) (hb : DSs X body tb)
    (hs : ∀ x, foldedSetIterable iter X.env x = pure x := by intro _; rfl) : DS X (.For tg iter body [] pos) (dFor ti g tb) := by
  refine PS_mono (ps_for hp hc hi hg hb hs) fun D σ H ⟨D', δ, G, sl, w, l, h⟩ => ⟨δ, G, _, sl, w, h, fun ds st G1 H1 J ⟨Pv, p0, pst, ps, pd⟩ t1 w1 j => ?_⟩
  refine ⟨fun i m σ H2 => ∃ δ G, Pv i δ G ∧ TKs X.K H1 H2 ∧ Wd X.K H2 G ∧ Sl X.K H2 σ δ ∧ i ≤ ds.length ∧ m = ds.length - i, ⟨_, δ, G1, p0, TKs.refl _, w1, sl.mono t1, Nat.zero_le _, rfl⟩, ?_⟩
  rintro i m σ2 H2 ⟨δ2, G2, p2, t2, w2, sl2, hi2, rfl⟩
  by_cases hlt : i < ds.length
  · refine .inr ⟨j.go i H2 G2 t2 w2 (pst _ _ _ p2) hlt, fun σ3 H3 => ∃ δ G, Pv (i + 1) δ G ∧ TKs X.K H1 H3 ∧ Wd X.K H3 G ∧ Sl X.K H3 σ3 δ, fun σ3 H3 ⟨δ3, G3, p3, t3, w3, sl3⟩ => ⟨_, by omega, δ3, G3, p3, t3, w3, sl3, hlt, rfl⟩, fun x H3 y => ?_⟩
    obtain ⟨s3, d, hd, rd⟩ := j.yld i H2 G2 x H3 t2 w2 (pst _ _ _ p2) hlt y
    have t3 := TKs.of (K := X.K) s3
    refine ⟨d, δ2, G2, _, rd, sl2.mono t3, w2.same s3, ps i d δ2 G2 hd p2, fun δ4 G4 σ4 H4 q4 t4 w4 sl4 => ⟨{ D' with nx := Pv (i + 1), ct := Pv (i + 1), bk := D'.nx }, δ4, G4, sl4, w4, ?_, q4⟩⟩
    have t14 := t2.trans (t3.trans t4)
    have t04 := t1.trans t14
    exact ⟨fun σ5 δ5 G5 H5 q5 t5 w5 sl5 => ⟨δ5, G5, q5, t14.trans t5, w5, sl5⟩, fun d5 G5 v5 H5 q5 t5 w5 r5 => l.rt _ _ _ _ q5 (t04.trans t5) w5 r5,
      fun σ5 δ5 G5 H5 q5 t5 w5 sl5 => l.nx _ _ _ _ q5 (t04.trans t5) w5 sl5, fun σ5 δ5 G5 H5 q5 t5 w5 sl5 => ⟨δ5, G5, q5, t14.trans t5, w5, sl5⟩⟩
  · have e : i = ds.length := by omega
    subst e
    exact .inl ⟨j.stop _ H2 G2 t2 w2 (pst _ _ _ p2) rfl, l.nx _ _ _ _ (pd _ _ p2) (t1.trans t2) w2 sl2⟩
/-! ### while -/
def dWhile (c : TDT) (tb : TDS) : TDS := fun D δ G => ∃ Pv : Nat → DSt → DG → Prop, (∃ m, Pv m δ G) ∧ ∀ m δ G, Pv m δ G →
  c δ G fun b G1 => if b = true then tb { D with nx := fun δ' G' => ∃ m', m' < m ∧ Pv m' δ' G', ct := fun δ' G' => ∃ m', m' < m ∧ Pv m' δ' G', bk := D.nx } δ G1 else D.nx δ G1
theorem ds_while {c : Expr} {body : List Stmt} {tc : TDT} {tb : TDS} {pos : Pos} (hp : PassesOwn (model X.prog X.w) X.A X.env X.xe) (hc : DT X c tc) (hb : DSs X body tb) : DS X (.While c body [] pos) (dWhile tc tb) := by
  refine PS_mono (ps_while hp hc hb) fun D σ H ⟨D', δ, G, sl, w, l, Pv, ⟨m0, p0⟩, step⟩ => ?_
  refine ⟨fun m σ H2 => ∃ δ G, Pv m δ G ∧ TKs X.K H H2 ∧ Wd X.K H2 G ∧ Sl X.K H2 σ δ, ⟨m0, δ, G, p0, TKs.refl _, w, sl⟩, ?_⟩
  rintro m σ2 H2 ⟨δ2, G2, p2, t2, w2, sl2⟩
  refine ⟨δ2, G2, _, sl2, w2, step m δ2 G2 p2, fun b G3 H3 q t3 w3 => ?_⟩
  have t23 := t2.trans t3
  cases b with
  | false => exact iteF (l.nx _ _ _ _ q t23 w3 (sl2.mono t3))
  | true =>
    refine iteT ⟨fun σ4 H4 => ∃ m', m' < m ∧ ∃ δ G, Pv m' δ G ∧ TKs X.K H H4 ∧ Wd X.K H4 G ∧ Sl X.K H4 σ4 δ, fun σ' H' ⟨m', lt, x⟩ => ⟨m', lt, x⟩, _, δ2, G3, sl2.mono t3, w3, ?_, q⟩
    exact ⟨fun σ5 δ5 G5 H5 ⟨m', lt, q5⟩ t5 w5 sl5 => ⟨m', lt, δ5, G5, q5, t23.trans t5, w5, sl5⟩, fun d5 G5 v5 H5 q5 t5 w5 r5 => l.rt _ _ _ _ q5 (t23.trans t5) w5 r5,
      fun σ5 δ5 G5 H5 q5 t5 w5 sl5 => l.nx _ _ _ _ q5 (t23.trans t5) w5 sl5, fun σ5 δ5 G5 H5 ⟨m', lt, q5⟩ t5 w5 sl5 => ⟨m', lt, δ5, G5, q5, t23.trans t5, w5, sl5⟩⟩
end
end DD
namespace DD
open PySem PySem.W L2 SX Cm
/-! ### comprehensions -/
def wipeD (δ : DSt) : List Nat → DSt
  | [] => δ
  | v :: vs => (wipeD δ vs).set v none
theorem Sl.wipe {K : Frag} {H : Hp} {σ : St} {δ : DSt} (h : Sl K H σ δ) : ∀ vs : List Nat, Sl K H (L2.wipe σ vs) (wipeD δ vs)
  | [] => h
  | v :: vs => (Sl.wipe h vs).unset v
theorem set_comm' {α : Type} : ∀ (σ : List α) (i j : Nat) (x y : α), i ≠ j → (σ.set i x).set j y = (σ.set j y).set i x
  | [], _, _, _, _, _ => rfl
  | a :: r, 0, 0, _, _, h => absurd rfl h
  | a :: r, 0, j + 1, _, _, _ => rfl
  | a :: r, i + 1, 0, _, _, _ => rfl
  | a :: r, i + 1, j + 1, x, y, h => by
    show a :: _ = a :: _
    rw [set_comm' r i j x y (fun z => h (by rw [z]))]
theorem set_set' {α : Type} : ∀ (σ : List α) (i : Nat) (x y : α), (σ.set i x).set i y = σ.set i y
  | [], _, _, _ => rfl
  | a :: r, 0, _, _ => rfl
  | a :: r, i + 1, x, y => by
    show a :: _ = a :: _
    rw [set_set' r i x y]
theorem wipe_out (i : Nat) (x : Option V) : ∀ (vs : List Nat) (σ : St), i ∉ vs → wipe (σ.set i x) vs = (wipe σ vs).set i x
  | [], _, _ => rfl
  | v :: vs, σ, h => by
    have h1 : i ≠ v := fun z => h (by rw [z]; exact List.mem_cons_self ..)
    have h2 : i ∉ vs := fun z => h (List.mem_cons_of_mem _ z)
    show (wipe (σ.set i x) vs).set v none = ((wipe σ vs).set v none).set i x
    rw [wipe_out i x vs σ h2, set_comm' _ _ _ _ _ h1]
theorem wipe_in (i : Nat) (x : Option V) : ∀ (vs : List Nat) (σ : St), i ∈ vs → wipe (σ.set i x) vs = wipe σ vs
  | [], _, h => nomatch h
  | v :: vs, σ, h => by
    show (wipe (σ.set i x) vs).set v none = (wipe σ vs).set v none
    by_cases hi : i ∈ vs
    · rw [wipe_in i x vs σ hi]
    · rw [wipe_out i x vs σ hi]
      have e : i = v := by
        rcases List.mem_cons.mp h with e | e
        · exact e
        · exact absurd e hi
      rw [e, set_set']
theorem wipe_wipe (σ : St) : ∀ vs : List Nat, wipe (wipe σ vs) vs = wipe σ vs := fun vs => by
  have go : ∀ (ws vs : List Nat), (∀ v ∈ ws, v ∈ vs) → wipe (wipe σ ws) vs = wipe σ vs := by
    intro ws
    induction ws with
    | nil => intro vs _; rfl
    | cons w ws ih =>
      intro vs h
      show wipe ((wipe σ ws).set w none) vs = _
      rw [wipe_in w none vs _ (h w (List.mem_cons_self ..)), ih vs fun v hv => h v (List.mem_cons_of_mem _ hv)]
  exact go vs vs fun v hv => hv
/-- a target of a comprehension: slots alone -/
abbrev TL := DV → DSt → (DSt → Prop) → Prop
def LT (K : Frag) (vs : List Nat) (g : TG) (ld : TL) : Prop := ∀ v d σ δ H R Q, RV K H v d → Sl K H σ δ → ld d δ R → (∀ σ2 δ2, Sl K H σ2 δ2 → wipe σ2 vs = wipe σ vs → R δ2 → Q σ2 H) → g v σ H Q
def l1 (i : Nat) : TL := fun d δ R => R (δ.set i (some d))
def l2 (i j : Nat) : TL := fun d δ R => ∃ a b, d = .tup [a, b] ∧ R ((δ.set i (some a)).set j (some b))
def l3 (i j k : Nat) : TL := fun d δ R => ∃ a b c, d = .tup [a, b, c] ∧ R (((δ.set i (some a)).set j (some b)).set k (some c))
theorem lt1 {K : Frag} {vs : List Nat} {i : Nat} (h : i ∈ vs) : LT K vs (gName i) (l1 i) := fun v d σ δ H R Q r sl q f => f _ _ (sl.set r i) (wipe_in i _ vs σ h) q
theorem lt2 {K : Frag} {vs : List Nat} {i j : Nat} (h : i ∈ vs) (h' : j ∈ vs) : LT K vs (gTup K 2 (gCons (gName i) (gCons (gName j) gNil))) (l2 i j) := fun v d σ δ H R Q r sl ⟨a, b, e, q⟩ f => by
  subst e
  obtain ⟨p, xs, rfl, s, r⟩ := r.tupD
  cases r with
  | cons ra r =>
    cases r with
    | cons rb r =>
      cases r
      exact ⟨p, _, rfl, s, rfl, _, _, rfl, _, _, rfl, rfl, f _ _ ((sl.set ra i).set rb j) (by rw [wipe_in j _ vs _ h', wipe_in i _ vs _ h]) q⟩
def dYes : TDT := fun _ G Q => Q true G
/-- a comprehension: the list that is made stands at p; Pv by the turn, what is made so far, the store -/
def dLc (ti : TDI) (ld : TL) (tt : TDT) (te : TD) (vs : List Nat) : TD := fun δ G Q => ti δ G fun ds st G1 => ∀ p, G1 p = none → ∃ Pv : Nat → List DV → DG → Prop, Pv 0 [] (dupd G1 p (.lst [])) ∧ (∀ i acc G, Pv i acc G → st G) ∧
  (∀ i d acc G, ds[i]? = some d → Pv i acc G → ld d (wipeD δ vs) fun δ2 => tt δ2 G fun b G3 => if b = true then te δ2 G3 fun y G4 => G4 p = some (.lst acc) ∧ acc.length < sizeLine ∧ Pv (i + 1) (acc ++ [y]) (dupd G4 p (.lst (acc ++ [y]))) else Pv (i + 1) acc G3) ∧
  (∀ acc G, Pv ds.length acc G → Q (.ref p) G)
theorem lc_up {K : Frag} {ti : TDI} {g : TG} {ld : TL} {tt : TDT} {te : TD} {vs : List Nat} (lt : LT K vs g ld) {σ : St} {H : Hp} {Q : VK} (h : up K (dLc ti ld tt te vs) σ H Q) : tLc (upI K ti) g (upT K tt) (up K te) vs σ H Q := by
  obtain ⟨δ, G, R, sl, w, h, f⟩ := h
  refine ⟨δ, G, _, sl, w, h, fun ds st G1 H1 J q t1 w1 j p np => ?_⟩
  obtain ⟨Pv, p0, pst, ps, pd⟩ := q p (w1.free np)
  have s0 : Same H1 (upd H1 p (.lst [])) := same_new np _
  refine ⟨fun i m H2 => ∃ acc G, Pv i acc G ∧ TKs K H1 H2 ∧ Wd K H2 G ∧ i ≤ ds.length ∧ m = ds.length - i, ⟨_, [], _, p0, TKs.of s0, w1.new np fun O => ⟨[], upd_same, .nil⟩, Nat.zero_le _, rfl⟩, ?_⟩
  rintro i m H2 ⟨acc, G2, p2, t2, w2, hi, rfl⟩
  by_cases hlt : i < ds.length
  · refine .inr ⟨j.go i H2 G2 t2 w2 (pst _ _ _ p2) hlt, fun H3 => ∃ acc G, Pv (i + 1) acc G ∧ TKs K H1 H3 ∧ Wd K H3 G, fun H3 ⟨acc3, G3, p3, t3, w3⟩ => ⟨_, by omega, acc3, G3, p3, t3, w3, hlt, rfl⟩, fun x H3 y => ?_⟩
    obtain ⟨s3, d, hd, rd⟩ := j.yld i H2 G2 x H3 t2 w2 (pst _ _ _ p2) hlt y
    have t3 := TKs.of (K := K) s3
    have t13 := t2.trans t3
    have w3 := w2.same s3
    refine lt x d _ (wipeD δ vs) H3 _ _ rd (((sl.mono t1).mono t13).wipe vs) (ps i d acc G2 hd p2) fun σ4 δ4 sl4 e4 q4 => ⟨by rw [e4]; exact wipe_wipe σ vs, δ4, G2, _, sl4, w3, q4, fun b G5 H5 q5 t5 w5 => ?_⟩
    have t15 := t13.trans t5
    cases b with
    | false => exact iteF ⟨acc, G5, q5, t15, w5⟩
    | true =>
      refine iteT ⟨δ4, G5, _, sl4.mono t5, w5, q5, fun y G6 vy H6 ⟨e6, l6, q6⟩ t6 w6 r6 => ?_⟩
      obtain ⟨us, hu, ru⟩ := wd_list w6 e6
      obtain ⟨t7, w7⟩ := put_lst w6 e6 hu (ru.append (.cons r6 .nil))
      exact ⟨us, hu, by rw [ru.len]; exact l6, _, _, q6, (t15.trans t6).trans t7, w7⟩
  · have e : i = ds.length := by omega
    subst e
    exact .inl ⟨j.stop _ H2 G2 t2 w2 (pst _ _ _ p2) rfl, f _ _ _ _ (pd _ _ p2) (t1.trans t2) w2 (.ref p)⟩
section
variable {X : Cx}
theorem de_lc {elt tg iter : Expr} {ifs : List Expr} {scope : Scope} {own : List (Str × Nat)} {pos : Pos} {ti : TDI} {g : TG} {ld : TL} {tt : TDT} {te : TD} (lt : LT X.K (own.map (·.2)) g ld) (hc : X.calm = true) (hN : X.N.Nodup) (hi : DI X tg iter ti) (ok : BlkOk X.N X.env.scope scope own)
    (hg : ∀ (s : Shared) (H : Hp) (C : Addr) (cl : List (Str × Addr)) (fp : List Addr), PG (X.blk s H scope (compEnvC scope cl C X.env) fp) tg g) (ht : ∀ (s : Shared) (H : Hp) (C : Addr) (cl : List (Str × Addr)) (fp : List Addr), PTs (X.blk s H scope (compEnvC scope cl C X.env) fp) ifs (upT X.K tt))
    (he : ∀ (s : Shared) (H : Hp) (C : Addr) (cl : List (Str × Addr)) (fp : List Addr), PE (X.blk s H scope (compEnvC scope cl C X.env) fp) elt (up X.K te)) (hs : ∀ x, foldedSetIterable iter X.env x = pure x := by intro _; rfl) :
    DE X (.ListComp elt [⟨tg, iter, ifs, 0⟩] scope pos) (dLc ti ld tt te (own.map (·.2))) := PE_mono (pe_lc hc hN hi ok hg ht he hs) fun σ H Q h => lc_up lt h
theorem ds_setLc {i : Nat} {y : Str} {py : Pos} {elt tg iter : Expr} {ifs : List Expr} {scope : Scope} {own : List (Str × Nat)} {pos spos : Pos} {ti : TDI} {g : TG} {ld : TL} {tt : TDT} {te : TD} (lt : LT X.K (own.map (·.2)) g ld) (hc : X.calm = true) (hN : X.N.Nodup) (hy : X.N[i]? = some y) (hyl : X.env.scope.names.lookup y = some .local)
    (hsw : swapsWith (.ListComp elt [⟨tg, iter, ifs, 0⟩] scope pos) (some (.Name y py)) spos.line X.env = pure true) (hi : DI X tg iter ti) (ok : BlkOk X.N X.env.scope scope own)
    (hg : ∀ (s : Shared) (H : Hp) (C : Addr) (cl : List (Str × Addr)) (fp : List Addr), PG (X.blk s H scope (compEnvC scope cl C X.env) fp) tg g) (ht : ∀ (s : Shared) (H : Hp) (C : Addr) (cl : List (Str × Addr)) (fp : List Addr), PTs (X.blk s H scope (compEnvC scope cl C X.env) fp) ifs (upT X.K tt))
    (he : ∀ (s : Shared) (H : Hp) (C : Addr) (cl : List (Str × Addr)) (fp : List Addr), PE (X.blk s H scope (compEnvC scope cl C X.env) fp) elt (up X.K te)) (hs : ∀ x, foldedSetIterable iter X.env x = pure x := by intro _; rfl) :
    DS X (.Assign [.Name y py] (.ListComp elt [⟨tg, iter, ifs, 0⟩] scope pos) spos) (dAsg (dLc ti ld tt te (own.map (·.2))) (gN i)) := PS_mono (ps_setLc hc hN hy hyl hsw hi ok hg ht he hs) fun D σ H ⟨D', δ, G, sl, w, l, h⟩ => by
  refine lc_up lt (Q := fun v H1 => gName i v σ H1 D.nx) ⟨δ, G, _, sl, w, h, fun d G1 v H1 q t1 w1 r1 => ?_⟩
  exact l.nx _ _ _ _ q t1 w1 ((sl.mono t1).set r1 i)
theorem dts_nil : PTs X [] (upT X.K dYes) := ⟨fun pins s σ H Q I ⟨δ, G, R, sl, w, h, f⟩ => pts_nil.run pins s σ H Q I (f _ _ _ h (TKs.refl H) w)⟩
theorem dts_one {c : Expr} {t : TDT} (h : DT X c t) : PTs X [c] (upT X.K t) := pts_one h
end
/-- elements that leave the store as it is -/
theorem lc_pure {ds : List DV} {st : DG → Prop} {ld : TL} {tt : TDT} {te : TD} {vs : List Nat} {δ : DSt} {G1 : DG} {Q : DK} (f : DV → Option DV) (hsc : ∀ p o, G1 p = none → st (dupd G1 p o)) (hl : ds.length ≤ 1000000)
    (h : ∀ d ∈ ds, ∀ (G : DG) (k1 : DK) (k0 : DG → Prop), (∃ p acc, G1 p = none ∧ G = dupd G1 p (.lst acc)) → (∀ y, f d = some y → k1 y G) → (f d = none → k0 G) →
      ld d (wipeD δ vs) fun δ2 => tt δ2 G fun b G3 => if b = true then te δ2 G3 k1 else k0 G3)
    (q : ∀ p, G1 p = none → Q (.ref p) (dupd G1 p (.lst (ds.filterMap f)))) :
    ∀ p, G1 p = none → ∃ Pv : Nat → List DV → DG → Prop, Pv 0 [] (dupd G1 p (.lst [])) ∧ (∀ i acc G, Pv i acc G → st G) ∧
      (∀ i d acc G, ds[i]? = some d → Pv i acc G → ld d (wipeD δ vs) fun δ2 => tt δ2 G fun b G3 => if b = true then te δ2 G3 fun y G4 => G4 p = some (.lst acc) ∧ acc.length < sizeLine ∧ Pv (i + 1) (acc ++ [y]) (dupd G4 p (.lst (acc ++ [y]))) else Pv (i + 1) acc G3) ∧
      (∀ acc G, Pv ds.length acc G → Q (.ref p) G) := by
  intro p np
  refine ⟨fun i acc G => acc = (ds.take i).filterMap f ∧ i ≤ ds.length ∧ G = dupd G1 p (.lst acc), ⟨rfl, Nat.zero_le _, rfl⟩, fun i acc G ⟨_, _, e⟩ => by rw [e]; exact hsc p _ np, ?_, ?_⟩
  · rintro i d acc G hd ⟨ea, hi, rfl⟩
    have hlt : i < ds.length := (List.getElem?_eq_some_iff.mp hd).1
    have et : ds.take (i + 1) = ds.take i ++ [d] := by rw [List.take_add_one, hd]; rfl
    have la : acc.length ≤ i := by rw [ea]; exact Nat.le_trans (List.length_filterMap_le _ _) (by rw [List.length_take]; omega)
    refine h d (List.mem_of_getElem? hd) _ _ _ ⟨p, acc, np, rfl⟩ (fun y hf => ?_) (fun hf => ?_)
    · refine ⟨dupd_same, midlt (by omega), ?_, hlt, dupd_dupd⟩
      rw [et, List.filterMap_append, ← ea]
      show acc ++ [y] = acc ++ List.filterMap f [d]
      rw [List.filterMap_cons_some hf]; rfl
    · refine ⟨?_, hlt, rfl⟩
      rw [et, List.filterMap_append, ← ea, List.filterMap_cons_none hf, List.filterMap_nil, List.append_nil]
  · rintro acc G ⟨ea, _, rfl⟩
    rw [ea, List.take_length]
    exact q p np
end DD
namespace DD
open PySem PySem.W L2 SX Cm
/-! ### defs -/
abbrev DSp := List DV → DG → DK → Prop
def toSp (K : Frag) (n : Nat) (dsp : DSp) : Sp := fun vs H Q _ => ∃ ds G R, RVs K H vs ds ∧ Wd K H G ∧ ds.length = n ∧ dsp ds G R ∧ Fin K H R Q
theorem _root_.PySem.W.L2.Fun.look {K : Frag} {x qual : Str} {st : Stmt} {f : Addr} {fd : FuncData} (F : Fun K x qual st f fd) : ∃ oc od osl, K.lookup f = some ⟨oc, od, .func fd, osl⟩ := by
  obtain ⟨oc, od, kV, doc, pm, an, cdv, ct, osl, rfl, lk, _⟩ := F.ex
  exact ⟨oc, od, osl, lk⟩
/-- the def nm keeps a promise about data, by level k -/
def Has (P : Program) (w : World) (K : Frag) (mg : Str → Option Value) (base : Heap) (k : Nat) (nm : Str) (ps : List Str) (dsp : DSp) : Prop :=
  ∃ f fd, FnOk P w K mg base CX0 k f fd ps (toSp K ps.length dsp) ∧ L2.Binds K fd ps [] ∧ keepIn K (.ref f) = true ∧ mg nm = some (.ref f) ∧ ∃ oc od osl, K.lookup f = some ⟨oc, od, .func fd, osl⟩
section
variable {P : Program} {w : World} {K : Frag} {mg : Str → Option Value} {base : Heap} {k : Nat} {nm : Str} {ps : List Str} {dsp : DSp}
theorem Has.mono {j : Nat} (h : Has P w K mg base k nm ps dsp) (l : k ≤ j) : Has P w K mg base j nm ps dsp := by
  obtain ⟨f, fd, a, b⟩ := h
  exact ⟨f, fd, a.mono l, b⟩
/-- many promises of one def -/
theorem Has.any {ι : Type} [ne : Nonempty ι] {d : ι → DSp} (h : ∀ i, Has P w K mg base k nm ps (d i)) : Has P w K mg base k nm ps (fun ds G R => ∃ i, d i ds G R) := by
  obtain ⟨i0⟩ := ne
  obtain ⟨f, fd, a, b, kp, m, oc, od, osl, lk⟩ := h i0
  have all : ∀ i, FnOk P w K mg base CX0 k f fd ps (toSp K ps.length (d i)) := fun i => by
    obtain ⟨f', fd', a', b', kp', m', oc', od', osl', lk'⟩ := h i
    rw [m] at m'
    cases m'
    rw [lk] at lk'
    cases lk'
    exact a'
  refine ⟨f, fd, ⟨fun vs H Q E ⟨ds, G, R, r, w, l, ⟨i, h⟩, f⟩ => (all i).len vs H Q E ⟨ds, G, R, r, w, l, h, f⟩, fun A outer s H args us vs Q E hr he hb hv ⟨ds, G, R, r, w, l, ⟨i, h⟩, f⟩ => (all i).run A outer s H args us vs Q E hr he hb hv ⟨ds, G, R, r, w, l, h, f⟩⟩, b, kp, m, oc, od, osl, lk⟩
theorem Has.imp {dsp' : DSp} (h : Has P w K mg base k nm ps dsp) (i : ∀ ds G R, dsp' ds G R → dsp ds G R) : Has P w K mg base k nm ps dsp' := by
  obtain ⟨f, fd, a, b⟩ := h
  exact ⟨f, fd, a.imp fun vs H Q E ⟨ds, G, R, r, w, l, h, f⟩ => ⟨ds, G, R, r, w, l, i ds G R h, f⟩, b⟩
end
section
variable {X : Cx} {k : Nat} {nm : Str} {ps : List Str} {dsp : DSp} {e : Expr} {es : List Expr} {ts : TDA} {p pos : Pos}
def dCall (n : Nat) (dsp : DSp) (t : TDA) : TD := fun δ G Q => t δ G fun ds G1 => ds.length = n ∧ dsp ds G1 Q
theorem de_call (h : Has X.prog X.w X.K X.mg X.base k nm ps dsp) (hr : Room k X.A) (hg : Gl X nm) (ha : DA X (e :: es) ts) (hdb : (nm == ("__debug__" : Str)) = false := by decide) (he : starEach (e :: es) X.env = (false, eval e X.env) :: starEach es X.env := by rfl) (hpl : (backTo pos (starEach es X.env)).any (·.1) = false := by rfl) :
    DE X (.Call (.Name nm p) (e :: es) [] pos) (dCall ps.length dsp ts) := by
  obtain ⟨f, fd, F, b, kp, m, _⟩ := h
  refine PE_mono (pe_call F hr hg m kp b .nil (pass0 (X := X)) ha hdb he hpl) fun σ H Q ⟨δ, G, R, sl, w, h, f⟩ => ⟨δ, G, _, sl, w, h, fun ds G1 vs H1 h1 t1 w1 r1 => ?_⟩
  show toSp X.K ps.length dsp (vs ++ []) H1 Q E0
  rw [List.append_nil]
  exact ⟨ds, G1, R, r1, w1, h1.1, h1.2, f.step t1⟩
end
def dstart (N : List Str) (ds : List DV) : DSt := ds.map some ++ List.replicate (N.length - ds.length) none
theorem Sl.nones {K : Frag} {H : Hp} : ∀ n : Nat, Sl K H (List.replicate n none) (List.replicate n none)
  | 0 => .nil
  | n + 1 => .non (Sl.nones n)
theorem Sl.somes {K : Frag} {H : Hp} {σ : St} {δ : DSt} (h : Sl K H σ δ) : ∀ {vs : List V} {ds : List DV}, RVs K H vs ds → Sl K H (vs.map some ++ σ) (ds.map some ++ δ)
  | _, _, .nil => h
  | _, _, .cons r t => .cons r (Sl.somes h t)
theorem sl_start {K : Frag} {H : Hp} {N : List Str} {vs : List V} {ds : List DV} (r : RVs K H vs ds) : Sl K H (L2.start N vs) (dstart N ds) := by
  unfold L2.start dstart
  rw [r.len]
  exact Sl.somes (Sl.nones _) r
/-- what is told of the store behind a def: less than is known -/
def Less (R : DK) : DK := fun d G => ∃ G', Sub G' G ∧ R d G'
theorem Less.of {R : DK} {d : DV} {G : DG} (h : R d G) : Less R d G := ⟨G, Sub.refl G, h⟩
section
variable {P : Program} {w : World} {K : Frag} {mg : Str → Option Value} {base : Heap}
theorem links_def {H : Hp} {R : DK} {Q : VK} (f : Fin K H R Q) : Links K H { nx := fun _ G => Less R .non G, rt := Less R } { nx := fun _ H' => Q .non H', rt := Q } :=
  ⟨fun σ δ G H' ⟨G', s, r⟩ t w sl => f _ G' _ H' r t (w.sub s) .non, fun d G v H' ⟨G', s, r⟩ t w rv => f _ G' _ H' r t (w.sub s) rv, fun _ _ _ _ h => h.elim, fun _ _ _ _ h => h.elim⟩
/-- a def by its body, over data -/
theorem has_mk {nm : Str} {st : Stmt} {f : Addr} {fd : FuncData} {N ps : List Str} {k : Nat} {dsp : DSp} (F : Fun K nm nm st f fd) (b : L2.Binds K fd ps []) (m : mg nm = some (.ref f)) (S : FnScope N ps (defScope st))
    (body : ∀ (cdv : Value) (A : Around) (outer : List Env) (s : Shared) (H : Hp) (E : XK), Room k (A.deeper (PyProof.Rows.envOfC nm (defScope st) s.heap.objs.size f cdv)) → ∀ ds G R, ds.length = ps.length → dsp ds G R →
      ∃ t, DSs (cxOf CX0 P w K mg base N nm (defScope st) f cdv A outer s H E).nox (defBody st) t ∧ t { nx := fun _ G => Less R .non G, rt := Less R } (dstart N ds) G) : Has P w K mg base (k + 1) nm ps dsp := by
  refine ⟨f, fd, F.ok S (fun vs H Q E h => ?_) (fun cdv A outer s H vs Q E hr h => ?_), b, F.kp, m, F.look⟩
  · obtain ⟨ds, G, R, r, w, l, _⟩ := h
    rw [r.len]; exact l
  · obtain ⟨ds, G, R, r, wd, l, h, fin⟩ := h
    obtain ⟨t, h1, h2⟩ := body cdv A outer s H E hr ds G R l h
    exact ⟨_, h1, _, _, G, sl_start r, wd, links_def fin, h2⟩
end
/-! ### things of which only something is known -/
theorem Wd.abs_keep {K : Frag} {H H' : Hp} {G : DG} {d : Addr} {L : List Addr} {φ : Hp → Prop} (w : Wd K H G) (e : G d = some (.abs L φ)) (kp : Kp L H H') (t : TKs K H H') (hφ : φ H') (hl : ∀ b ∈ L, ∃ xs, H' b = some (.lst xs)) : Wd K H' G := by
  obtain ⟨O, w⟩ := w
  obtain ⟨md, _, _, loc, ow⟩ := w.ob d _ e
  have nL : ∀ a o, G a = some o → a ≠ d → a ∉ L := fun a o ea ne m => by
    have := ow a m ne
    have := (w.own a d this).1
    rw [ea] at this; cases this
  have nO : ∀ b a, O b = some a → a ≠ d → b ∉ L := fun b a eb ne m => by
    by_cases hbd : b = d
    · have := (w.own b a eb).1
      rw [hbd, e] at this; cases this
    · have := ow b m hbd
      rw [eb] at this
      exact ne (Option.some.inj this)
  refine ⟨O, ⟨fun b a eb => ?_, fun a o ea => ?_⟩⟩
  · obtain ⟨h1, xs, h2⟩ := w.own b a eb
    by_cases had : a = d
    · by_cases hm : b ∈ L
      · exact ⟨h1, hl b hm⟩
      · exact ⟨h1, xs, kp b _ hm h2⟩
    · exact ⟨h1, xs, kp b _ (nO b a eb had) h2⟩
  · by_cases had : a = d
    · subst had
      rw [e] at ea
      cases ea
      exact ⟨md, hl a md, hφ, loc, ow⟩
    · refine OR.keep w t ea fun b hb => ?_
      obtain ⟨u, hu, nb⟩ : ∃ u, H b = some u ∧ b ∉ L := by
        rcases hb with rfl | hb
        · obtain ⟨u, hu⟩ := (w.ob _ o ea).some
          exact ⟨u, hu, nL _ o ea had⟩
        · obtain ⟨_, xs, h⟩ := w.own b a hb
          exact ⟨_, h, nO b a hb had⟩
      rw [hu, kp b u nb hu]
/-- nothing but one thing is known -/
theorem wd_one {K : Frag} {H : Hp} {d : Addr} {L : List Addr} {φ : Hp → Prop} (md : d ∈ L) (hφ : φ H) (hl : ∀ b ∈ L, ∃ xs, H b = some (.lst xs)) (loc : ∀ H1 H2, (∀ b ∈ L, H1 b = H2 b) → φ H1 → φ H2) : Wd K H (dupd (fun _ => none) d (.abs L φ)) := by
  refine ⟨fun b => if b ∈ L ∧ b ≠ d then some d else none, ⟨fun b a e => ?_, fun a o e => ?_⟩⟩
  · by_cases h : b ∈ L ∧ b ≠ d
    · exact ⟨dupd_ne h.2, hl b h.1⟩
    · rw [if_neg h] at e; cases e
  · by_cases had : a = d
    · subst had
      rw [dupd_same] at e
      cases e
      exact ⟨md, hl a md, hφ, loc, fun b hb hbd => if_pos ⟨hb, hbd⟩⟩
    · rw [dupd_ne had] at e; cases e
end DD
namespace PySem
open Sem (wp)
open AutoSeq1 (wpAny_loadPart')
end PySem
namespace DD
open PySem PySem.W L2 SX Cm PyProof.Rows
section
variable {X : Cx} {elts : List Expr} {kk : Nat} {tpos : Pos}
/-- enumerate of a tuple -/
def dIEnumT (t : TDA) : TDI := fun δ G R => t δ G fun xs G1 => ∃ ds, xs = [.tup ds] ∧ R (nmbd ds) (fun _ => True) G1
end
end DD
namespace PySem.W
open PySem PySem.Calls PyProof.Rows
end PySem.W
namespace DD
open PySem PySem.W L2 SX Cm PyProof.Rows
end DD
namespace DD
open PySem PySem.W L2 SX Cm
/-- the names of built-ins are still theirs -/
structure BI (mg : Str → Option Value) : Prop where
  len : mg "len" = none
  isi : mg "isinstance" = none
  int : mg "int" = none
  str : mg "str" = none
  tup : mg "tuple" = none
  lst : mg "list" = none
  bool : mg "bool" = none
  dct : mg "dict" = none
  all : mg "all" = none
  any : mg "any" = none
  sum : mg "sum" = none
  sorted : mg "sorted" = none
  set : mg "set" = none
  range : mg "range" = none
  enum : mg "enumerate" = none
  zip : mg "zip" = none
  rev : mg "reversed" = none
/-- the def nm stands at its place -/
def At (K : Frag) (mg : Str → Option Value) (nm : Str) (st : Stmt) (ps : List Str) : Prop := ∃ f fd, Fun K nm nm st f fd ∧ L2.Binds K fd ps [] ∧ mg nm = some (.ref f)
section
variable {P : Program} {w : World} {K : Frag} {mg : Str → Option Value} {base : Heap}
theorem at_mk {nm : Str} {st : Stmt} {N ps : List Str} {k : Nat} {dsp : DSp} (a : At K mg nm st ps) (S : FnScope N ps (defScope st))
    (body : ∀ (f : Addr) (cdv : Value) (A : Around) (outer : List Env) (s : Shared) (H : Hp) (E : XK), Room k (A.deeper (PyProof.Rows.envOfC nm (defScope st) s.heap.objs.size f cdv)) → ∀ ds G R, ds.length = ps.length → dsp ds G R →
      ∃ t, DSs (cxOf CX0 P w K mg base N nm (defScope st) f cdv A outer s H E).nox (defBody st) t ∧ t { nx := fun _ G => Less R .non G, rt := Less R } (dstart N ds) G) : Has P w K mg base (k + 1) nm ps dsp := by
  obtain ⟨f, fd, F, b, m⟩ := a
  exact has_mk F b m S (body f)
/-- a promise about the heap gives one about data -/
theorem has_of {nm : Str} {st : Stmt} {ps : List Str} {k : Nat} {sp : Sp} {dsp : DSp} (a : At K mg nm st ps) (h : ∀ f fd, Fun K nm nm st f fd → FnOk P w K mg base CX0 k f fd ps sp) (i : ∀ vs H Q E, toSp K ps.length dsp vs H Q E → sp vs H Q E) : Has P w K mg base k nm ps dsp := by
  obtain ⟨f, fd, F, b, m⟩ := a
  exact ⟨f, fd, (h f fd F).imp i, b, F.kp, m, F.look⟩
end
section
variable {X : Cx}
theorem dv (i : Nat) {x : Str} {pos : Pos} (hN : X.N[i]? = some x := by rfl) (hv : Vis X.env.scope x := by first | exact Or.inl rfl | exact Or.inr (Or.inl rfl) | exact Or.inr (Or.inr rfl)) (hd : (x == ("__debug__" : Str)) = false := by decide)
    (hcd : (x == ("__classdict__" : Str)) = false := by decide) : DE X (.Name x pos) (dVar i) := de_var hN hv hd hcd
/-- reversed(range(n)) -/
def dIRevR (t : TDA) : TDI := fun δ G R => t δ G fun ds G1 => ∃ j : Int, ds = [.int j] ∧ 0 ≤ j ∧ j < 2 ^ 62 ∧ R (rng 0 j.toNat).reverse (fun _ => True) G1
end
end DD
/-! things, words and rows as they are, and as data -/
namespace DD
open PySem PySem.W L2 SX Cm
theorem ly1 {i : Nat} {d : DV} {δ : DSt} {G : DG} {k : DSt → Bool → DG → Prop} (h : k (δ.set i (some d)) true G) : l1 i d δ (fun δ2 => dYes δ2 G (k δ2)) := h
theorem ly2 {i j : Nat} {a b : DV} {δ : DSt} {G : DG} {k : DSt → Bool → DG → Prop} (h : k ((δ.set i (some a)).set j (some b)) true G) : l2 i j (.tup [a, b]) δ (fun δ2 => dYes δ2 G (k δ2)) := ⟨a, b, rfl, h⟩
theorem lt1' {i : Nat} {d : DV} {δ : DSt} {k : DSt → Prop} (h : k (δ.set i (some d))) : l1 i d δ k := h
theorem Sub.at_ {G G' : DG} {p : Addr} {o : DO} (s : Sub G G') (h : G' p = some o) : Sub (dupd G p o) G' := fun a u e => by
  by_cases z : a = p
  · subst z; rw [dupd_same] at e; rw [h]; exact e
  · rw [dupd_ne z] at e; exact s a u e
theorem Sub.nonew {G G' : DG} {p : Addr} (s : Sub G G') (n : G' p = none) : G p = none := by
  cases e : G p with
  | none => rfl
  | some o => rw [s p o e] at n; cases n
theorem ne_some {G : DG} {a b : Addr} {o : DO} (h : G a = some o) (n : G b = none) : a ≠ b := fun z => by rw [z, n] at h; cases h
theorem sz1 : (1 : Nat) ≤ sizeLine := by decide
mutual
inductive Th where
  | num (n : Int)
  | row (ws : List Wo)
  | lst (ts : List Th)
inductive Wo where
  | txt (z : Str)
  | push (t : Th)
end
mutual
def eT : Th → DV
  | .num n => .tup [.str "number", .int n]
  | .row ws => .tup [.str "row", .tup (eWs ws)]
  | .lst ts => .tup [.str "list", .tup (eTs ts)]
def eW : Wo → DV
  | .txt z => .str z
  | .push t => .tup [.str "push", eT t]
def eWs : List Wo → List DV
  | [] => []
  | w :: r => eW w :: eWs r
def eTs : List Th → List DV
  | [] => []
  | t :: r => eT t :: eTs r
end
mutual
/-- how many parts in all -/
def szT : Th → Nat
  | .num _ => 1
  | .row ws => 1 + szWs ws
  | .lst ts => 1 + szTs ts
def szW : Wo → Nat
  | .txt _ => 1
  | .push t => 1 + szT t
def szWs : List Wo → Nat
  | [] => 0
  | w :: r => szW w + szWs r
def szTs : List Th → Nat
  | [] => 0
  | t :: r => szT t + szTs r
end
mutual
def dpT : Th → Nat
  | .num _ => 0
  | .row ws => 1 + dpWs ws
  | .lst ts => 1 + dpTs ts
def dpW : Wo → Nat
  | .txt _ => 0
  | .push t => dpT t
def dpWs : List Wo → Nat
  | [] => 0
  | w :: r => max (dpW w) (dpWs r)
def dpTs : List Th → Nat
  | [] => 0
  | t :: r => max (dpT t) (dpTs r)
end
mutual
/-- its texts are texts -/
def txT : Th → Bool
  | .num _ => true
  | .row ws => txWs ws
  | .lst ts => txTs ts
def txW : Wo → Bool
  | .txt z => PyData.strOk z
  | .push t => txT t
def txWs : List Wo → Bool
  | [] => true
  | w :: r => txW w && txWs r
def txTs : List Th → Bool
  | [] => true
  | t :: r => txT t && txTs r
end
theorem eWs_len : ∀ ws, (eWs ws).length = ws.length
  | [] => rfl
  | w :: r => congrArg (· + 1) (eWs_len r)
theorem eTs_len : ∀ ws, (eTs ws).length = ws.length
  | [] => rfl
  | w :: r => congrArg (· + 1) (eTs_len r)
theorem eWs_map : ∀ ws, eWs ws = ws.map eW
  | [] => rfl
  | w :: r => by show eW w :: eWs r = _; rw [eWs_map r]; rfl
theorem eTs_map : ∀ ws, eTs ws = ws.map eT
  | [] => rfl
  | w :: r => by show eT w :: eTs r = _; rw [eTs_map r]; rfl
theorem szW_pos : ∀ w, 1 ≤ szW w
  | .txt _ => Nat.le_refl 1
  | .push t => by show 1 ≤ 1 + _; omega
theorem szT_pos : ∀ t, 1 ≤ szT t
  | .num _ => Nat.le_refl 1
  | .row _ => by show 1 ≤ 1 + _; omega
  | .lst _ => by show 1 ≤ 1 + _; omega
theorem szWs_len : ∀ ws, ws.length ≤ szWs ws
  | [] => Nat.le_refl 0
  | w :: r => by have := szW_pos w; have := szWs_len r; show r.length + 1 ≤ szW w + szWs r; omega
theorem szTs_len : ∀ ws, ws.length ≤ szTs ws
  | [] => Nat.le_refl 0
  | w :: r => by have := szT_pos w; have := szTs_len r; show r.length + 1 ≤ szT w + szTs r; omega
theorem szWs_app : ∀ a b, szWs (a ++ b) = szWs a + szWs b
  | [], b => (Nat.zero_add _).symm
  | w :: r, b => by show szW w + szWs (r ++ b) = szW w + szWs r + szWs b; rw [szWs_app r b]; omega
theorem szTs_app : ∀ a b, szTs (a ++ b) = szTs a + szTs b
  | [], b => (Nat.zero_add _).symm
  | w :: r, b => by show szT w + szTs (r ++ b) = szT w + szTs r + szTs b; rw [szTs_app r b]; omega
theorem dpWs_app : ∀ a b, dpWs (a ++ b) = max (dpWs a) (dpWs b)
  | [], b => by show dpWs b = max 0 _; omega
  | w :: r, b => by show max (dpW w) (dpWs (r ++ b)) = max (max (dpW w) (dpWs r)) (dpWs b); rw [dpWs_app r b]; omega
theorem dpTs_app : ∀ a b, dpTs (a ++ b) = max (dpTs a) (dpTs b)
  | [], b => by show dpTs b = max 0 _; omega
  | w :: r, b => by show max (dpT w) (dpTs (r ++ b)) = max (max (dpT w) (dpTs r)) (dpTs b); rw [dpTs_app r b]; omega
theorem txWs_app : ∀ a b, txWs (a ++ b) = (txWs a && txWs b)
  | [], b => rfl
  | w :: r, b => by show (txW w && txWs (r ++ b)) = (txW w && txWs r && txWs b); rw [txWs_app r b, Bool.and_assoc]
theorem txTs_app : ∀ a b, txTs (a ++ b) = (txTs a && txTs b)
  | [], b => rfl
  | w :: r, b => by show (txT w && txTs (r ++ b)) = (txT w && txTs r && txTs b); rw [txTs_app r b, Bool.and_assoc]
/-- a row, a thing: not too deep, not too large, of texts -/
structure GW (k m : Nat) (ws : List Wo) : Prop where
  dp : dpWs ws ≤ k
  sz : szWs ws ≤ m
  tx : txWs ws = true
structure GT (k m : Nat) (t : Th) : Prop where
  dp : dpT t ≤ k
  sz : szT t ≤ m
  tx : txT t = true
structure GTs (k m : Nat) (ts : List Th) : Prop where
  dp : dpTs ts ≤ k
  sz : szTs ts ≤ m
  tx : txTs ts = true
theorem GW.nil {k m : Nat} : GW k m [] := ⟨Nat.zero_le _, Nat.zero_le _, rfl⟩
theorem GTs.nil {k m : Nat} : GTs k m [] := ⟨Nat.zero_le _, Nat.zero_le _, rfl⟩
theorem GW.txt {k : Nat} {z : Str} (h : PyData.strOk z = true) : GW k 1 [.txt z] := ⟨by show max 0 0 ≤ k; omega, Nat.le_refl 1, by show (PyData.strOk z && true) = true; rw [h]; rfl⟩
theorem GW.push {k m : Nat} {t : Th} (h : GT k m t) : GW k (m + 1) [.push t] := ⟨by show max (dpT t) 0 ≤ k; have := h.dp; omega, by show 1 + szT t + 0 ≤ m + 1; have := h.sz; omega, by show (txT t && true) = true; rw [h.tx]; rfl⟩
theorem GTs.one {k m : Nat} {t : Th} (h : GT k m t) : GTs k m [t] := ⟨by show max (dpT t) 0 ≤ k; have := h.dp; omega, by show szT t + 0 ≤ m; have := h.sz; omega, by show (txT t && true) = true; rw [h.tx]; rfl⟩
theorem GT.num {k m : Nat} (n : Int) (hm : 1 ≤ m) : GT k m (.num n) := ⟨Nat.zero_le _, hm, rfl⟩
theorem GT.row {k m : Nat} {ws : List Wo} (h : GW k m ws) : GT (k + 1) (m + 1) (.row ws) := ⟨by show 1 + dpWs ws ≤ _; have := h.dp; omega, by show 1 + szWs ws ≤ _; have := h.sz; omega, h.tx⟩
theorem GT.lst {k m : Nat} {ts : List Th} (h : GTs k m ts) : GT (k + 1) (m + 1) (.lst ts) := ⟨by show 1 + dpTs ts ≤ _; have := h.dp; omega, by show 1 + szTs ts ≤ _; have := h.sz; omega, h.tx⟩
/-! comparing them -/
theorem ok_number : PyData.strOk "number" = true := by decide +kernel
theorem ok_row : PyData.strOk "row" = true := by decide +kernel
theorem ok_list : PyData.strOk "list" = true := by decide +kernel
theorem ok_push : PyData.strOk "push" = true := by decide +kernel
mutual
theorem eT_cmp : ∀ t, plain (eT t) = true ∧ dpt (eT t) ≤ 3 * dpT t + 1 ∧ (txT t = true → txB (eT t) = true)
  | .num n => ⟨rfl, by show 1 + max 0 (max 0 0) ≤ _; omega, fun _ => by show (PyData.strOk "number" && (true && true)) = true; rw [ok_number]; rfl⟩
  | .row ws => by
    obtain ⟨a, b, c⟩ := eWs_cmp ws
    refine ⟨by show (true && (plains (eWs ws) && true)) = true; rw [a]; rfl, by show 1 + max 0 (max (1 + dpts (eWs ws)) 0) ≤ 3 * (1 + dpWs ws) + 1; omega, fun h => ?_⟩
    show (PyData.strOk "row" && (txBs (eWs ws) && true)) = true
    rw [ok_row, c h]; rfl
  | .lst ts => by
    obtain ⟨a, b, c⟩ := eTs_cmp ts
    refine ⟨by show (true && (plains (eTs ts) && true)) = true; rw [a]; rfl, by show 1 + max 0 (max (1 + dpts (eTs ts)) 0) ≤ 3 * (1 + dpTs ts) + 1; omega, fun h => ?_⟩
    show (PyData.strOk "list" && (txBs (eTs ts) && true)) = true
    rw [ok_list, c h]; rfl
theorem eW_cmp : ∀ w, plain (eW w) = true ∧ dpt (eW w) ≤ 3 * dpW w + 2 ∧ (txW w = true → txB (eW w) = true)
  | .txt z => ⟨rfl, by show 0 ≤ _; omega, fun h => h⟩
  | .push t => by
    obtain ⟨a, b, c⟩ := eT_cmp t
    refine ⟨by show (true && (plain (eT t) && true)) = true; rw [a]; rfl, by show 1 + max 0 (max (dpt (eT t)) 0) ≤ 3 * dpT t + 2; omega, fun h => ?_⟩
    show (PyData.strOk "push" && (txB (eT t) && true)) = true
    rw [ok_push, c h]; rfl
theorem eWs_cmp : ∀ ws, plains (eWs ws) = true ∧ dpts (eWs ws) ≤ 3 * dpWs ws + 2 ∧ (txWs ws = true → txBs (eWs ws) = true)
  | [] => ⟨rfl, Nat.zero_le _, fun _ => rfl⟩
  | w :: r => by
    obtain ⟨a, b, c⟩ := eW_cmp w
    obtain ⟨a', b', c'⟩ := eWs_cmp r
    refine ⟨by show (plain (eW w) && plains (eWs r)) = true; rw [a, a']; rfl, by show max (dpt (eW w)) (dpts (eWs r)) ≤ 3 * max (dpW w) (dpWs r) + 2; omega, fun h => ?_⟩
    have h' : (txW w && txWs r) = true := h
    rw [Bool.and_eq_true] at h'
    show (txB (eW w) && txBs (eWs r)) = true
    rw [c h'.1, c' h'.2]; rfl
theorem eTs_cmp : ∀ ws, plains (eTs ws) = true ∧ dpts (eTs ws) ≤ 3 * dpTs ws + 1 ∧ (txTs ws = true → txBs (eTs ws) = true)
  | [] => ⟨rfl, Nat.zero_le _, fun _ => rfl⟩
  | w :: r => by
    obtain ⟨a, b, c⟩ := eT_cmp w
    obtain ⟨a', b', c'⟩ := eTs_cmp r
    refine ⟨by show (plain (eT w) && plains (eTs r)) = true; rw [a, a']; rfl, by show max (dpt (eT w)) (dpts (eTs r)) ≤ 3 * max (dpT w) (dpTs r) + 1; omega, fun h => ?_⟩
    have h' : (txT w && txTs r) = true := h
    rw [Bool.and_eq_true] at h'
    show (txB (eT w) && txBs (eTs r)) = true
    rw [c h'.1, c' h'.2]; rfl
end
theorem mem_szT {w : Th} : ∀ {ws : List Th}, w ∈ ws → szT w ≤ szTs ws ∧ dpT w ≤ dpTs ws ∧ (txTs ws = true → txT w = true)
  | a :: r, h => by
    rcases List.mem_cons.mp h with rfl | h
    · refine ⟨by show szT w ≤ szT w + szTs r; omega, by show dpT w ≤ max (dpT w) (dpTs r); omega, fun g => ?_⟩
      have g' : (txT w && txTs r) = true := g
      rw [Bool.and_eq_true] at g'; exact g'.1
    · obtain ⟨x, y, z⟩ := mem_szT h
      refine ⟨by show szT w ≤ szT a + szTs r; omega, by show dpT w ≤ max (dpT a) (dpTs r); omega, fun g => ?_⟩
      have g' : (txT a && txTs r) = true := g
      rw [Bool.and_eq_true] at g'; exact z g'.2
end DD
/-! readings gone through step by step: one rule for each head -/
namespace DD
open PySem PySem.W L2 SX Cm
section
variable {nx : DSt → DG → Prop} {rt : DK} {bk ct : DSt → DG → Prop} {δ : DSt} {G : DG} {t u : TDS} {Q : DK} {QB : Bool → DG → Prop} {QA : List DV → DG → Prop} {te ta tb tc : TD} {tt tu : TDT} {ts : TDA}
theorem w_next (h : nx δ G) : dNext ⟨nx, rt, bk, ct⟩ δ G := h
theorem w_seq (h : t ⟨u ⟨nx, rt, bk, ct⟩, rt, bk, ct⟩ δ G) : dSeq t u ⟨nx, rt, bk, ct⟩ δ G := h
theorem w_break (h : bk δ G) : dBreak ⟨nx, rt, bk, ct⟩ δ G := h
theorem w_cont (h : ct δ G) : dCont ⟨nx, rt, bk, ct⟩ δ G := h
theorem w_drop (h : te δ G fun _ G1 => nx δ G1) : dDrop te ⟨nx, rt, bk, ct⟩ δ G := h
theorem w_ret (h : te δ G rt) : dRet te ⟨nx, rt, bk, ct⟩ δ G := h
theorem w_retN (h : rt .non G) : dRetN ⟨nx, rt, bk, ct⟩ δ G := h
theorem w_ifS {c : TDT} (h : c δ G fun b G1 => if b = true then t ⟨nx, rt, bk, ct⟩ δ G1 else u ⟨nx, rt, bk, ct⟩ δ G1) : dIfS c t u ⟨nx, rt, bk, ct⟩ δ G := h
theorem w_asg {i : Nat} (h : te δ G fun d G1 => nx (δ.set i (some d)) G1) : dAsg te (gN i) ⟨nx, rt, bk, ct⟩ δ G := h
theorem w_asgS (h : te δ G fun v G1 => ta δ G1 fun o G2 => tb δ G2 fun i G3 => bSet o i v G3 fun G4 => nx δ G4) : dAsg te (gSb ta tb) ⟨nx, rt, bk, ct⟩ δ G := h
theorem w_par {i j : Nat} (h : ts δ G fun ds G1 => ∃ a b, ds = [a, b] ∧ nx ((δ.set i (some a)).set j (some b)) G1) : dPar i j ts ⟨nx, rt, bk, ct⟩ δ G := h
theorem w_parE {k : DV → DV → Prop} {a b : DV} (h : k a b) : ∃ a' b', [a, b] = [a', b'] ∧ k a' b' := ⟨a, b, rfl, h⟩
/-! expressions -/
theorem w_var {i : Nat} {d : DV} (h : δ[i]? = some (some d)) (q : Q d G) : dVar i δ G Q := ⟨d, h, q⟩
theorem w_c {d : DV} (q : Q d G) : dC d δ G Q := q
theorem w_op {b : D2} (h : ta δ G fun x G1 => tb δ G1 fun y G2 => b x y G2 Q) : dOp b ta tb δ G Q := h
theorem w_call {n : Nat} {sp : DSp} (h : ts δ G fun ds G1 => ds.length = n ∧ sp ds G1 Q) : dCall n sp ts δ G Q := h
theorem w_len {n : Nat} {ds : List DV} {A : Prop} (h : A) (e : ds.length = n := by rfl) : ds.length = n ∧ A := ⟨e, h⟩
theorem w_CB {b : DC} (h : ts δ G fun ds G1 => b ds G1 Q) : dCB b ts δ G Q := h
theorem w_tup (h : ts δ G fun ds G1 => ds.length ≤ sizeLine ∧ Q (.tup ds) G1) : dTup ts δ G Q := h
theorem w_lst (h : ts δ G fun ds G1 => ds.length ≤ sizeLine ∧ ∀ p, G1 p = none → Q (.ref p) (dupd G1 p (.lst ds))) : dLst ts δ G Q := h
theorem w_sz {ds : List DV} {A : Prop} (h : A) (e : ds.length ≤ sizeLine := by decide) : ds.length ≤ sizeLine ∧ A := ⟨e, h⟩
theorem w_nil (h : QA [] G) : dNil δ G QA := h
theorem w_cons (h : te δ G fun x G1 => ts δ G1 fun xs G2 => QA (x :: xs) G2) : dCons te ts δ G QA := h
theorem w_sl {tl th : TDO} (h : te δ G fun x G1 => tl δ G1 fun l G2 => th δ G2 fun u G3 => bSl x l u G3 Q) : dSl te tl th δ G Q := h
theorem w_none {QO : Option Int → DG → Prop} (h : QO none G) : dNone δ G QO := h
theorem w_some {QO : Option Int → DG → Prop} (h : te δ G fun d G' => ∃ i, d = .int i ∧ QO (some i) G') : dSome te δ G QO := h
theorem w_exI {k : Int → Prop} {i : Int} (h : k i) : ∃ j, DV.int i = .int j ∧ k j := ⟨i, rfl, h⟩
theorem w_exB {k : Bool → Prop} {i : Bool} (h : k i) : ∃ j, DV.bl i = .bl j ∧ k j := ⟨i, rfl, h⟩
theorem w_exT {k : List DV → Prop} {i : List DV} (h : k i) : ∃ j, DV.tup i = .tup j ∧ k j := ⟨i, rfl, h⟩
theorem w_exS {k : Str → Prop} {i : Str} (h : k i) : ∃ j, DV.str i = .str j ∧ k j := ⟨i, rfl, h⟩
theorem w_rev (h : te δ G fun x G1 => ∃ ds, x = .tup ds ∧ Q (.tup ds.reverse) G1) : dRev te δ G Q := h
theorem w_neg (h : te δ G fun x G1 => ∃ i, x = .int i ∧ Q (.int (-i)) G1) : dNeg te δ G Q := h
theorem w_ifE (h : tt δ G fun c G1 => if c = true then ta δ G1 Q else tb δ G1 Q) : dIf tt ta tb δ G Q := h
theorem w_andV (h : ta δ G fun x G1 => ∃ c, x = .bl c ∧ if c = true then tb δ G1 Q else Q (.bl false) G1) : dAndV ta tb δ G Q := h
theorem w_orV (h : ta δ G fun x G1 => ∃ c, x = .bl c ∧ if c = true then Q (.bl true) G1 else tb δ G1 Q) : dOrV ta tb δ G Q := h
theorem w_notV (h : ta δ G fun x G1 => ∃ c, x = .bl c ∧ Q (.bl (!c)) G1) : dNotV ta δ G Q := h
theorem w_BM {T : String} {b : DM} (h : te δ G fun x G1 => rcv T x G1 ∧ ts δ G1 fun ds G2 => b x ds G2 Q) : dBM T b te ts δ G Q := h
theorem w_BM0 {T : String} {b : DM} (h : te δ G fun x G1 => rcv T x G1 ∧ b x [] G1 Q) : dBM0 T b te δ G Q := h
theorem w_rcvS {z : Str} {A : Prop} (h : A) : rcv "str" (.str z) G ∧ A := ⟨rfl, h⟩
theorem w_rcvL {p : Addr} {ds : List DV} {A : Prop} (e : G p = some (.lst ds)) (h : A) : rcv "list" (.ref p) G ∧ A := ⟨.inl ⟨rfl, ds, .inl e⟩, h⟩
/-! tests -/
theorem w_test (h : te δ G fun d G' => ∃ k, d = .bl k ∧ QB k G') : dTest te δ G QB := h
theorem w_tru (h : te δ G fun d G' => bTru d G' QB) : dTru te δ G QB := h
theorem w_and (h : tt δ G fun c G1 => if c = true then tu δ G1 QB else QB false G1) : dAnd tt tu δ G QB := h
theorem w_or (h : tt δ G fun c G1 => if c = true then QB true G1 else tu δ G1 QB) : dOr tt tu δ G QB := h
theorem w_not (h : tt δ G fun c G1 => QB (!c) G1) : dNot tt δ G QB := h
theorem w_yes (h : QB true G) : dYes δ G QB := h
theorem w_truB {b : Bool} (h : QB b G) : bTru (.bl b) G QB := h
theorem w_truI {i : Int} (h : QB (i != 0) G) : bTru (.int i) G QB := h
theorem w_truN (h : QB false G) : bTru .non G QB := h
theorem w_truT {ds : List DV} (h : QB (!ds.isEmpty) G) : bTru (.tup ds) G QB := h
theorem w_truL {p : Addr} {ds : List DV} (e : G p = some (.lst ds)) (h : QB (!ds.isEmpty) G) : bTru (.ref p) G QB := .inl ⟨ds, .inl e, h⟩
/-! operators -/
theorem w_addI {i j : Int} (h : Q (.int (i + j)) G) : bAdd (.int i) (.int j) G Q := h
theorem w_addS {a b : Str} (l : a.length + b.length ≤ sizeLine) (h : Q (.str (a ++ b)) G) : bAdd (.str a) (.str b) G Q := ⟨l, h⟩
theorem w_addT {a b : List DV} (l : a.length + b.length ≤ sizeLine) (h : Q (.tup (a ++ b)) G) : bAdd (.tup a) (.tup b) G Q := ⟨l, h⟩
theorem w_subI {i j : Int} (h : Q (.int (i - j)) G) : bSub (.int i) (.int j) G Q := h
theorem w_int {C : Int → Int → Prop} {g : Int → Int → DV} {i j : Int} (c : C i j) (h : Q (g i j) G) : bInt C g (.int i) (.int j) G Q := ⟨c, h⟩
theorem w_cmpI {g : Int → Int → Bool} {s : List Nat → List Nat → Bool} {i j : Int} (h : Q (.bl (g i j)) G) : bCmp g s (.int i) (.int j) G Q := h
theorem w_cmpS {g : Int → Int → Bool} {s : List Nat → List Nat → Bool} {i j : Str} (h : Q (.bl (s i.cps.toList j.cps.toList)) G) : bCmp g s (.str i) (.str j) G Q := h
theorem w_eqSS {a b : Str} (h : Q (.bl (decide (a = b))) G) : bEq false (.str a) (.str b) G Q := h
theorem w_eqII {a b : Int} (h : Q (.bl (decide (a = b))) G) : bEq false (.int a) (.int b) G Q := h
theorem w_eqBB {a b : Bool} (h : Q (.bl (decide (a = b))) G) : bEq false (.bl a) (.bl b) G Q := h
theorem w_neSS {a b : Str} (h : Q (.bl (!decide (a = b))) G) : bEq true (.str a) (.str b) G Q := h
theorem w_neII {a b : Int} (h : Q (.bl (!decide (a = b))) G) : bEq true (.int a) (.int b) G Q := h
theorem w_neBB {a b : Bool} (h : Q (.bl (!decide (a = b))) G) : bEq true (.bl a) (.bl b) G Q := h
theorem w_eqSN {a : Str} {n : Bool} (h : Q (.bl n) G) : bEq n (.str a) .non G Q := h
theorem w_eqIN {a : Int} {n : Bool} (h : Q (.bl n) G) : bEq n (.int a) .non G Q := h
theorem w_eqSI {a : Str} {b : Int} {n : Bool} (h : Q (.bl n) G) : bEq n (.str a) (.int b) G Q := h
theorem w_eqIS {a : Int} {b : Str} {n : Bool} (h : Q (.bl n) G) : bEq n (.int a) (.str b) G Q := h
theorem w_eqNS {b : Str} {n : Bool} (h : Q (.bl n) G) : bEq n .non (.str b) G Q := h
theorem w_eqBS {a : Bool} {b : Str} {n : Bool} (h : Q (.bl n) G) : bEq n (.bl a) (.str b) G Q := h
theorem w_eqT0 {a : List DV} (h : Q (.bl a.isEmpty) G) : bEq false (.tup a) (.tup []) G Q := .inl ⟨rfl, rfl, h⟩
theorem w_isN {x : DV} (h : Q (.bl (decide (x = .non))) G) : bIs false x .non G Q := by cases x <;> exact h
theorem w_isnN {x : DV} (h : Q (.bl (!decide (x = .non))) G) : bIs true x .non G Q := by cases x <;> exact h
theorem w_ix0 {a : DV} {r : List DV} (h : Q a G) : bIx (.tup (a :: r)) (.int 0) G Q := ⟨a, atI_nat (j := 0) rfl, h⟩
theorem w_ix1 {a b : DV} {r : List DV} (h : Q b G) : bIx (.tup (a :: b :: r)) (.int 1) G Q := ⟨b, atI_nat (j := 1) rfl, h⟩
theorem w_ix2 {a b c : DV} {r : List DV} (h : Q c G) : bIx (.tup (a :: b :: c :: r)) (.int 2) G Q := ⟨c, atI_nat (j := 2) rfl, h⟩
theorem w_ix3 {a b c d : DV} {r : List DV} (h : Q d G) : bIx (.tup (a :: b :: c :: d :: r)) (.int 3) G Q := ⟨d, atI_nat (j := 3) rfl, h⟩
theorem w_ixL {p : Addr} {ds : List DV} {i : Int} {d : DV} (e : G p = some (.lst ds)) (l : atI ds i = some d) (h : Q d G) : bIx (.ref p) (.int i) G Q := .inl ⟨ds, d, .inl e, l, h⟩
theorem w_slT {ds : List DV} {lo hi : Option Int} (h : Q (.tup (cutD ds lo hi)) G) : bSl (.tup ds) lo hi G Q := h
/-! calls -/
theorem w_lenT {ds : List DV} (h : Q (.int ds.length) G) : bLen [.tup ds] G Q := h
theorem w_lenL {p : Addr} {ds : List DV} (e : G p = some (.lst ds)) (h : Q (.int ds.length) G) : bLen [.ref p] G Q := .inl ⟨ds, .inl e, h⟩
theorem w_isi {x : DV} {t : String} {a : String} {b : Bool} (ht : t ∈ tysK) (ha : TyAt G x a) (hb : tyB a t = b) (h : Q (.bl b) G) : bIsi [x, .ty t] G Q := ⟨ht, a, b, ha, hb, h⟩
theorem w_intB {k : Bool} (h : Q (.int (if k = true then 1 else 0)) G) : bInt1 [.bl k] G Q := h
theorem w_intI {k : Int} (h : Q (.int k) G) : bInt1 [.int k] G Q := h
theorem w_tupT {ds : List DV} (h : Q (.tup ds) G) : bTuple [.tup ds] G Q := h
theorem w_tupL {p : Addr} {ds : List DV} (e : G p = some (.lst ds)) (h : Q (.tup ds) G) : bTuple [.ref p] G Q := ⟨ds, .inl e, h⟩
theorem w_lstT {ds : List DV} (h : ∀ r, G r = none → Q (.ref r) (dupd G r (.lst ds))) : bList [.tup ds] G Q := h
theorem w_lstL {p : Addr} {ds : List DV} (e : G p = some (.lst ds)) (h : ∀ r, G r = none → Q (.ref r) (dupd G r (.lst ds))) : bList [.ref p] G Q := ⟨ds, .inl e, h⟩
theorem w_app {p : Addr} {xs : List DV} {y : DV} (e : G p = some (.lst xs)) (l : xs.length < sizeLine) (h : Q .non (dupd G p (.lst (xs ++ [y])))) : bAppend (.ref p) [y] G Q := ⟨p, xs, y, rfl, rfl, e, l, h⟩
theorem w_pop {p : Addr} {xs : List DV} {y : DV} (e : G p = some (.lst (xs ++ [y]))) (h : Q y (dupd G p (.lst xs))) : bPop (.ref p) [] G Q := ⟨p, xs, y, rfl, rfl, e, h⟩
theorem w_extT {p : Addr} {xs zs : List DV} (e : G p = some (.lst xs)) (l : xs.length + zs.length ≤ sizeLine) (h : Q .non (dupd G p (.lst (xs ++ zs)))) : bExt (.ref p) [.tup zs] G Q := ⟨p, xs, zs, rfl, e, .inl rfl, l, h⟩
/-! loops -/
/-- what a loop over ds wants -/
def ForG (ds : List DV) (st : DG → Prop) (tg : TDG) (tb : TDS) (nx : DSt → DG → Prop) (rt : DK) (δ : DSt) (G : DG) : Prop := ∃ Pv : Nat → DSt → DG → Prop, Pv 0 δ G ∧ (∀ i δ G, Pv i δ G → st G) ∧
  (∀ i d δ G, ds[i]? = some d → Pv i δ G → tg d δ G fun δ2 G2 => tb ⟨Pv (i + 1), rt, nx, Pv (i + 1)⟩ δ2 G2) ∧ (∀ δ G, Pv ds.length δ G → nx δ G)
theorem w_for {tg : TDG} {tb : TDS} {ti : TDI} (h : ti δ G fun ds st G1 => ForG ds st tg tb nx rt δ G1) : dFor ti tg tb ⟨nx, rt, bk, ct⟩ δ G := h
/-- what a comprehension over ds wants -/
def LcG (ds : List DV) (st : DG → Prop) (ld : TL) (tt : TDT) (te : TD) (δ : DSt) (G1 : DG) (Q : DK) : Prop := ∀ p, G1 p = none → ∃ Pv : Nat → List DV → DG → Prop, Pv 0 [] (dupd G1 p (.lst [])) ∧ (∀ i acc G, Pv i acc G → st G) ∧
  (∀ i d acc G, ds[i]? = some d → Pv i acc G → ld d δ fun δ2 => tt δ2 G fun b G3 => if b = true then te δ2 G3 fun y G4 => G4 p = some (.lst acc) ∧ acc.length < sizeLine ∧ Pv (i + 1) (acc ++ [y]) (dupd G4 p (.lst (acc ++ [y]))) else Pv (i + 1) acc G3) ∧
  (∀ acc G, Pv ds.length acc G → Q (.ref p) G)
theorem w_lc {ti : TDI} {ld : TL} {vs : List Nat} (h : ti δ G fun ds st G1 => LcG ds st ld tt te (wipeD δ vs) G1 Q) : dLc ti ld tt te vs δ G Q := h
theorem w_while {c : TDT} {tb : TDS} (Pv : Nat → DSt → DG → Prop) (m : Nat) (p : Pv m δ G) (h : ∀ m δ G, Pv m δ G →
  c δ G fun b G1 => if b = true then tb ⟨fun δ' G' => ∃ m', m' < m ∧ Pv m' δ' G', rt, nx, fun δ' G' => ∃ m', m' < m ∧ Pv m' δ' G'⟩ δ G1 else nx δ G1) : dWhile c tb ⟨nx, rt, bk, ct⟩ δ G := ⟨Pv, ⟨m, p⟩, h⟩
variable {RI : List DV → (DG → Prop) → DG → Prop}
theorem wi_tup (h : te δ G fun d G1 => ∃ ds, d = .tup ds ∧ RI ds (fun _ => True) G1) : dITup te δ G RI := h
theorem wi_lst (h : te δ G fun d G1 => ∃ p ds, d = .ref p ∧ Ls G1 p ds ∧ RI ds (fun G => Ls G p ds) G1) : dIList te δ G RI := h
theorem wi_str (h : te δ G fun d G1 => ∃ z, d = .str z ∧ RI (signs z) (fun _ => True) G1) : dIStr te δ G RI := h
theorem wi_rng (h : ts δ G fun ds G1 => ∃ j : Int, ds = [.int j] ∧ -(2 ^ 62) ≤ j ∧ j < 2 ^ 62 ∧ RI (rng 0 j.toNat) (fun _ => True) G1) : dIRng ts δ G RI := h
theorem wi_rng2 (h : ts δ G fun ds G1 => ∃ i j : Int, ds = [.int i, .int j] ∧ (-(2 ^ 62) ≤ i ∧ i < 2 ^ 62 ∧ -(2 ^ 62) ≤ j ∧ j < 2 ^ 62) ∧ RI (rng i (j - i).toNat) (fun _ => True) G1) : dIRng2 ts δ G RI := h
theorem wi_enumT (h : ts δ G fun xs G1 => ∃ ds, xs = [.tup ds] ∧ RI (nmbd ds) (fun _ => True) G1) : dIEnumT ts δ G RI := h
theorem wi_enum (h : ts δ G fun xs G1 => ∃ p ds, xs = [.ref p] ∧ Ls G1 p ds ∧ RI (nmbd ds) (fun G => Ls G p ds) G1) : dIEnum ts δ G RI := h
theorem wi_rev (h : ts δ G fun xs G1 => ∃ p ds, xs = [.ref p] ∧ Ls G1 p ds ∧ RI ds.reverse (fun G => Ls G p ds) G1) : dIRev ts δ G RI := h
theorem wi_revR (h : ts δ G fun ds G1 => ∃ j : Int, ds = [.int j] ∧ 0 ≤ j ∧ j < 2 ^ 62 ∧ RI (rng 0 j.toNat).reverse (fun _ => True) G1) : dIRevR ts δ G RI := h
theorem wx_rng {k : Int → Prop} {j : Int} (h1 : -(2 ^ 62) ≤ j) (h2 : j < 2 ^ 62) (h : k j) : ∃ j' : Int, [DV.int j] = [.int j'] ∧ -(2 ^ 62) ≤ j' ∧ j' < 2 ^ 62 ∧ k j' := ⟨j, rfl, h1, h2, h⟩
theorem wx_lst {k : Addr → List DV → Prop} {p : Addr} {ds : List DV} (e : G p = some (.lst ds)) (h : k p ds) : ∃ p' ds', DV.ref p = .ref p' ∧ Ls G p' ds' ∧ k p' ds' := ⟨p, ds, rfl, .inl e, h⟩
theorem wx_lstA {k : Addr → List DV → Prop} {p : Addr} {ds : List DV} (e : G p = some (.lst ds)) (h : k p ds) : ∃ p' ds', [DV.ref p] = [.ref p'] ∧ Ls G p' ds' ∧ k p' ds' := ⟨p, ds, rfl, .inl e, h⟩
theorem wx_enumT {k : List DV → Prop} {ds : List DV} (h : k ds) : ∃ ds', [DV.tup ds] = [.tup ds'] ∧ k ds' := ⟨ds, rfl, h⟩
/-- a loop with its invariant -/
theorem for_by {ds : List DV} {st : DG → Prop} {tg : TDG} {tb : TDS} (Pv : Nat → DSt → DG → Prop) (hst : ∀ i δ G, Pv i δ G → st G) (p0 : Pv 0 δ G)
  (ps : ∀ i d δ G, ds[i]? = some d → Pv i δ G → tg d δ G fun δ2 G2 => tb ⟨Pv (i + 1), rt, nx, Pv (i + 1)⟩ δ2 G2) (pd : ∀ δ G, Pv ds.length δ G → nx δ G) : ForG ds st tg tb nx rt δ G := ⟨Pv, p0, hst, ps, pd⟩
/-- elements that leave the store as it is: each told by E (or left out, where f says so) -/
theorem lcg_pure {ds : List DV} {st : DG → Prop} {ld : TL} {G1 : DG} (f : DV → Option DV) (hsc : ∀ p o, G1 p = none → st (dupd G1 p o)) (hl : ds.length ≤ 1000000)
    (h : ∀ d ∈ ds, ∀ (G : DG) (k1 : DK) (k0 : DG → Prop), (∃ p acc, G1 p = none ∧ G = dupd G1 p (.lst acc)) → (∀ y, f d = some y → k1 y G) → (f d = none → k0 G) →
      ld d δ fun δ2 => tt δ2 G fun b G3 => if b = true then te δ2 G3 k1 else k0 G3)
    (q : ∀ p, G1 p = none → Q (.ref p) (dupd G1 p (.lst (ds.filterMap f)))) : LcG ds st ld tt te δ G1 Q := by
  have := lc_pure (ds := ds) (st := st) (ld := ld) (tt := tt) (te := te) (vs := []) (δ := δ) (G1 := G1) (Q := Q) f hsc hl h q
  exact this
theorem lcg_each {ds : List DV} {st : DG → Prop} {ld : TL} {G1 : DG} (E : Nat → DV → Prop) (hsc : ∀ p o, G1 p = none → st (dupd G1 p o)) (hl : ds.length ≤ 1000000)
    (h : ∀ i d, ds[i]? = some d → ∀ (G : DG) (k1 : DK) (k0 : DG → Prop), (∃ p acc, G1 p = none ∧ G = dupd G1 p (.lst acc)) → (∀ y, E i y → k1 y G) →
      ld d δ fun δ2 => tt δ2 G fun b G3 => if b = true then te δ2 G3 k1 else k0 G3)
    (q : ∀ p acc, G1 p = none → acc.length = ds.length → (∀ i y, acc[i]? = some y → E i y) → Q (.ref p) (dupd G1 p (.lst acc))) : LcG ds st ld tt te δ G1 Q := by
  intro p np
  refine ⟨fun i acc G => acc.length = i ∧ i ≤ ds.length ∧ (∀ j y, acc[j]? = some y → E j y) ∧ G = dupd G1 p (.lst acc), ⟨rfl, Nat.zero_le _, (fun _ _ h => nomatch h), rfl⟩, fun i acc G ⟨_, _, _, e⟩ => by rw [e]; exact hsc p _ np, ?_, ?_⟩
  · rintro i d acc G hd ⟨ea, hi, he, rfl⟩
    have hlt : i < ds.length := (List.getElem?_eq_some_iff.mp hd).1
    refine h i d hd _ _ _ ⟨p, acc, np, rfl⟩ fun y hy => ⟨dupd_same, midlt (by omega), ?_, hlt, ?_, dupd_dupd⟩
    · rw [List.length_append, ea]; rfl
    · intro j z hz
      by_cases hj : j < acc.length
      · rw [List.getElem?_append_left hj] at hz; exact he j z hz
      · have hj' := (List.getElem?_eq_some_iff.mp hz).1
        rw [List.length_append, List.length_singleton] at hj'
        have : j = i := by omega
        subst this
        rw [List.getElem?_append_right (by omega), ea, Nat.sub_self] at hz
        cases hz
        exact hy
  · rintro acc G ⟨ea, _, he, rfl⟩
    exact q p acc np ea he
theorem g_n {d : DV} {i : Nat} {k : DSt → DG → Prop} (h : k (δ.set i (some d)) G) : gN i d δ G k := h
theorem w_iteD {p : Prop} [Decidable p] {A B : Prop} (h : p → A) (g : ¬ p → B) : if decide p = true then A else B := by
  by_cases e : p
  · rw [decide_eq_true e]; exact iteT (h e)
  · rw [decide_eq_false e]; exact iteF (g e)
theorem w_iteN {p : Prop} [Decidable p] {A B : Prop} (h : ¬ p → A) (g : p → B) : if (!decide p) = true then A else B := by
  by_cases e : p
  · rw [decide_eq_true e]; exact iteF (g e)
  · rw [decide_eq_false e]; exact iteT (h e)
theorem w_it {b : Bool} {A B : Prop} (e : b = true) (h : A) : if b = true then A else B := by subst e; exact iteT h
theorem w_if0 {b : Bool} {A B : Prop} (e : b = false) (h : B) : if b = true then A else B := by subst e; exact iteF h
end
end DD
namespace DD
open PySem PySem.W L2
theorem ne_ns {G : DG} {a b : Addr} (n : G b = none) (h : ∃ o, G a = some o) : a ≠ b := by
  obtain ⟨o, h⟩ := h
  exact ne_some h n
theorem ne_sn {G : DG} {a b : Addr} (n : G b = none) (h : ∃ o, G a = some o) : b ≠ a := (ne_ns n h).symm
theorem szl {n : Nat} (h : n.ble 64 = true) : n ≤ sizeLine := by
  have := Nat.le_of_ble_eq_true h
  have : 64 ≤ sizeLine := by decide
  omega
end DD
namespace DD
open PySem PySem.W L2
theorem cutD_from {α : Type} (xs : List α) (k : Nat) : cutD xs (some (k : Int)) none = xs.drop k := by
  unfold cutD
  rw [HT.sIx_none, HT.sIx_nat]
  rcases Nat.le_total k xs.length with h | h
  · rw [Nat.min_eq_left h, List.take_of_length_le (by rw [List.length_drop]; omega)]
  · rw [Nat.min_eq_right h, List.drop_length, List.take_nil, List.drop_of_length_le h]
theorem cutD_last {α : Type} (a : List α) (x : α) : cutD (a ++ [x]) none (some (-1)) = a := by
  unfold cutD
  have e : HT.sIx (a ++ [x]).length (a ++ [x]).length (some (-1)) = a.length := by
    rw [show HT.sIx (a ++ [x]).length (a ++ [x]).length (some (-1)) = (if (-1 : Int) < 0 then ((-1 : Int) + ((a ++ [x]).length : Int)).toNat else min (-1 : Int).toNat (a ++ [x]).length) from rfl]
    rw [if_pos (by decide), List.length_append, List.length_singleton]; omega
  rw [HT.sIx_none, e, List.drop_zero, Nat.sub_zero, List.take_left]
end DD
namespace DD
open PySem PySem.W L2
theorem nn_ {G G' : DG} {p : Addr} (n : G' p = none) (s : Sub G G') : G p = none := s.nonew n
theorem lt2' {i j : Nat} {a b : DV} {δ : DSt} {k : DSt → Prop} (h : k ((δ.set i (some a)).set j (some b))) : l2 i j (.tup [a, b]) δ k := ⟨a, b, rfl, h⟩
theorem Less.mk {R : DK} {d : DV} {G G' : DG} (s : Sub G G') (h : R d G) : Less R d G' := ⟨G, s, h⟩
end DD
namespace DD
open PySem PySem.W L2
theorem w_cut {nx : DSt → DG → Prop} {rt : DK} {bk ct : DSt → DG → Prop} {δ : DSt} {G : DG} {t u : TDS} (Mid : DSt → DG → Prop) (h : t ⟨Mid, rt, bk, ct⟩ δ G) (g : ∀ δ' G', Mid δ' G' → u ⟨nx, rt, bk, ct⟩ δ' G') : dCut t u ⟨nx, rt, bk, ct⟩ δ G := ⟨Mid, h, g⟩
end DD
namespace DD
open PySem PySem.W L2
end DD
/-! dicts with texts as keys -/
namespace DD
open PySem PySem.W L2 SX Cm
def valD (kvs : List (Key × DV)) (k : Key) : Option DV := (kvs.find? fun kv => decide (kv.1 = k)).map (·.2)
def putD (kvs : List (Key × DV)) (k : Key) (v : DV) : List (Key × DV) :=
  if (kvs.any fun kv => decide (kv.1 = k)) = true then kvs.map (fun kv => if kv.1 = k then (kv.1, v) else kv) else kvs ++ [(k, v)]
theorem tks_dct {K : Frag} {H : Hp} {d : Addr} {xs ys : List (Key × V)} (h : H d = some (.dK xs)) : TKs K H (upd H d (.dK ys)) := fun a zs e => by
  rcases e with (e | ⟨o, e⟩) | e
  · exact .inl (.inl (by rw [upd_ne (fun z => by rw [z, h] at e; cases e)]; exact e))
  · exact .inl (.inr ⟨o, by rw [upd_ne (fun z => by rw [z, h] at e; cases e)]; exact e⟩)
  · exact .inr e
section
variable {K : Frag} {H : Hp}
theorem KRV.val {vs : List (Key × V)} {ds : List (Key × DV)} (r : KRV K H vs ds) (k : Key) : (valV vs k = none ∧ valD ds k = none) ∨ ∃ v d, valV vs k = some v ∧ valD ds k = some d ∧ RV K H v d := by
  induction r with
  | nil => exact .inl ⟨rfl, rfl⟩
  | @cons k' v d vs ds h t ih =>
    by_cases e : k' = k
    · refine .inr ⟨v, d, valV_pos (p := (k', v)) e, ?_, h⟩
      have e' : decide (k' = k) = true := decide_eq_true e
      unfold valD
      rw [List.find?_cons]
      simp only [e']
      rfl
    · have e1 : valV ((k', v) :: vs) k = valV vs k := valV_neg (p := (k', v)) e
      have e2 : valD ((k', d) :: ds) k = valD ds k := by
        have e' : decide (k' = k) = false := decide_eq_false e
        unfold valD
        rw [List.find?_cons]
        simp only [e']
      rw [e1, e2]; exact ih
theorem KRV.any {vs : List (Key × V)} {ds : List (Key × DV)} (r : KRV K H vs ds) (k : Key) : (vs.any fun kv => decide (kv.1 = k)) = ds.any fun kv => decide (kv.1 = k) := by
  induction r with
  | nil => rfl
  | cons h t ih => rw [List.any_cons, List.any_cons, ih]
theorem KRV.map {vs : List (Key × V)} {ds : List (Key × DV)} (r : KRV K H vs ds) (k : Key) {y : V} {u : DV} (ry : RV K H y u) : KRV K H (vs.map fun kv => if kv.1 = k then (kv.1, y) else kv) (ds.map fun kv => if kv.1 = k then (kv.1, u) else kv) := by
  induction r with
  | nil => exact .nil
  | @cons k' v d vs ds h t ih =>
    rw [List.map_cons, List.map_cons]
    by_cases e : k' = k
    · rw [if_pos e, if_pos e]; exact .cons ry ih
    · rw [if_neg e, if_neg e]; exact .cons h ih
theorem KRV.append {vs vs' : List (Key × V)} {ds ds' : List (Key × DV)} (r : KRV K H vs ds) (r' : KRV K H vs' ds') : KRV K H (vs ++ vs') (ds ++ ds') := by
  induction r with
  | nil => exact r'
  | cons h t ih => exact .cons h ih
theorem KRV.put {vs : List (Key × V)} {ds : List (Key × DV)} (r : KRV K H vs ds) (k : Key) {y : V} {u : DV} (ry : RV K H y u) : KRV K H (putK vs k y) (putD ds k u) := by
  unfold putK putD
  rw [r.any k]
  split
  · exact r.map k ry
  · exact r.append (.cons ry .nil)
theorem wd_dct {G : DG} {p : Addr} {kvs : List (Key × DV)} (w : Wd K H G) (e : G p = some (.dct kvs)) : ∃ vs, H p = some (.dK vs) ∧ KRV K H vs kvs := by
  obtain ⟨O, w⟩ := w
  exact w.ob p _ e
end
def keyD (z : Str) : Key := .inr z
section
variable {X : Cx}
theorem hu_of {k : Nat} {A : Around} (h : Room k A) : A.units + 1 < cLine := by have := h.units; omega
def dDNew : TD := fun _ G Q => ∀ p, G p = none → Q (.ref p) (dupd G p (.dct []))
variable {o i e e2 value : Expr} {pos pos' apos cpos : Pos} {td ti tv : TD}
def dDGet (td ti : TD) : TD := fun δ G Q => td δ G fun x G1 => ti δ G1 fun y G2 => ∃ p kvs z v, x = .ref p ∧ y = .str z ∧ G2 p = some (.dct kvs) ∧ valD kvs (keyD z) = some v ∧ Q v G2
theorem de_dget (hu : X.A.units + 1 < cLine) (ho : DE X o td) (hi : DE X i ti) (hs : NoSl i := by rfl) : DE X (.Subscript o i pos) (dDGet td ti) :=
  PE_mono (pe_dget hu ho hi hs) fun σ H Q ⟨δ, G, R, sl, w, q, f⟩ => ⟨δ, G, _, sl, w, q, fun x G1 vx H1 q1 t1 w1 r1 => ⟨δ, G1, _, sl.mono t1, w1, q1, fun y G2 vy H2 ⟨p, kvs, z, v, e1, e2, eG, ev, q2⟩ t2 w2 r2 => by
    subst e1 e2
    cases r1
    cases r2
    obtain ⟨vs, hv, kr⟩ := wd_dct w2 eG
    rcases kr.val (keyD z) with ⟨_, h⟩ | ⟨v', d', h1, h2, rv⟩
    · rw [ev] at h; cases h
    · rw [ev] at h2; cases h2
      refine ⟨p, v', rfl, ?_, f _ _ _ _ q2 (t1.trans t2) w2 rv⟩
      have := DGet.k (k := keyD z) hv
      rw [h1] at this
      exact this⟩⟩
def dDGet2 (td ti tv : TD) : TD := fun δ G Q => td δ G fun x G1 => ∃ p, x = .ref p ∧ (∃ kvs, G1 p = some (.dct kvs)) ∧ ti δ G1 fun y G2 => tv δ G2 fun u G3 => ∃ kvs z, y = .str z ∧ G3 p = some (.dct kvs) ∧ Q ((valD kvs (keyD z)).getD u) G3
def dDIn (n : Bool) (ti td : TD) : TD := fun δ G Q => ti δ G fun y G1 => td δ G1 fun x G2 => ∃ p kvs z, x = .ref p ∧ y = .str z ∧ G2 p = some (.dct kvs) ∧ Q (.bl (ng n (valD kvs (keyD z)).isSome)) G2
def dDPut (td ti tv : TD) : TDS := fun D δ G => tv δ G fun v G1 => td δ G1 fun x G2 => ti δ G2 fun y G3 => ∃ p kvs z, x = .ref p ∧ y = .str z ∧ G3 p = some (.dct kvs) ∧ kvs.length < sizeLine ∧ D.nx δ (dupd G3 p (.dct (putD kvs (keyD z) v)))
end
end DD
/-! tuple(d) of a dict: its keys -/
namespace DD
open PySem PySem.Spec PyProof.Rows PySem.W
end DD
namespace DD
open PySem PySem.W L2 SX Cm
/-! ### comprehensions that make dicts -/
def DcG (ds : List DV) (st : DG → Prop) (ld : TL) (tt : TDT) (tk tv : TD) (δ : DSt) (G1 : DG) (Q : DK) : Prop := ∀ p, G1 p = none → ∃ Pv : Nat → List (Key × DV) → DG → Prop, Pv 0 [] (dupd G1 p (.dct [])) ∧ (∀ i kvs G, Pv i kvs G → st G) ∧
  (∀ i d kvs G, ds[i]? = some d → Pv i kvs G → ld d δ fun δ2 => tt δ2 G fun b G3 => if b = true then tk δ2 G3 fun y G4 => tv δ2 G4 fun u G5 => ∃ z, y = .str z ∧ G5 p = some (.dct kvs) ∧ kvs.length < sizeLine ∧ Pv (i + 1) (putD kvs (keyD z) u) (dupd G5 p (.dct (putD kvs (keyD z) u))) else Pv (i + 1) kvs G3) ∧
  (∀ kvs G, Pv ds.length kvs G → Q (.ref p) G)
def dDc (ti : TDI) (ld : TL) (tt : TDT) (tk tv : TD) (vs : List Nat) : TD := fun δ G Q => ti δ G fun ds st G1 => DcG ds st ld tt tk tv (wipeD δ vs) G1 Q
theorem w_dc {ti : TDI} {ld : TL} {tt : TDT} {tk tv : TD} {vs : List Nat} {δ : DSt} {G : DG} {Q : DK} (h : ti δ G fun ds st G1 => DcG ds st ld tt tk tv (wipeD δ vs) G1 Q) : dDc ti ld tt tk tv vs δ G Q := h
end DD
namespace Cm
open PySem PySem.W L2 SX
/-! ### xs[a:] = ys, another list -/
end Cm
/-! del xs[a:] -/
namespace Cm
open PySem PySem.W L2 SX
end Cm
namespace DD
open PySem PySem.W L2 SX Cm
section
variable {X : Cx}
def dDelT (to tl : TD) : TDS := fun D δ G => to δ G fun x G1 => tl δ G1 fun y G2 => ∃ (l : Addr) (a : Int) (xs : List DV), x = .ref l ∧ y = .int a ∧ G2 l = some (.lst xs) ∧ 0 ≤ a ∧ a ≤ xs.length ∧ D.nx δ (dupd G2 l (.lst (xs.take a.toNat)))
end
theorem w_delT {nx : DSt → DG → Prop} {rt : DK} {bk ct : DSt → DG → Prop} {δ : DSt} {G : DG} {to tl : TD} (h : to δ G fun x G1 => tl δ G1 fun y G2 => ∃ (l : Addr) (a : Int) (xs : List DV), x = .ref l ∧ y = .int a ∧ G2 l = some (.lst xs) ∧ 0 ≤ a ∧ a ≤ xs.length ∧ nx δ (dupd G2 l (.lst (xs.take a.toNat)))) : dDelT to tl ⟨nx, rt, bk, ct⟩ δ G := h
end DD
/-! methods of texts over data -/
namespace DD
open PySem PySem.W L2 SX Cm
end DD
/-! kinds as they are, and as data -/
namespace DD
open PySem PySem.W L2 SX Cm
mutual
inductive Kd where
  | num
  | opn (z : Str)
  | lst (k : Kd)
  | row (a b : Sk)
inductive Sk where
  | mk (r : Str) (ks : List Kd)
end
def Sk.rest : Sk → Str
  | .mk r _ => r
def Sk.ks : Sk → List Kd
  | .mk _ ks => ks
mutual
def eK : Kd → DV
  | .num => .tup [.str "number"]
  | .opn z => .tup [.str "open", .str z]
  | .lst k => .tup [.str "list", eK k]
  | .row a b => .tup [.str "row", eS a, eS b]
def eS : Sk → DV
  | .mk r ks => .tup [.str r, .tup (eKs ks)]
def eKs : List Kd → List DV
  | [] => []
  | k :: r => eK k :: eKs r
end
mutual
/-- how many parts -/
def szK : Kd → Nat
  | .num => 1
  | .opn _ => 1
  | .lst k => 1 + szK k
  | .row a b => 1 + szS a + szS b
def szS : Sk → Nat
  | .mk _ ks => 1 + szKs ks
def szKs : List Kd → Nat
  | [] => 0
  | k :: r => szK k + szKs r
end
mutual
def dpK : Kd → Nat
  | .num => 0
  | .opn _ => 0
  | .lst k => 1 + dpK k
  | .row a b => 1 + max (dpS a) (dpS b)
def dpS : Sk → Nat
  | .mk _ ks => dpKs ks
def dpKs : List Kd → Nat
  | [] => 0
  | k :: r => max (dpK k) (dpKs r)
end
mutual
/-- its open things and its rests -/
def NK (P R : Str → Prop) : Kd → Prop
  | .num => True
  | .opn z => P z
  | .lst k => NK P R k
  | .row a b => NS P R a ∧ NS P R b
def NS (P R : Str → Prop) : Sk → Prop
  | .mk r ks => R r ∧ NKs P R ks
def NKs (P R : Str → Prop) : List Kd → Prop
  | [] => True
  | k :: r => NK P R k ∧ NKs P R r
end
mutual
theorem NK.imp {P R P' R' : Str → Prop} (hp : ∀ z, P z → P' z) (hr : ∀ z, R z → R' z) : ∀ k, NK P R k → NK P' R' k
  | .num, _ => trivial
  | .opn z, h => hp z h
  | .lst k, h => NK.imp hp hr k h
  | .row a b, h => ⟨NS.imp hp hr a h.1, NS.imp hp hr b h.2⟩
theorem NS.imp {P R P' R' : Str → Prop} (hp : ∀ z, P z → P' z) (hr : ∀ z, R z → R' z) : ∀ k, NS P R k → NS P' R' k
  | .mk r ks, h => ⟨hr r h.1, NKs.imp hp hr ks h.2⟩
theorem NKs.imp {P R P' R' : Str → Prop} (hp : ∀ z, P z → P' z) (hr : ∀ z, R z → R' z) : ∀ k, NKs P R k → NKs P' R' k
  | [], _ => trivial
  | k :: r, h => ⟨NK.imp hp hr k h.1, NKs.imp hp hr r h.2⟩
end
/-! ### filling -/
mutual
def fK (f : Str → Kd) (g : Str → Sk) : Kd → Kd
  | .num => .num
  | .opn z => f z
  | .lst k => .lst (fK f g k)
  | .row a b => .row (fS f g a) (fS f g b)
def fS (f : Str → Kd) (g : Str → Sk) : Sk → Sk
  | .mk r ks => .mk (g r).rest ((g r).ks ++ fKs f g ks)
def fKs (f : Str → Kd) (g : Str → Sk) : List Kd → List Kd
  | [] => []
  | k :: r => fK f g k :: fKs f g r
end
/-! one filling and then another one -/
/-! ### marks -/
/-! ### comparing kinds -/
end DD
/-! decks of the form [cells, number, number], as a thing of the store -/
namespace DD
open PySem PySem.W L2 SX Cm
/-- a deck stands at d, its cells at c -/
structure Deck (H : Hp) (d c : Addr) : Prop where
  ne : d ≠ c
  at_ : ∃ (s k : Int), H d = some (.lst [.ref c, .int s, .int k])
  cells : ∃ ms : List Int, H c = some (.lst (ms.map V.int)) ∧ ms.length ≤ 1000
theorem Deck.new {H : Hp} {d c p : Addr} {o : HO} (D : Deck H d c) (h : H p = none) : Deck (upd H p o) d c := by
  obtain ⟨s, k, e⟩ := D.at_
  obtain ⟨ms, e2, l⟩ := D.cells
  exact ⟨D.ne, ⟨s, k, kn e h⟩, ms, kn e2 h, l⟩
theorem Deck.same {H H' : Hp} {d c : Addr} (D : Deck H d c) (s : Same H H') : Deck H' d c := by
  obtain ⟨a, k, e⟩ := D.at_
  obtain ⟨ms, e2, l⟩ := D.cells
  exact ⟨D.ne, ⟨a, k, s _ _ e⟩, ms, s _ _ e2, l⟩
theorem Deck.nd {H : Hp} {d c p : Addr} (D : Deck H d c) (h : H p = none) : p ∉ [d, c] := by
  obtain ⟨a, k, e⟩ := D.at_
  obtain ⟨ms, e2, l⟩ := D.cells
  intro z
  rcases List.mem_cons.mp z with z | z
  · rw [z, e] at h; cases h
  · rw [List.mem_singleton.mp z, e2] at h; cases h
theorem Deck.put {H : Hp} {d c p : Addr} {o : HO} (D : Deck H d c) (h : p ∉ [d, c]) : Deck (upd H p o) d c := by
  obtain ⟨s, k, e⟩ := D.at_
  obtain ⟨ms, e2, l⟩ := D.cells
  have h1 : d ≠ p := fun z => h (by rw [← z]; exact List.mem_cons_self ..)
  have h2 : c ≠ p := fun z => h (by rw [← z]; exact List.mem_cons_of_mem _ (List.mem_singleton.mpr rfl))
  exact ⟨D.ne, ⟨s, k, by rw [upd_ne h1]; exact e⟩, ms, by rw [upd_ne h2]; exact e2, l⟩
def dkO (d c : Addr) : DO := .abs [d, c] (fun H => Deck H d c)
/-- there is a deck -/
def HasDk (G : DG) (d : Addr) : Prop := ∃ c, G d = some (dkO d c)
abbrev A_L_draw : List Str := ["_law_deck_here", "_law_most"]
theorem HasDk.new {G : DG} {d p : Addr} {o : DO} (h : HasDk G d) (n : G p = none) : HasDk (dupd G p o) d := by
  obtain ⟨c, h⟩ := h
  exact ⟨c, by rw [dupd_ne (ne_some h n)]; exact h⟩
theorem HasDk.put {G : DG} {d p : Addr} {o : DO} (h : HasDk G d) (n : d ≠ p) : HasDk (dupd G p o) d := by
  obtain ⟨c, h⟩ := h
  exact ⟨c, by rw [dupd_ne n]; exact h⟩
theorem HasDk.sub {G G' : DG} {d : Addr} (h : HasDk G d) (s : Sub G G') : HasDk G' d := by
  obtain ⟨c, h⟩ := h
  exact ⟨c, s _ _ h⟩
theorem HasDk.ne {G : DG} {d p : Addr} {ds : List DV} (h : HasDk G d) (e : G p = some (.lst ds)) : d ≠ p := fun z => by
  obtain ⟨c, h⟩ := h
  rw [z, e] at h; cases h
theorem HasDk.neD {G : DG} {d p : Addr} {ds : List (Key × DV)} (h : HasDk G d) (e : G p = some (.dct ds)) : d ≠ p := fun z => by
  obtain ⟨c, h⟩ := h
  rw [z, e] at h; cases h
def spLaw (K : PySem.W.Frag) : Sp := fun vs H Q _ => ∃ (a : Addr) (ns : List Int), vs = [.ref a] ∧ SqL K H a (ns.map V.int) ∧ ns.length ≤ 63 ∧ ∀ H', Q (.bl true) H'
theorem pick {α : Type} {xs : List α} {r : Int} {n : Nat} (h0 : 0 ≤ r) (h1 : r < n) (hl : xs.length = n) : ∃ x, x ∈ xs ∧ atI xs r = some x := by
  obtain ⟨i, rfl⟩ := Int.eq_ofNat_of_zero_le h0
  have hi : i < xs.length := by omega
  exact ⟨xs[i], List.getElem_mem hi, atI_nat (List.getElem?_eq_getElem hi)⟩
/-! lists -/
def dRevL (te : TD) : TD := fun δ G Q => te δ G fun x G1 => ∃ p ds, x = .ref p ∧ Ls G1 p ds ∧ ∀ r, G1 r = none → Q (.ref r) (dupd G1 r (.lst ds.reverse))
theorem w_revL {te : TD} {δ : DSt} {G : DG} {Q : DK} (h : te δ G fun x G1 => ∃ p ds, x = .ref p ∧ Ls G1 p ds ∧ ∀ r, G1 r = none → Q (.ref r) (dupd G1 r (.lst ds.reverse))) : dRevL te δ G Q := h
end DD
/-! more steps: dicts, targets, signs -/
namespace DD
open PySem PySem.W L2 SX Cm
section
variable {nx : DSt → DG → Prop} {rt : DK} {bk ct : DSt → DG → Prop} {δ : DSt} {G : DG} {Q : DK} {te td ti tv : TD}
theorem w_dnew (h : ∀ p, G p = none → Q (.ref p) (dupd G p (.dct []))) : dDNew δ G Q := h
theorem w_dget (h : td δ G fun x G1 => ti δ G1 fun y G2 => ∃ p kvs z v, x = .ref p ∧ y = .str z ∧ G2 p = some (.dct kvs) ∧ valD kvs (keyD z) = some v ∧ Q v G2) : dDGet td ti δ G Q := h
theorem w_dget2 (h : td δ G fun x G1 => ∃ p, x = .ref p ∧ (∃ kvs, G1 p = some (.dct kvs)) ∧ ti δ G1 fun y G2 => tv δ G2 fun u G3 => ∃ kvs z, y = .str z ∧ G3 p = some (.dct kvs) ∧ Q ((valD kvs (keyD z)).getD u) G3) : dDGet2 td ti tv δ G Q := h
theorem wx_get {k : Addr → Prop} {p : Addr} {kvs : List (Key × DV)} (e : G p = some (.dct kvs)) (h : k p) : ∃ p', DV.ref p = .ref p' ∧ (∃ kvs, G p' = some (.dct kvs)) ∧ k p' := ⟨p, rfl, ⟨kvs, e⟩, h⟩
theorem wx_get2 {k : List (Key × DV) → Str → Prop} {p : Addr} {kvs : List (Key × DV)} {z : Str} (e : G p = some (.dct kvs)) (h : k kvs z) : ∃ kvs' z', DV.str z = .str z' ∧ G p = some (.dct kvs') ∧ k kvs' z' := ⟨kvs, z, rfl, e, h⟩
theorem w_din {n : Bool} (h : ti δ G fun y G1 => td δ G1 fun x G2 => ∃ p kvs z, x = .ref p ∧ y = .str z ∧ G2 p = some (.dct kvs) ∧ Q (.bl (ng n (valD kvs (keyD z)).isSome)) G2) : dDIn n ti td δ G Q := h
theorem wx_in {k : List (Key × DV) → Str → Prop} {p : Addr} {kvs : List (Key × DV)} {z : Str} (e : G p = some (.dct kvs)) (h : k kvs z) : ∃ p' kvs' z', DV.ref p = .ref p' ∧ DV.str z = .str z' ∧ G p' = some (.dct kvs') ∧ k kvs' z' := ⟨p, kvs, z, rfl, rfl, e, h⟩
theorem w_dput (h : tv δ G fun v G1 => td δ G1 fun x G2 => ti δ G2 fun y G3 => ∃ p kvs z, x = .ref p ∧ y = .str z ∧ G3 p = some (.dct kvs) ∧ kvs.length < sizeLine ∧ nx δ (dupd G3 p (.dct (putD kvs (keyD z) v)))) : dDPut td ti tv ⟨nx, rt, bk, ct⟩ δ G := h
/-! targets -/
variable {k : DSt → DG → Prop}
theorem w_asgT {n : Nat} {t : TDGs} (h : te δ G fun d G1 => gT n t d δ G1 nx) : dAsg te (gT n t) ⟨nx, rt, bk, ct⟩ δ G := h
theorem g_T {n : Nat} {t : TDGs} {ds : List DV} (h : t ds δ G k) (e : ds.length = n := by rfl) : gT n t (.tup ds) δ G k := ⟨ds, rfl, e, h⟩
theorem g_C {i : Nat} {u : TDGs} {d : DV} {r : List DV} (h : u r (δ.set i (some d)) G k) : gNC (gN i) u (d :: r) δ G k := ⟨d, r, rfl, h⟩
theorem g_0 (h : k δ G) : gN0 [] δ G k := ⟨rfl, h⟩
/-! signs, texts, lists -/
theorem w_inS {n : Bool} {c : Nat} {b : Str} (h : Q (.bl (ng n (decide (c ∈ b.cps.toList)))) G) : bIn n (.str ⟨#[c]⟩) (.str b) G Q := ⟨c, rfl, h⟩
theorem w_ixS {z : Str} {i : Int} {c : Nat} (l : z.length ≤ sizeLine) (h : atI z.cps.toList i = some c) (q : Q (.str ⟨#[c]⟩) G) : bIx (.str z) (.int i) G Q := ⟨l, c, h, q⟩
theorem w_slS {z : Str} {lo hi : Option Int} (l : z.length ≤ sizeLine) (h : Q (.str (cutS z lo hi)) G) : bSl (.str z) lo hi G Q := ⟨l, h⟩
theorem w_slL {p : Addr} {ds : List DV} {lo hi : Option Int} (e : G p = some (.lst ds)) (h : ∀ r, G r = none → Q (.ref r) (dupd G r (.lst (cutD ds lo hi)))) : bSl (.ref p) lo hi G Q := ⟨ds, .inl e, h⟩
theorem w_addL {p q : Addr} {xs ys : List DV} (ep : G p = some (.lst xs)) (eq : G q = some (.lst ys)) (l : xs.length + ys.length ≤ sizeLine) (h : ∀ r, G r = none → Q (.ref r) (dupd G r (.lst (xs ++ ys)))) : bAdd (.ref p) (.ref q) G Q := ⟨xs, ys, ep, eq, l, h⟩
end
theorem Sub.put {G G' : DG} {p : Addr} {o : DO} (s : Sub G G') (n : G p = none) : Sub G (dupd G' p o) := s.new n
end DD
/-! the plain steps of readings, each found by the head of what is to be shown -/
namespace DD
open PySem PySem.W L2 SX Cm
class WS (p : Prop) (q : outParam Prop) : Prop where
  im : q → p
theorem w_go {p q : Prop} [i : WS p q] (h : q) : p := i.im h
section
variable {nx : DSt → DG → Prop} {rt : DK} {bk ct : DSt → DG → Prop} {δ : DSt} {G : DG} {t u : TDS} {Q : DK} {QB : Bool → DG → Prop} {QA : List DV → DG → Prop} {te ta tb tc : TD} {tt tu : TDT} {ts : TDA}
instance iw_next  : WS (dNext ⟨nx, rt, bk, ct⟩ δ G) (nx δ G) := ⟨fun h => w_next h⟩
end
section
variable {nx : DSt → DG → Prop} {rt : DK} {bk ct : DSt → DG → Prop} {δ : DSt} {G : DG} {t u : TDS} {Q : DK} {QB : Bool → DG → Prop} {QA : List DV → DG → Prop} {te ta tb tc : TD} {tt tu : TDT} {ts : TDA}
instance iw_seq  : WS (dSeq t u ⟨nx, rt, bk, ct⟩ δ G) (t ⟨u ⟨nx, rt, bk, ct⟩, rt, bk, ct⟩ δ G) := ⟨fun h => w_seq h⟩
end
section
variable {nx : DSt → DG → Prop} {rt : DK} {bk ct : DSt → DG → Prop} {δ : DSt} {G : DG} {t u : TDS} {Q : DK} {QB : Bool → DG → Prop} {QA : List DV → DG → Prop} {te ta tb tc : TD} {tt tu : TDT} {ts : TDA}
instance iw_break  : WS (dBreak ⟨nx, rt, bk, ct⟩ δ G) (bk δ G) := ⟨fun h => w_break h⟩
end
section
variable {nx : DSt → DG → Prop} {rt : DK} {bk ct : DSt → DG → Prop} {δ : DSt} {G : DG} {t u : TDS} {Q : DK} {QB : Bool → DG → Prop} {QA : List DV → DG → Prop} {te ta tb tc : TD} {tt tu : TDT} {ts : TDA}
instance iw_cont  : WS (dCont ⟨nx, rt, bk, ct⟩ δ G) (ct δ G) := ⟨fun h => w_cont h⟩
end
section
variable {nx : DSt → DG → Prop} {rt : DK} {bk ct : DSt → DG → Prop} {δ : DSt} {G : DG} {t u : TDS} {Q : DK} {QB : Bool → DG → Prop} {QA : List DV → DG → Prop} {te ta tb tc : TD} {tt tu : TDT} {ts : TDA}
instance iw_drop  : WS (dDrop te ⟨nx, rt, bk, ct⟩ δ G) (te δ G fun _ G1 => nx δ G1) := ⟨fun h => w_drop h⟩
end
section
variable {nx : DSt → DG → Prop} {rt : DK} {bk ct : DSt → DG → Prop} {δ : DSt} {G : DG} {t u : TDS} {Q : DK} {QB : Bool → DG → Prop} {QA : List DV → DG → Prop} {te ta tb tc : TD} {tt tu : TDT} {ts : TDA}
instance iw_ret  : WS (dRet te ⟨nx, rt, bk, ct⟩ δ G) (te δ G rt) := ⟨fun h => w_ret h⟩
end
section
variable {nx : DSt → DG → Prop} {rt : DK} {bk ct : DSt → DG → Prop} {δ : DSt} {G : DG} {t u : TDS} {Q : DK} {QB : Bool → DG → Prop} {QA : List DV → DG → Prop} {te ta tb tc : TD} {tt tu : TDT} {ts : TDA}
instance iw_retN  : WS (dRetN ⟨nx, rt, bk, ct⟩ δ G) (rt .non G) := ⟨fun h => w_retN h⟩
end
section
variable {nx : DSt → DG → Prop} {rt : DK} {bk ct : DSt → DG → Prop} {δ : DSt} {G : DG} {t u : TDS} {Q : DK} {QB : Bool → DG → Prop} {QA : List DV → DG → Prop} {te ta tb tc : TD} {tt tu : TDT} {ts : TDA}
instance iw_ifS {c : TDT} : WS (dIfS c t u ⟨nx, rt, bk, ct⟩ δ G) (c δ G fun b G1 => if b = true then t ⟨nx, rt, bk, ct⟩ δ G1 else u ⟨nx, rt, bk, ct⟩ δ G1) := ⟨fun h => w_ifS h⟩
end
section
variable {nx : DSt → DG → Prop} {rt : DK} {bk ct : DSt → DG → Prop} {δ : DSt} {G : DG} {t u : TDS} {Q : DK} {QB : Bool → DG → Prop} {QA : List DV → DG → Prop} {te ta tb tc : TD} {tt tu : TDT} {ts : TDA}
instance iw_asg {i : Nat} : WS (dAsg te (gN i) ⟨nx, rt, bk, ct⟩ δ G) (te δ G fun d G1 => nx (δ.set i (some d)) G1) := ⟨fun h => w_asg h⟩
end
section
variable {nx : DSt → DG → Prop} {rt : DK} {bk ct : DSt → DG → Prop} {δ : DSt} {G : DG} {t u : TDS} {Q : DK} {QB : Bool → DG → Prop} {QA : List DV → DG → Prop} {te ta tb tc : TD} {tt tu : TDT} {ts : TDA}
instance iw_asgS  : WS (dAsg te (gSb ta tb) ⟨nx, rt, bk, ct⟩ δ G) (te δ G fun v G1 => ta δ G1 fun o G2 => tb δ G2 fun i G3 => bSet o i v G3 fun G4 => nx δ G4) := ⟨fun h => w_asgS h⟩
end
section
variable {nx : DSt → DG → Prop} {rt : DK} {bk ct : DSt → DG → Prop} {δ : DSt} {G : DG} {t u : TDS} {Q : DK} {QB : Bool → DG → Prop} {QA : List DV → DG → Prop} {te ta tb tc : TD} {tt tu : TDT} {ts : TDA}
instance iw_par {i j : Nat} : WS (dPar i j ts ⟨nx, rt, bk, ct⟩ δ G) (ts δ G fun ds G1 => ∃ a b, ds = [a, b] ∧ nx ((δ.set i (some a)).set j (some b)) G1) := ⟨fun h => w_par h⟩
end
section
variable {nx : DSt → DG → Prop} {rt : DK} {bk ct : DSt → DG → Prop} {δ : DSt} {G : DG} {t u : TDS} {Q : DK} {QB : Bool → DG → Prop} {QA : List DV → DG → Prop} {te ta tb tc : TD} {tt tu : TDT} {ts : TDA}
instance iw_c {d : DV} : WS (dC d δ G Q) (Q d G) := ⟨fun h => w_c h⟩
end
section
variable {nx : DSt → DG → Prop} {rt : DK} {bk ct : DSt → DG → Prop} {δ : DSt} {G : DG} {t u : TDS} {Q : DK} {QB : Bool → DG → Prop} {QA : List DV → DG → Prop} {te ta tb tc : TD} {tt tu : TDT} {ts : TDA}
instance iw_op {b : D2} : WS (dOp b ta tb δ G Q) (ta δ G fun x G1 => tb δ G1 fun y G2 => b x y G2 Q) := ⟨fun h => w_op h⟩
end
section
variable {nx : DSt → DG → Prop} {rt : DK} {bk ct : DSt → DG → Prop} {δ : DSt} {G : DG} {t u : TDS} {Q : DK} {QB : Bool → DG → Prop} {QA : List DV → DG → Prop} {te ta tb tc : TD} {tt tu : TDT} {ts : TDA}
instance iw_call {n : Nat} {sp : DSp} : WS (dCall n sp ts δ G Q) (ts δ G fun ds G1 => ds.length = n ∧ sp ds G1 Q) := ⟨fun h => w_call h⟩
end
section
variable {nx : DSt → DG → Prop} {rt : DK} {bk ct : DSt → DG → Prop} {δ : DSt} {G : DG} {t u : TDS} {Q : DK} {QB : Bool → DG → Prop} {QA : List DV → DG → Prop} {te ta tb tc : TD} {tt tu : TDT} {ts : TDA}
instance iw_CB {b : DC} : WS (dCB b ts δ G Q) (ts δ G fun ds G1 => b ds G1 Q) := ⟨fun h => w_CB h⟩
end
section
variable {nx : DSt → DG → Prop} {rt : DK} {bk ct : DSt → DG → Prop} {δ : DSt} {G : DG} {t u : TDS} {Q : DK} {QB : Bool → DG → Prop} {QA : List DV → DG → Prop} {te ta tb tc : TD} {tt tu : TDT} {ts : TDA}
instance iw_tup  : WS (dTup ts δ G Q) (ts δ G fun ds G1 => ds.length ≤ sizeLine ∧ Q (.tup ds) G1) := ⟨fun h => w_tup h⟩
end
section
variable {nx : DSt → DG → Prop} {rt : DK} {bk ct : DSt → DG → Prop} {δ : DSt} {G : DG} {t u : TDS} {Q : DK} {QB : Bool → DG → Prop} {QA : List DV → DG → Prop} {te ta tb tc : TD} {tt tu : TDT} {ts : TDA}
instance iw_lst  : WS (dLst ts δ G Q) (ts δ G fun ds G1 => ds.length ≤ sizeLine ∧ ∀ p, G1 p = none → Q (.ref p) (dupd G1 p (.lst ds))) := ⟨fun h => w_lst h⟩
end
section
variable {nx : DSt → DG → Prop} {rt : DK} {bk ct : DSt → DG → Prop} {δ : DSt} {G : DG} {t u : TDS} {Q : DK} {QB : Bool → DG → Prop} {QA : List DV → DG → Prop} {te ta tb tc : TD} {tt tu : TDT} {ts : TDA}
instance iw_nil  : WS (dNil δ G QA) (QA [] G) := ⟨fun h => w_nil h⟩
end
section
variable {nx : DSt → DG → Prop} {rt : DK} {bk ct : DSt → DG → Prop} {δ : DSt} {G : DG} {t u : TDS} {Q : DK} {QB : Bool → DG → Prop} {QA : List DV → DG → Prop} {te ta tb tc : TD} {tt tu : TDT} {ts : TDA}
instance iw_cons  : WS (dCons te ts δ G QA) (te δ G fun x G1 => ts δ G1 fun xs G2 => QA (x :: xs) G2) := ⟨fun h => w_cons h⟩
end
section
variable {nx : DSt → DG → Prop} {rt : DK} {bk ct : DSt → DG → Prop} {δ : DSt} {G : DG} {t u : TDS} {Q : DK} {QB : Bool → DG → Prop} {QA : List DV → DG → Prop} {te ta tb tc : TD} {tt tu : TDT} {ts : TDA}
instance iw_sl {tl th : TDO} : WS (dSl te tl th δ G Q) (te δ G fun x G1 => tl δ G1 fun l G2 => th δ G2 fun u G3 => bSl x l u G3 Q) := ⟨fun h => w_sl h⟩
end
section
variable {nx : DSt → DG → Prop} {rt : DK} {bk ct : DSt → DG → Prop} {δ : DSt} {G : DG} {t u : TDS} {Q : DK} {QB : Bool → DG → Prop} {QA : List DV → DG → Prop} {te ta tb tc : TD} {tt tu : TDT} {ts : TDA}
instance iw_none {QO : Option Int → DG → Prop} : WS (dNone δ G QO) (QO none G) := ⟨fun h => w_none h⟩
end
section
variable {nx : DSt → DG → Prop} {rt : DK} {bk ct : DSt → DG → Prop} {δ : DSt} {G : DG} {t u : TDS} {Q : DK} {QB : Bool → DG → Prop} {QA : List DV → DG → Prop} {te ta tb tc : TD} {tt tu : TDT} {ts : TDA}
instance iw_some {QO : Option Int → DG → Prop} : WS (dSome te δ G QO) (te δ G fun d G' => ∃ i, d = .int i ∧ QO (some i) G') := ⟨fun h => w_some h⟩
end
section
variable {nx : DSt → DG → Prop} {rt : DK} {bk ct : DSt → DG → Prop} {δ : DSt} {G : DG} {t u : TDS} {Q : DK} {QB : Bool → DG → Prop} {QA : List DV → DG → Prop} {te ta tb tc : TD} {tt tu : TDT} {ts : TDA}
instance iw_rev  : WS (dRev te δ G Q) (te δ G fun x G1 => ∃ ds, x = .tup ds ∧ Q (.tup ds.reverse) G1) := ⟨fun h => w_rev h⟩
end
section
variable {nx : DSt → DG → Prop} {rt : DK} {bk ct : DSt → DG → Prop} {δ : DSt} {G : DG} {t u : TDS} {Q : DK} {QB : Bool → DG → Prop} {QA : List DV → DG → Prop} {te ta tb tc : TD} {tt tu : TDT} {ts : TDA}
instance iw_neg  : WS (dNeg te δ G Q) (te δ G fun x G1 => ∃ i, x = .int i ∧ Q (.int (-i)) G1) := ⟨fun h => w_neg h⟩
end
section
variable {nx : DSt → DG → Prop} {rt : DK} {bk ct : DSt → DG → Prop} {δ : DSt} {G : DG} {t u : TDS} {Q : DK} {QB : Bool → DG → Prop} {QA : List DV → DG → Prop} {te ta tb tc : TD} {tt tu : TDT} {ts : TDA}
instance iw_ifE  : WS (dIf tt ta tb δ G Q) (tt δ G fun c G1 => if c = true then ta δ G1 Q else tb δ G1 Q) := ⟨fun h => w_ifE h⟩
end
section
variable {nx : DSt → DG → Prop} {rt : DK} {bk ct : DSt → DG → Prop} {δ : DSt} {G : DG} {t u : TDS} {Q : DK} {QB : Bool → DG → Prop} {QA : List DV → DG → Prop} {te ta tb tc : TD} {tt tu : TDT} {ts : TDA}
instance iw_andV  : WS (dAndV ta tb δ G Q) (ta δ G fun x G1 => ∃ c, x = .bl c ∧ if c = true then tb δ G1 Q else Q (.bl false) G1) := ⟨fun h => w_andV h⟩
end
section
variable {nx : DSt → DG → Prop} {rt : DK} {bk ct : DSt → DG → Prop} {δ : DSt} {G : DG} {t u : TDS} {Q : DK} {QB : Bool → DG → Prop} {QA : List DV → DG → Prop} {te ta tb tc : TD} {tt tu : TDT} {ts : TDA}
instance iw_orV  : WS (dOrV ta tb δ G Q) (ta δ G fun x G1 => ∃ c, x = .bl c ∧ if c = true then Q (.bl true) G1 else tb δ G1 Q) := ⟨fun h => w_orV h⟩
end
section
variable {nx : DSt → DG → Prop} {rt : DK} {bk ct : DSt → DG → Prop} {δ : DSt} {G : DG} {t u : TDS} {Q : DK} {QB : Bool → DG → Prop} {QA : List DV → DG → Prop} {te ta tb tc : TD} {tt tu : TDT} {ts : TDA}
instance iw_notV  : WS (dNotV ta δ G Q) (ta δ G fun x G1 => ∃ c, x = .bl c ∧ Q (.bl (!c)) G1) := ⟨fun h => w_notV h⟩
end
section
variable {nx : DSt → DG → Prop} {rt : DK} {bk ct : DSt → DG → Prop} {δ : DSt} {G : DG} {t u : TDS} {Q : DK} {QB : Bool → DG → Prop} {QA : List DV → DG → Prop} {te ta tb tc : TD} {tt tu : TDT} {ts : TDA}
instance iw_BM {T : String} {b : DM} : WS (dBM T b te ts δ G Q) (te δ G fun x G1 => rcv T x G1 ∧ ts δ G1 fun ds G2 => b x ds G2 Q) := ⟨fun h => w_BM h⟩
end
section
variable {nx : DSt → DG → Prop} {rt : DK} {bk ct : DSt → DG → Prop} {δ : DSt} {G : DG} {t u : TDS} {Q : DK} {QB : Bool → DG → Prop} {QA : List DV → DG → Prop} {te ta tb tc : TD} {tt tu : TDT} {ts : TDA}
instance iw_BM0 {T : String} {b : DM} : WS (dBM0 T b te δ G Q) (te δ G fun x G1 => rcv T x G1 ∧ b x [] G1 Q) := ⟨fun h => w_BM0 h⟩
end
section
variable {nx : DSt → DG → Prop} {rt : DK} {bk ct : DSt → DG → Prop} {δ : DSt} {G : DG} {t u : TDS} {Q : DK} {QB : Bool → DG → Prop} {QA : List DV → DG → Prop} {te ta tb tc : TD} {tt tu : TDT} {ts : TDA}
instance iw_rcvS {z : Str} {A : Prop} : WS (rcv "str" (.str z) G ∧ A) (A) := ⟨fun h => w_rcvS h⟩
end
section
variable {nx : DSt → DG → Prop} {rt : DK} {bk ct : DSt → DG → Prop} {δ : DSt} {G : DG} {t u : TDS} {Q : DK} {QB : Bool → DG → Prop} {QA : List DV → DG → Prop} {te ta tb tc : TD} {tt tu : TDT} {ts : TDA}
instance iw_test  : WS (dTest te δ G QB) (te δ G fun d G' => ∃ k, d = .bl k ∧ QB k G') := ⟨fun h => w_test h⟩
end
section
variable {nx : DSt → DG → Prop} {rt : DK} {bk ct : DSt → DG → Prop} {δ : DSt} {G : DG} {t u : TDS} {Q : DK} {QB : Bool → DG → Prop} {QA : List DV → DG → Prop} {te ta tb tc : TD} {tt tu : TDT} {ts : TDA}
instance iw_tru  : WS (dTru te δ G QB) (te δ G fun d G' => bTru d G' QB) := ⟨fun h => w_tru h⟩
end
section
variable {nx : DSt → DG → Prop} {rt : DK} {bk ct : DSt → DG → Prop} {δ : DSt} {G : DG} {t u : TDS} {Q : DK} {QB : Bool → DG → Prop} {QA : List DV → DG → Prop} {te ta tb tc : TD} {tt tu : TDT} {ts : TDA}
instance iw_and  : WS (dAnd tt tu δ G QB) (tt δ G fun c G1 => if c = true then tu δ G1 QB else QB false G1) := ⟨fun h => w_and h⟩
end
section
variable {nx : DSt → DG → Prop} {rt : DK} {bk ct : DSt → DG → Prop} {δ : DSt} {G : DG} {t u : TDS} {Q : DK} {QB : Bool → DG → Prop} {QA : List DV → DG → Prop} {te ta tb tc : TD} {tt tu : TDT} {ts : TDA}
instance iw_or  : WS (dOr tt tu δ G QB) (tt δ G fun c G1 => if c = true then QB true G1 else tu δ G1 QB) := ⟨fun h => w_or h⟩
end
section
variable {nx : DSt → DG → Prop} {rt : DK} {bk ct : DSt → DG → Prop} {δ : DSt} {G : DG} {t u : TDS} {Q : DK} {QB : Bool → DG → Prop} {QA : List DV → DG → Prop} {te ta tb tc : TD} {tt tu : TDT} {ts : TDA}
instance iw_not  : WS (dNot tt δ G QB) (tt δ G fun c G1 => QB (!c) G1) := ⟨fun h => w_not h⟩
end
section
variable {nx : DSt → DG → Prop} {rt : DK} {bk ct : DSt → DG → Prop} {δ : DSt} {G : DG} {t u : TDS} {Q : DK} {QB : Bool → DG → Prop} {QA : List DV → DG → Prop} {te ta tb tc : TD} {tt tu : TDT} {ts : TDA}
instance iw_yes  : WS (dYes δ G QB) (QB true G) := ⟨fun h => w_yes h⟩
end
section
variable {nx : DSt → DG → Prop} {rt : DK} {bk ct : DSt → DG → Prop} {δ : DSt} {G : DG} {t u : TDS} {Q : DK} {QB : Bool → DG → Prop} {QA : List DV → DG → Prop} {te ta tb tc : TD} {tt tu : TDT} {ts : TDA}
instance iw_truB {b : Bool} : WS (bTru (.bl b) G QB) (QB b G) := ⟨fun h => w_truB h⟩
end
section
variable {nx : DSt → DG → Prop} {rt : DK} {bk ct : DSt → DG → Prop} {δ : DSt} {G : DG} {t u : TDS} {Q : DK} {QB : Bool → DG → Prop} {QA : List DV → DG → Prop} {te ta tb tc : TD} {tt tu : TDT} {ts : TDA}
instance iw_truI {i : Int} : WS (bTru (.int i) G QB) (QB (i != 0) G) := ⟨fun h => w_truI h⟩
end
section
variable {nx : DSt → DG → Prop} {rt : DK} {bk ct : DSt → DG → Prop} {δ : DSt} {G : DG} {t u : TDS} {Q : DK} {QB : Bool → DG → Prop} {QA : List DV → DG → Prop} {te ta tb tc : TD} {tt tu : TDT} {ts : TDA}
instance iw_truN  : WS (bTru .non G QB) (QB false G) := ⟨fun h => w_truN h⟩
end
section
variable {nx : DSt → DG → Prop} {rt : DK} {bk ct : DSt → DG → Prop} {δ : DSt} {G : DG} {t u : TDS} {Q : DK} {QB : Bool → DG → Prop} {QA : List DV → DG → Prop} {te ta tb tc : TD} {tt tu : TDT} {ts : TDA}
instance iw_truT {ds : List DV} : WS (bTru (.tup ds) G QB) (QB (!ds.isEmpty) G) := ⟨fun h => w_truT h⟩
end
section
variable {nx : DSt → DG → Prop} {rt : DK} {bk ct : DSt → DG → Prop} {δ : DSt} {G : DG} {t u : TDS} {Q : DK} {QB : Bool → DG → Prop} {QA : List DV → DG → Prop} {te ta tb tc : TD} {tt tu : TDT} {ts : TDA}
instance iw_addI {i j : Int} : WS (bAdd (.int i) (.int j) G Q) (Q (.int (i + j)) G) := ⟨fun h => w_addI h⟩
end
section
variable {nx : DSt → DG → Prop} {rt : DK} {bk ct : DSt → DG → Prop} {δ : DSt} {G : DG} {t u : TDS} {Q : DK} {QB : Bool → DG → Prop} {QA : List DV → DG → Prop} {te ta tb tc : TD} {tt tu : TDT} {ts : TDA}
instance iw_subI {i j : Int} : WS (bSub (.int i) (.int j) G Q) (Q (.int (i - j)) G) := ⟨fun h => w_subI h⟩
end
section
variable {nx : DSt → DG → Prop} {rt : DK} {bk ct : DSt → DG → Prop} {δ : DSt} {G : DG} {t u : TDS} {Q : DK} {QB : Bool → DG → Prop} {QA : List DV → DG → Prop} {te ta tb tc : TD} {tt tu : TDT} {ts : TDA}
instance iw_cmpI {g : Int → Int → Bool} {s : List Nat → List Nat → Bool} {i j : Int} : WS (bCmp g s (.int i) (.int j) G Q) (Q (.bl (g i j)) G) := ⟨fun h => w_cmpI h⟩
end
section
variable {nx : DSt → DG → Prop} {rt : DK} {bk ct : DSt → DG → Prop} {δ : DSt} {G : DG} {t u : TDS} {Q : DK} {QB : Bool → DG → Prop} {QA : List DV → DG → Prop} {te ta tb tc : TD} {tt tu : TDT} {ts : TDA}
instance iw_cmpS {g : Int → Int → Bool} {s : List Nat → List Nat → Bool} {i j : Str} : WS (bCmp g s (.str i) (.str j) G Q) (Q (.bl (s i.cps.toList j.cps.toList)) G) := ⟨fun h => w_cmpS h⟩
end
section
variable {nx : DSt → DG → Prop} {rt : DK} {bk ct : DSt → DG → Prop} {δ : DSt} {G : DG} {t u : TDS} {Q : DK} {QB : Bool → DG → Prop} {QA : List DV → DG → Prop} {te ta tb tc : TD} {tt tu : TDT} {ts : TDA}
instance iw_eqSS {a b : Str} : WS (bEq false (.str a) (.str b) G Q) (Q (.bl (decide (a = b))) G) := ⟨fun h => w_eqSS h⟩
end
section
variable {nx : DSt → DG → Prop} {rt : DK} {bk ct : DSt → DG → Prop} {δ : DSt} {G : DG} {t u : TDS} {Q : DK} {QB : Bool → DG → Prop} {QA : List DV → DG → Prop} {te ta tb tc : TD} {tt tu : TDT} {ts : TDA}
instance iw_eqII {a b : Int} : WS (bEq false (.int a) (.int b) G Q) (Q (.bl (decide (a = b))) G) := ⟨fun h => w_eqII h⟩
end
section
variable {nx : DSt → DG → Prop} {rt : DK} {bk ct : DSt → DG → Prop} {δ : DSt} {G : DG} {t u : TDS} {Q : DK} {QB : Bool → DG → Prop} {QA : List DV → DG → Prop} {te ta tb tc : TD} {tt tu : TDT} {ts : TDA}
instance iw_eqBB {a b : Bool} : WS (bEq false (.bl a) (.bl b) G Q) (Q (.bl (decide (a = b))) G) := ⟨fun h => w_eqBB h⟩
end
section
variable {nx : DSt → DG → Prop} {rt : DK} {bk ct : DSt → DG → Prop} {δ : DSt} {G : DG} {t u : TDS} {Q : DK} {QB : Bool → DG → Prop} {QA : List DV → DG → Prop} {te ta tb tc : TD} {tt tu : TDT} {ts : TDA}
instance iw_neSS {a b : Str} : WS (bEq true (.str a) (.str b) G Q) (Q (.bl (!decide (a = b))) G) := ⟨fun h => w_neSS h⟩
end
section
variable {nx : DSt → DG → Prop} {rt : DK} {bk ct : DSt → DG → Prop} {δ : DSt} {G : DG} {t u : TDS} {Q : DK} {QB : Bool → DG → Prop} {QA : List DV → DG → Prop} {te ta tb tc : TD} {tt tu : TDT} {ts : TDA}
instance iw_neII {a b : Int} : WS (bEq true (.int a) (.int b) G Q) (Q (.bl (!decide (a = b))) G) := ⟨fun h => w_neII h⟩
end
section
variable {nx : DSt → DG → Prop} {rt : DK} {bk ct : DSt → DG → Prop} {δ : DSt} {G : DG} {t u : TDS} {Q : DK} {QB : Bool → DG → Prop} {QA : List DV → DG → Prop} {te ta tb tc : TD} {tt tu : TDT} {ts : TDA}
instance iw_neBB {a b : Bool} : WS (bEq true (.bl a) (.bl b) G Q) (Q (.bl (!decide (a = b))) G) := ⟨fun h => w_neBB h⟩
end
section
variable {nx : DSt → DG → Prop} {rt : DK} {bk ct : DSt → DG → Prop} {δ : DSt} {G : DG} {t u : TDS} {Q : DK} {QB : Bool → DG → Prop} {QA : List DV → DG → Prop} {te ta tb tc : TD} {tt tu : TDT} {ts : TDA}
instance iw_eqSN {a : Str} {n : Bool} : WS (bEq n (.str a) .non G Q) (Q (.bl n) G) := ⟨fun h => w_eqSN h⟩
end
section
variable {nx : DSt → DG → Prop} {rt : DK} {bk ct : DSt → DG → Prop} {δ : DSt} {G : DG} {t u : TDS} {Q : DK} {QB : Bool → DG → Prop} {QA : List DV → DG → Prop} {te ta tb tc : TD} {tt tu : TDT} {ts : TDA}
instance iw_eqIN {a : Int} {n : Bool} : WS (bEq n (.int a) .non G Q) (Q (.bl n) G) := ⟨fun h => w_eqIN h⟩
end
section
variable {nx : DSt → DG → Prop} {rt : DK} {bk ct : DSt → DG → Prop} {δ : DSt} {G : DG} {t u : TDS} {Q : DK} {QB : Bool → DG → Prop} {QA : List DV → DG → Prop} {te ta tb tc : TD} {tt tu : TDT} {ts : TDA}
instance iw_eqSI {a : Str} {b : Int} {n : Bool} : WS (bEq n (.str a) (.int b) G Q) (Q (.bl n) G) := ⟨fun h => w_eqSI h⟩
end
section
variable {nx : DSt → DG → Prop} {rt : DK} {bk ct : DSt → DG → Prop} {δ : DSt} {G : DG} {t u : TDS} {Q : DK} {QB : Bool → DG → Prop} {QA : List DV → DG → Prop} {te ta tb tc : TD} {tt tu : TDT} {ts : TDA}
instance iw_eqIS {a : Int} {b : Str} {n : Bool} : WS (bEq n (.int a) (.str b) G Q) (Q (.bl n) G) := ⟨fun h => w_eqIS h⟩
end
section
variable {nx : DSt → DG → Prop} {rt : DK} {bk ct : DSt → DG → Prop} {δ : DSt} {G : DG} {t u : TDS} {Q : DK} {QB : Bool → DG → Prop} {QA : List DV → DG → Prop} {te ta tb tc : TD} {tt tu : TDT} {ts : TDA}
instance iw_eqNS {b : Str} {n : Bool} : WS (bEq n .non (.str b) G Q) (Q (.bl n) G) := ⟨fun h => w_eqNS h⟩
end
section
variable {nx : DSt → DG → Prop} {rt : DK} {bk ct : DSt → DG → Prop} {δ : DSt} {G : DG} {t u : TDS} {Q : DK} {QB : Bool → DG → Prop} {QA : List DV → DG → Prop} {te ta tb tc : TD} {tt tu : TDT} {ts : TDA}
instance iw_eqBS {a : Bool} {b : Str} {n : Bool} : WS (bEq n (.bl a) (.str b) G Q) (Q (.bl n) G) := ⟨fun h => w_eqBS h⟩
end
section
variable {nx : DSt → DG → Prop} {rt : DK} {bk ct : DSt → DG → Prop} {δ : DSt} {G : DG} {t u : TDS} {Q : DK} {QB : Bool → DG → Prop} {QA : List DV → DG → Prop} {te ta tb tc : TD} {tt tu : TDT} {ts : TDA}
instance iw_eqT0 {a : List DV} : WS (bEq false (.tup a) (.tup []) G Q) (Q (.bl a.isEmpty) G) := ⟨fun h => w_eqT0 h⟩
end
section
variable {nx : DSt → DG → Prop} {rt : DK} {bk ct : DSt → DG → Prop} {δ : DSt} {G : DG} {t u : TDS} {Q : DK} {QB : Bool → DG → Prop} {QA : List DV → DG → Prop} {te ta tb tc : TD} {tt tu : TDT} {ts : TDA}
instance iw_isN {x : DV} : WS (bIs false x .non G Q) (Q (.bl (decide (x = .non))) G) := ⟨fun h => w_isN h⟩
end
section
variable {nx : DSt → DG → Prop} {rt : DK} {bk ct : DSt → DG → Prop} {δ : DSt} {G : DG} {t u : TDS} {Q : DK} {QB : Bool → DG → Prop} {QA : List DV → DG → Prop} {te ta tb tc : TD} {tt tu : TDT} {ts : TDA}
instance iw_isnN {x : DV} : WS (bIs true x .non G Q) (Q (.bl (!decide (x = .non))) G) := ⟨fun h => w_isnN h⟩
end
section
variable {nx : DSt → DG → Prop} {rt : DK} {bk ct : DSt → DG → Prop} {δ : DSt} {G : DG} {t u : TDS} {Q : DK} {QB : Bool → DG → Prop} {QA : List DV → DG → Prop} {te ta tb tc : TD} {tt tu : TDT} {ts : TDA}
instance iw_ix0 {a : DV} {r : List DV} : WS (bIx (.tup (a :: r)) (.int 0) G Q) (Q a G) := ⟨fun h => w_ix0 h⟩
end
section
variable {nx : DSt → DG → Prop} {rt : DK} {bk ct : DSt → DG → Prop} {δ : DSt} {G : DG} {t u : TDS} {Q : DK} {QB : Bool → DG → Prop} {QA : List DV → DG → Prop} {te ta tb tc : TD} {tt tu : TDT} {ts : TDA}
instance iw_ix1 {a b : DV} {r : List DV} : WS (bIx (.tup (a :: b :: r)) (.int 1) G Q) (Q b G) := ⟨fun h => w_ix1 h⟩
end
section
variable {nx : DSt → DG → Prop} {rt : DK} {bk ct : DSt → DG → Prop} {δ : DSt} {G : DG} {t u : TDS} {Q : DK} {QB : Bool → DG → Prop} {QA : List DV → DG → Prop} {te ta tb tc : TD} {tt tu : TDT} {ts : TDA}
instance iw_ix2 {a b c : DV} {r : List DV} : WS (bIx (.tup (a :: b :: c :: r)) (.int 2) G Q) (Q c G) := ⟨fun h => w_ix2 h⟩
end
section
variable {nx : DSt → DG → Prop} {rt : DK} {bk ct : DSt → DG → Prop} {δ : DSt} {G : DG} {t u : TDS} {Q : DK} {QB : Bool → DG → Prop} {QA : List DV → DG → Prop} {te ta tb tc : TD} {tt tu : TDT} {ts : TDA}
instance iw_ix3 {a b c d : DV} {r : List DV} : WS (bIx (.tup (a :: b :: c :: d :: r)) (.int 3) G Q) (Q d G) := ⟨fun h => w_ix3 h⟩
end
section
variable {nx : DSt → DG → Prop} {rt : DK} {bk ct : DSt → DG → Prop} {δ : DSt} {G : DG} {t u : TDS} {Q : DK} {QB : Bool → DG → Prop} {QA : List DV → DG → Prop} {te ta tb tc : TD} {tt tu : TDT} {ts : TDA}
instance iw_slT {ds : List DV} {lo hi : Option Int} : WS (bSl (.tup ds) lo hi G Q) (Q (.tup (cutD ds lo hi)) G) := ⟨fun h => w_slT h⟩
end
section
variable {nx : DSt → DG → Prop} {rt : DK} {bk ct : DSt → DG → Prop} {δ : DSt} {G : DG} {t u : TDS} {Q : DK} {QB : Bool → DG → Prop} {QA : List DV → DG → Prop} {te ta tb tc : TD} {tt tu : TDT} {ts : TDA}
instance iw_lenT {ds : List DV} : WS (bLen [.tup ds] G Q) (Q (.int ds.length) G) := ⟨fun h => w_lenT h⟩
end
section
variable {nx : DSt → DG → Prop} {rt : DK} {bk ct : DSt → DG → Prop} {δ : DSt} {G : DG} {t u : TDS} {Q : DK} {QB : Bool → DG → Prop} {QA : List DV → DG → Prop} {te ta tb tc : TD} {tt tu : TDT} {ts : TDA}
instance iw_intB {k : Bool} : WS (bInt1 [.bl k] G Q) (Q (.int (if k = true then 1 else 0)) G) := ⟨fun h => w_intB h⟩
end
section
variable {nx : DSt → DG → Prop} {rt : DK} {bk ct : DSt → DG → Prop} {δ : DSt} {G : DG} {t u : TDS} {Q : DK} {QB : Bool → DG → Prop} {QA : List DV → DG → Prop} {te ta tb tc : TD} {tt tu : TDT} {ts : TDA}
instance iw_intI {k : Int} : WS (bInt1 [.int k] G Q) (Q (.int k) G) := ⟨fun h => w_intI h⟩
end
section
variable {nx : DSt → DG → Prop} {rt : DK} {bk ct : DSt → DG → Prop} {δ : DSt} {G : DG} {t u : TDS} {Q : DK} {QB : Bool → DG → Prop} {QA : List DV → DG → Prop} {te ta tb tc : TD} {tt tu : TDT} {ts : TDA}
instance iw_tupT {ds : List DV} : WS (bTuple [.tup ds] G Q) (Q (.tup ds) G) := ⟨fun h => w_tupT h⟩
end
section
variable {nx : DSt → DG → Prop} {rt : DK} {bk ct : DSt → DG → Prop} {δ : DSt} {G : DG} {t u : TDS} {Q : DK} {QB : Bool → DG → Prop} {QA : List DV → DG → Prop} {te ta tb tc : TD} {tt tu : TDT} {ts : TDA}
instance iw_for {tg : TDG} {tb : TDS} {ti : TDI} : WS (dFor ti tg tb ⟨nx, rt, bk, ct⟩ δ G) (ti δ G fun ds st G1 => ForG ds st tg tb nx rt δ G1) := ⟨fun h => w_for h⟩
end
section
variable {nx : DSt → DG → Prop} {rt : DK} {bk ct : DSt → DG → Prop} {δ : DSt} {G : DG} {t u : TDS} {Q : DK} {QB : Bool → DG → Prop} {QA : List DV → DG → Prop} {te ta tb tc : TD} {tt tu : TDT} {ts : TDA}
instance iw_lc {ti : TDI} {ld : TL} {vs : List Nat} : WS (dLc ti ld tt te vs δ G Q) (ti δ G fun ds st G1 => LcG ds st ld tt te (wipeD δ vs) G1 Q) := ⟨fun h => w_lc h⟩
end
section
variable {nx : DSt → DG → Prop} {rt : DK} {bk ct : DSt → DG → Prop} {δ : DSt} {G : DG} {t u : TDS} {Q : DK} {QB : Bool → DG → Prop} {QA : List DV → DG → Prop} {te ta tb tc : TD} {tt tu : TDT} {ts : TDA}
variable {RI : List DV → (DG → Prop) → DG → Prop}
instance iwi_tup  : WS (dITup te δ G RI) (te δ G fun d G1 => ∃ ds, d = .tup ds ∧ RI ds (fun _ => True) G1) := ⟨fun h => wi_tup h⟩
end
section
variable {nx : DSt → DG → Prop} {rt : DK} {bk ct : DSt → DG → Prop} {δ : DSt} {G : DG} {t u : TDS} {Q : DK} {QB : Bool → DG → Prop} {QA : List DV → DG → Prop} {te ta tb tc : TD} {tt tu : TDT} {ts : TDA}
variable {RI : List DV → (DG → Prop) → DG → Prop}
instance iwi_lst  : WS (dIList te δ G RI) (te δ G fun d G1 => ∃ p ds, d = .ref p ∧ Ls G1 p ds ∧ RI ds (fun G => Ls G p ds) G1) := ⟨fun h => wi_lst h⟩
end
section
variable {nx : DSt → DG → Prop} {rt : DK} {bk ct : DSt → DG → Prop} {δ : DSt} {G : DG} {t u : TDS} {Q : DK} {QB : Bool → DG → Prop} {QA : List DV → DG → Prop} {te ta tb tc : TD} {tt tu : TDT} {ts : TDA}
variable {RI : List DV → (DG → Prop) → DG → Prop}
instance iwi_str  : WS (dIStr te δ G RI) (te δ G fun d G1 => ∃ z, d = .str z ∧ RI (signs z) (fun _ => True) G1) := ⟨fun h => wi_str h⟩
end
section
variable {nx : DSt → DG → Prop} {rt : DK} {bk ct : DSt → DG → Prop} {δ : DSt} {G : DG} {t u : TDS} {Q : DK} {QB : Bool → DG → Prop} {QA : List DV → DG → Prop} {te ta tb tc : TD} {tt tu : TDT} {ts : TDA}
variable {RI : List DV → (DG → Prop) → DG → Prop}
instance iwi_rng  : WS (dIRng ts δ G RI) (ts δ G fun ds G1 => ∃ j : Int, ds = [.int j] ∧ -(2 ^ 62) ≤ j ∧ j < 2 ^ 62 ∧ RI (rng 0 j.toNat) (fun _ => True) G1) := ⟨fun h => wi_rng h⟩
end
section
variable {nx : DSt → DG → Prop} {rt : DK} {bk ct : DSt → DG → Prop} {δ : DSt} {G : DG} {t u : TDS} {Q : DK} {QB : Bool → DG → Prop} {QA : List DV → DG → Prop} {te ta tb tc : TD} {tt tu : TDT} {ts : TDA}
variable {RI : List DV → (DG → Prop) → DG → Prop}
instance iwi_rng2  : WS (dIRng2 ts δ G RI) (ts δ G fun ds G1 => ∃ i j : Int, ds = [.int i, .int j] ∧ (-(2 ^ 62) ≤ i ∧ i < 2 ^ 62 ∧ -(2 ^ 62) ≤ j ∧ j < 2 ^ 62) ∧ RI (rng i (j - i).toNat) (fun _ => True) G1) := ⟨fun h => wi_rng2 h⟩
end
section
variable {nx : DSt → DG → Prop} {rt : DK} {bk ct : DSt → DG → Prop} {δ : DSt} {G : DG} {t u : TDS} {Q : DK} {QB : Bool → DG → Prop} {QA : List DV → DG → Prop} {te ta tb tc : TD} {tt tu : TDT} {ts : TDA}
variable {RI : List DV → (DG → Prop) → DG → Prop}
instance iwi_enumT  : WS (dIEnumT ts δ G RI) (ts δ G fun xs G1 => ∃ ds, xs = [.tup ds] ∧ RI (nmbd ds) (fun _ => True) G1) := ⟨fun h => wi_enumT h⟩
end
section
variable {nx : DSt → DG → Prop} {rt : DK} {bk ct : DSt → DG → Prop} {δ : DSt} {G : DG} {t u : TDS} {Q : DK} {QB : Bool → DG → Prop} {QA : List DV → DG → Prop} {te ta tb tc : TD} {tt tu : TDT} {ts : TDA}
variable {RI : List DV → (DG → Prop) → DG → Prop}
instance iwi_enum  : WS (dIEnum ts δ G RI) (ts δ G fun xs G1 => ∃ p ds, xs = [.ref p] ∧ Ls G1 p ds ∧ RI (nmbd ds) (fun G => Ls G p ds) G1) := ⟨fun h => wi_enum h⟩
end
section
variable {nx : DSt → DG → Prop} {rt : DK} {bk ct : DSt → DG → Prop} {δ : DSt} {G : DG} {t u : TDS} {Q : DK} {QB : Bool → DG → Prop} {QA : List DV → DG → Prop} {te ta tb tc : TD} {tt tu : TDT} {ts : TDA}
variable {RI : List DV → (DG → Prop) → DG → Prop}
instance iwi_rev  : WS (dIRev ts δ G RI) (ts δ G fun xs G1 => ∃ p ds, xs = [.ref p] ∧ Ls G1 p ds ∧ RI ds.reverse (fun G => Ls G p ds) G1) := ⟨fun h => wi_rev h⟩
end
section
variable {nx : DSt → DG → Prop} {rt : DK} {bk ct : DSt → DG → Prop} {δ : DSt} {G : DG} {t u : TDS} {Q : DK} {QB : Bool → DG → Prop} {QA : List DV → DG → Prop} {te ta tb tc : TD} {tt tu : TDT} {ts : TDA}
variable {RI : List DV → (DG → Prop) → DG → Prop}
instance iwi_revR  : WS (dIRevR ts δ G RI) (ts δ G fun ds G1 => ∃ j : Int, ds = [.int j] ∧ 0 ≤ j ∧ j < 2 ^ 62 ∧ RI (rng 0 j.toNat).reverse (fun _ => True) G1) := ⟨fun h => wi_revR h⟩
end
section
variable {nx : DSt → DG → Prop} {rt : DK} {bk ct : DSt → DG → Prop} {δ : DSt} {G : DG} {t u : TDS} {Q : DK} {QB : Bool → DG → Prop} {QA : List DV → DG → Prop} {te ta tb tc : TD} {tt tu : TDT} {ts : TDA}
variable {RI : List DV → (DG → Prop) → DG → Prop}
instance ig_n {d : DV} {i : Nat} {k : DSt → DG → Prop} : WS (gN i d δ G k) (k (δ.set i (some d)) G) := ⟨fun h => g_n h⟩
end
section
variable {nx : DSt → DG → Prop} {rt : DK} {bk ct : DSt → DG → Prop} {δ : DSt} {G : DG} {Q : DK} {te td ti tv : TD}
instance iw_dnew  : WS (dDNew δ G Q) (∀ p, G p = none → Q (.ref p) (dupd G p (.dct []))) := ⟨fun h => w_dnew h⟩
end
section
variable {nx : DSt → DG → Prop} {rt : DK} {bk ct : DSt → DG → Prop} {δ : DSt} {G : DG} {Q : DK} {te td ti tv : TD}
instance iw_dget  : WS (dDGet td ti δ G Q) (td δ G fun x G1 => ti δ G1 fun y G2 => ∃ p kvs z v, x = .ref p ∧ y = .str z ∧ G2 p = some (.dct kvs) ∧ valD kvs (keyD z) = some v ∧ Q v G2) := ⟨fun h => w_dget h⟩
end
section
variable {nx : DSt → DG → Prop} {rt : DK} {bk ct : DSt → DG → Prop} {δ : DSt} {G : DG} {Q : DK} {te td ti tv : TD}
instance iw_dget2  : WS (dDGet2 td ti tv δ G Q) (td δ G fun x G1 => ∃ p, x = .ref p ∧ (∃ kvs, G1 p = some (.dct kvs)) ∧ ti δ G1 fun y G2 => tv δ G2 fun u G3 => ∃ kvs z, y = .str z ∧ G3 p = some (.dct kvs) ∧ Q ((valD kvs (keyD z)).getD u) G3) := ⟨fun h => w_dget2 h⟩
end
section
variable {nx : DSt → DG → Prop} {rt : DK} {bk ct : DSt → DG → Prop} {δ : DSt} {G : DG} {Q : DK} {te td ti tv : TD}
instance iw_din {n : Bool} : WS (dDIn n ti td δ G Q) (ti δ G fun y G1 => td δ G1 fun x G2 => ∃ p kvs z, x = .ref p ∧ y = .str z ∧ G2 p = some (.dct kvs) ∧ Q (.bl (ng n (valD kvs (keyD z)).isSome)) G2) := ⟨fun h => w_din h⟩
end
section
variable {nx : DSt → DG → Prop} {rt : DK} {bk ct : DSt → DG → Prop} {δ : DSt} {G : DG} {Q : DK} {te td ti tv : TD}
instance iw_dput  : WS (dDPut td ti tv ⟨nx, rt, bk, ct⟩ δ G) (tv δ G fun v G1 => td δ G1 fun x G2 => ti δ G2 fun y G3 => ∃ p kvs z, x = .ref p ∧ y = .str z ∧ G3 p = some (.dct kvs) ∧ kvs.length < sizeLine ∧ nx δ (dupd G3 p (.dct (putD kvs (keyD z) v)))) := ⟨fun h => w_dput h⟩
end
section
variable {nx : DSt → DG → Prop} {rt : DK} {bk ct : DSt → DG → Prop} {δ : DSt} {G : DG} {Q : DK} {te td ti tv : TD}
variable {k : DSt → DG → Prop}
instance iw_asgT {n : Nat} {t : TDGs} : WS (dAsg te (gT n t) ⟨nx, rt, bk, ct⟩ δ G) (te δ G fun d G1 => gT n t d δ G1 nx) := ⟨fun h => w_asgT h⟩
end
section
variable {nx : DSt → DG → Prop} {rt : DK} {bk ct : DSt → DG → Prop} {δ : DSt} {G : DG} {Q : DK} {te td ti tv : TD}
variable {k : DSt → DG → Prop}
instance ig_C {i : Nat} {u : TDGs} {d : DV} {r : List DV} : WS (gNC (gN i) u (d :: r) δ G k) (u r (δ.set i (some d)) G k) := ⟨fun h => g_C h⟩
end
section
variable {nx : DSt → DG → Prop} {rt : DK} {bk ct : DSt → DG → Prop} {δ : DSt} {G : DG} {Q : DK} {te td ti tv : TD}
variable {k : DSt → DG → Prop}
instance ig_0  : WS (gN0 [] δ G k) (k δ G) := ⟨fun h => g_0 h⟩
end
section
variable {nx : DSt → DG → Prop} {rt : DK} {bk ct : DSt → DG → Prop} {δ : DSt} {G : DG} {Q : DK} {te td ti tv : TD}
variable {k : DSt → DG → Prop}
instance iw_inS {n : Bool} {c : Nat} {b : Str} : WS (bIn n (.str ⟨#[c]⟩) (.str b) G Q) (Q (.bl (ng n (decide (c ∈ b.cps.toList)))) G) := ⟨fun h => w_inS h⟩
end
end DD
/-! steps that leave the store behind them unnamed -/
namespace DD
open PySem PySem.W L2 SX Cm
/-- all but p as ahead -/
def Upd (G : DG) (p : Addr) (G' : DG) : Prop := ∀ a, a ≠ p → G' a = G a
theorem Upd.mk {G : DG} {p : Addr} {o : DO} : Upd G p (dupd G p o) := fun a h => dupd_ne h
theorem Upd.tr {A B C : DG} {p : Addr} (h : Upd A p B) (g : Upd B p C) : Upd A p C := fun a n => (g a n).trans (h a n)
theorem Upd.refl (A : DG) (p : Addr) : Upd A p A := fun _ _ => rfl
theorem sub_get {G G' : DG} {a : Addr} {o : DO} (s : Sub G G') (h : G a = some o) : G' a = some o := s _ _ h
theorem upd_get {G G' : DG} {a p : Addr} {o : DO} (u : Upd G p G') (h : G a = some o) (n : a ≠ p) : G' a = some o := (u _ n).trans h
theorem sub_tr {B G G' : DG} (s2 : Sub G G') (s1 : Sub B G) : Sub B G' := s1.trans s2
theorem sub_up {B G G' : DG} {p : Addr} (u : Upd G p G') (s : Sub B G) (n : B p = none) : Sub B G' := fun a o e => by
  have : a ≠ p := fun z => by rw [z, n] at e; cases e
  rw [u a this]; exact s a o e
theorem upd_in {B G G' : DG} {p : Addr} (u : Upd G p G') (s : Upd B p G) : Upd B p G' := s.tr u
@[elab_as_elim] theorem abs_new {G : DG} {p : Addr} {o : DO} {M : DG → Prop} (np : G p = none) (h : ∀ G', Sub G G' → G' p = some o → M G') : M (dupd G p o) := h _ ((Sub.refl G).new np) dupd_same
@[elab_as_elim] theorem abs_upd {G : DG} {p : Addr} {o o' : DO} {M : DG → Prop} (e : G p = some o') (h : ∀ G', Upd G p G' → G' p = some o → M G') : M (dupd G p o) := h _ Upd.mk dupd_same
/-! comprehensions whose elements leave the store as it is -/
theorem lcs_pure {ds : List DV} {st : DG → Prop} {ld : TL} {tt : TDT} {te : TD} {δ : DSt} {G1 : DG} {Q : DK} (f : DV → Option DV) (hsc : ∀ G, Sub G1 G → st G) (hl : ds.length ≤ 1000000)
    (h : ∀ d ∈ ds, ∀ (G : DG) (k1 : DK) (k0 : DG → Prop), Sub G1 G → (∀ y, f d = some y → k1 y G) → (f d = none → k0 G) →
      ld d δ fun δ2 => tt δ2 G fun b G3 => if b = true then te δ2 G3 k1 else k0 G3)
    (q : ∀ p G', G1 p = none → Sub G1 G' → G' p = some (.lst (ds.filterMap f)) → Q (.ref p) G') : LcG ds st ld tt te δ G1 Q :=
  lcg_pure f (fun p o np => hsc _ ((Sub.refl G1).new np)) hl (fun d hd G k1 k0 ⟨p, acc, np, e⟩ h1 h0 => h d hd G k1 k0 (by rw [e]; exact (Sub.refl G1).new np) h1 h0) fun p np => q p _ np ((Sub.refl G1).new np) dupd_same
theorem lcs_each {ds : List DV} {st : DG → Prop} {ld : TL} {tt : TDT} {te : TD} {δ : DSt} {G1 : DG} {Q : DK} (E : Nat → DV → Prop) (hsc : ∀ G, Sub G1 G → st G) (hl : ds.length ≤ 1000000)
    (h : ∀ i d, ds[i]? = some d → ∀ (G : DG) (k1 : DK) (k0 : DG → Prop), Sub G1 G → (∀ y, E i y → k1 y G) →
      ld d δ fun δ2 => tt δ2 G fun b G3 => if b = true then te δ2 G3 k1 else k0 G3)
    (q : ∀ p G' acc, G1 p = none → Sub G1 G' → G' p = some (.lst acc) → acc.length = ds.length → (∀ i y, acc[i]? = some y → E i y) → Q (.ref p) G') : LcG ds st ld tt te δ G1 Q :=
  lcg_each E (fun p o np => hsc _ ((Sub.refl G1).new np)) hl (fun i d hd G k1 k0 ⟨p, acc, np, e⟩ h1 => h i d hd G k1 k0 (by rw [e]; exact (Sub.refl G1).new np) h1) fun p acc np la he => q p _ acc np ((Sub.refl G1).new np) dupd_same la he
end DD
/-! decks that are one list of cells, as a thing of the store -/
namespace DD
open PySem PySem.W L2 SX Cm
/-- a deck stands at d -/
def DeckB (H : Hp) (d : Addr) : Prop := ∃ ms : List Int, H d = some (.lst (ms.map V.int)) ∧ ms.length ≤ 10000
theorem DeckB.new {d p : Addr} {H : Hp} {o : HO} (a : DeckB H d) (h : H p = none) : DeckB (upd H p o) d := by
  obtain ⟨ms, e, l⟩ := a
  exact ⟨ms, kn e h, l⟩
theorem DeckB.same {H H' : Hp} {d : Addr} (D : DeckB H d) (s : Same H H') : DeckB H' d := by
  obtain ⟨ms, e, l⟩ := D
  exact ⟨ms, s _ _ e, l⟩
theorem DeckB.put {d p : Addr} {H : Hp} {o : HO} (a : DeckB H d) (h : p ∉ [d]) : DeckB (upd H p o) d := by
  obtain ⟨ms, e, l⟩ := a
  exact ⟨ms, by rw [upd_ne (fun z => h (List.mem_singleton.mpr z.symm))]; exact e, l⟩
theorem dmB {d : Addr} : d ∈ [d] := List.mem_singleton.mpr rfl
section
def spMixedB : Sp := fun vs H Q _ => ∃ n : Int, vs = [.int n] ∧ ∀ m : Int, 0 ≤ m → m < 2147483587 → Q (.int m) H
def spDeckB (K : PySem.W.Frag) : Sp := fun vs H Q _ => ∃ (a : Addr) (ns : List Int) (m : Int), vs = [.ref a, .int m] ∧ SqL K H a (ns.map V.int) ∧ ns.length ≤ 63 ∧ m ≤ 9000 ∧
  ∀ (p : Addr) (H' : Hp), Same H H' → H p = none → DeckB H' p → Q (.ref p) H'
def spTakeB : Sp := fun vs H Q _ => ∃ (d : Addr) (m : Int), vs = [.ref d, .int m] ∧ DeckB H d ∧ 0 < m ∧ m < 2 ^ 64 ∧
  ∀ (r : Int) (H' : Hp), 0 ≤ r → r < m → Kp [d] H H' → DeckB H' d → Q (.int r) H'
end
def dbO (d : Addr) : DO := .abs [d] (fun H => DeckB H d)
theorem deckB_loc {d : Addr} (H1 H2 : Hp) (h : ∀ b ∈ [d], H1 b = H2 b) (D : DeckB H1 d) : DeckB H2 d := by
  obtain ⟨ms, e, l⟩ := D
  exact ⟨ms, by rw [← h d dmB]; exact e, l⟩
theorem deckB_lst {H : Hp} {d : Addr} (D : DeckB H d) : ∀ b ∈ [d], ∃ xs, H b = some (.lst xs) := fun b hb => by
  obtain ⟨ms, e, l⟩ := D
  rw [List.mem_singleton.mp hb]; exact ⟨_, e⟩
/-- there is a deck -/
def HasDb (G : DG) (d : Addr) : Prop := G d = some (dbO d)
abbrev A_B_draw : List Str := ["_law_deck_here", "_law_most"]
def SP_drawB : DSp := fun ds G R => ∃ d m, ds = [.ref d, .int m] ∧ HasDb G d ∧ 0 < m ∧ m < 2 ^ 64 ∧ ∀ r, 0 ≤ r → r < m → R (.int r) G
theorem HasDb.new {G : DG} {d p : Addr} {o : DO} (h : HasDb G d) (n : G p = none) : HasDb (dupd G p o) d := by
  show dupd G p o d = _
  rw [dupd_ne (ne_some h n)]; exact h
theorem HasDb.put {G : DG} {d p : Addr} {o : DO} (h : HasDb G d) (n : d ≠ p) : HasDb (dupd G p o) d := by
  show dupd G p o d = _
  rw [dupd_ne n]; exact h
theorem HasDb.sub {G G' : DG} {d : Addr} (h : HasDb G d) (s : Sub G G') : HasDb G' d := s _ _ h
theorem HasDb.ne {G : DG} {d p : Addr} {ds : List DV} (h : HasDb G d) (e : G p = some (.lst ds)) : d ≠ p := fun z => by
  have h : G d = some (dbO d) := h
  rw [z, e] at h; cases h
theorem HasDb.neD {G : DG} {d p : Addr} {ds : List (Key × DV)} (h : HasDb G d) (e : G p = some (.dct ds)) : d ≠ p := fun z => by
  have h : G d = some (dbO d) := h
  rw [z, e] at h; cases h
section
variable {P : Program} {w : World} {K : Frag} {mg : Str → Option Value} {base : Heap}
theorem has_drawB {st : Stmt} (a : At K mg "_law_draw" st A_B_draw) (h : ∀ f fd, Fun K "_law_draw" "_law_draw" st f fd → FnOk P w K mg base CX0 2 f fd A_B_draw spTakeB) : Has P w K mg base 2 "_law_draw" A_B_draw SP_drawB := by
  refine has_of a h fun vs H Q E ⟨ds, G, R, r, wd, l, ⟨d, m, e, hk, m0, m1, q⟩, fin⟩ => ?_
  subst e
  cases r with
  | cons r1 r2 =>
    cases r2 with
    | cons r2 r3 =>
      cases r3
      cases r1
      cases r2
      obtain ⟨O, wo⟩ := id wd
      obtain ⟨_, _, D, _⟩ := wo.ob d _ hk
      refine ⟨d, m, rfl, D, m0, m1, fun r H' r0 r1 kp D' => ?_⟩
      have t : TKs K H H' := TKs.kp kp (deckB_lst D)
      exact fin _ G _ H' (q r r0 r1) t (wd.abs_keep hk kp t D' (deckB_lst D')) (.int r)
end
theorem law_goB {K : Frag} {t : TDS} {nx : St → Hp → Prop} {rt : VK} {bk ct : St → Hp → Prop} {σ : St} {δ : DSt} {H : Hp} {d : Addr} (dk : DeckB H d) (sl : Sl K H σ δ) (q : ∀ H', rt (.bl true) H') (h : ∀ G, HasDb G d → t ⟨fun _ _ => False, fun v _ => v = .bl true, fun _ _ => False, fun _ _ => False⟩ δ G) : upS K t ⟨nx, rt, bk, ct⟩ σ H := by
  refine ⟨⟨fun _ _ => False, fun v _ => v = .bl true, fun _ _ => False, fun _ _ => False⟩, δ, _, sl, wd_one (d := d) (L := [d]) (φ := fun H => DeckB H d) (List.mem_cons_self ..) dk (deckB_lst dk) deckB_loc, ?_, h _ dupd_same⟩
  exact ⟨fun _ _ _ _ h => h.elim, fun v G u H' e t w r => by cases e; cases r; exact q _, fun _ _ _ _ h => h.elim, fun _ _ _ _ h => h.elim⟩
theorem db_sub {G G' : DG} {d : Addr} (s : Sub G G') (h : HasDb G d) : HasDb G' d := h.sub s
theorem db_upd {G G' : DG} {d p : Addr} (u : Upd G p G') (h : HasDb G d) (e : ∃ ds, G p = some (.lst ds)) : HasDb G' d := by
  obtain ⟨ds, e⟩ := e
  exact (u d (h.ne e)).trans h
theorem db_updD {G G' : DG} {d p : Addr} (u : Upd G p G') (h : HasDb G d) (e : ∃ ds, G p = some (.dct ds)) : HasDb G' d := by
  obtain ⟨ds, e⟩ := e
  exact (u d (h.neD e)).trans h
end DD
namespace Cm
open PySem PySem.W L2 SX
/-! ### any value: None, truths, numbers, texts, tuples of such; lists and dicts are not looked into -/
mutual
inductive Bt (K : Frag) (L : List Addr) (H : Hp) : V → PyData → Prop
  | non : Bt K L H .non .none
  | bl (b : Bool) : Bt K L H (.bl b) (.bool b)
  | int (i : Int) : Bt K L H (.int i) (.int i)
  | str {x : Str} (h : Tx x 1000) : Bt K L H (.str x) (.str x)
  | lst {a : Addr} {xs : List V} : a ∉ L → H a = some (.lst xs) → Bt K L H (.ref a) (.list [])
  | dct {a : Addr} {kvs : List (Key × V)} : a ∉ L → H a = some (.dK kvs) → Bt K L H (.ref a) (.dict [])
  | tup {a : Addr} {xs : List V} {ds : List PyData} : SqT K H a xs → BtAll K L H xs ds → Bt K L H (.ref a) (.tuple ds)
inductive BtAll (K : Frag) (L : List Addr) (H : Hp) : List V → List PyData → Prop
  | nil : BtAll K L H [] []
  | cons {v : V} {vs : List V} {d : PyData} {ds : List PyData} : Bt K L H v d → BtAll K L H vs ds → BtAll K L H (v :: vs) (d :: ds)
end
/-- what such a value needs to stay -/
structure BKs (K : Frag) (L : List Addr) (H H' : Hp) : Prop where
  tk : TKs K H H'
  kp : Kp L H H'
theorem BKs.of {K : Frag} {L : List Addr} {H H' : Hp} (s : Same H H') : BKs K L H H' := ⟨TKs.of s, fun a o _ e => s a o e⟩
theorem BKs.trans {K : Frag} {L : List Addr} {H H1 H2 : Hp} (a : BKs K L H H1) (b : BKs K L H1 H2) : BKs K L H H2 := ⟨a.tk.trans b.tk, a.kp.trans b.kp⟩
mutual
theorem Bt.mono {K : Frag} {L : List Addr} {H H' : Hp} (k : BKs K L H H') : ∀ {v : V} {d : PyData}, Bt K L H v d → Bt K L H' v d
  | _, _, .non => .non
  | _, _, .bl b => .bl b
  | _, _, .int i => .int i
  | _, _, .str h => .str h
  | _, _, .lst n h => .lst n (k.kp _ _ n h)
  | _, _, .dct n h => .dct n (k.kp _ _ n h)
  | _, _, .tup h t => .tup (k.tk _ _ h) (BtAll.mono k t)
theorem BtAll.mono {K : Frag} {L : List Addr} {H H' : Hp} (k : BKs K L H H') : ∀ {v : List V} {d : List PyData}, BtAll K L H v d → BtAll K L H' v d
  | _, _, .nil => .nil
  | _, _, .cons h t => .cons (Bt.mono k h) (BtAll.mono k t)
end
theorem BtAll.len {K : Frag} {L : List Addr} {H : Hp} : ∀ {v : List V} {d : List PyData}, BtAll K L H v d → v.length = d.length
  | _, _, .nil => rfl
  | _, _, .cons _ t => congrArg (· + 1) (BtAll.len t)
theorem BtAll.append {K : Frag} {L : List Addr} {H : Hp} : ∀ {v v' : List V} {d d' : List PyData}, BtAll K L H v d → BtAll K L H v' d' → BtAll K L H (v ++ v') (d ++ d')
  | _, _, _, _, .nil, h => h
  | _, _, _, _, .cons h t, h' => .cons h (BtAll.append t h')
theorem BtAll.get {K : Frag} {L : List Addr} {H : Hp} : ∀ {v : List V} {d : List PyData} {i : Nat} {x : V}, BtAll K L H v d → v[i]? = some x → ∃ y, d[i]? = some y ∧ Bt K L H x y
  | _, _, i, x, .nil, h => by simp at h
  | _, _, 0, x, .cons h t, e => ⟨_, rfl, by cases e; exact h⟩
  | _, _, i + 1, x, .cons h t, e => by
    rw [List.getElem?_cons_succ] at e ⊢
    exact BtAll.get t e
theorem Bt.tupD {K : Frag} {L : List Addr} {H : Hp} {v : V} {ds : List PyData} (h : Bt K L H v (.tuple ds)) : ∃ a xs, v = .ref a ∧ SqT K H a xs ∧ BtAll K L H xs ds := by
  cases h with
  | tup h t => exact ⟨_, _, rfl, h, t⟩
def kTupB : PyData → Bool
  | .tuple _ => true
  | _ => false
def kStrB : PyData → Bool
  | .str _ => true
  | _ => false
def kIntB : PyData → Bool
  | .int _ => true
  | .bool _ => true
  | _ => false
def kBoolB : PyData → Bool
  | .bool _ => true
  | _ => false
/-- isinstance of such a value -/
theorem Bt.ty {K : Frag} {L : List Addr} {H : Hp} {v : V} {d : PyData} (h : Bt K L H v d) : ∃ t, TyX K H v t ∧ kitOne K t (.type "tuple") = some (kTupB d) ∧ kitOne K t (.type "str") = some (kStrB d) ∧ kitOne K t (.type "int") = some (kIntB d) ∧ kitOne K t (.type "bool") = some (kBoolB d) := by
  cases h with
  | non => exact ⟨_, .base .non, kit_ty (r := false) (by decide +kernel), kit_ty (r := false) (by decide +kernel), kit_ty (r := false) (by decide +kernel), kit_ty (r := false) (by decide +kernel)⟩
  | bl b => exact ⟨_, .base (.bl _), kit_ty (r := false) (by decide +kernel), kit_ty (r := false) (by decide +kernel), kit_ty (r := true) (by decide +kernel), kit_ty (r := true) (by decide +kernel)⟩
  | int i => exact ⟨_, .base (.int _), kit_ty (r := false) (by decide +kernel), kit_ty (r := false) (by decide +kernel), kit_ty (r := true) (by decide +kernel), kit_ty (r := false) (by decide +kernel)⟩
  | str h => exact ⟨_, .base (.str _), kit_ty (r := false) (by decide +kernel), kit_ty (r := true) (by decide +kernel), kit_ty (r := false) (by decide +kernel), kit_ty (r := false) (by decide +kernel)⟩
  | lst n h => exact ⟨_, .base (.lst h), kit_ty (r := false) (by decide +kernel), kit_ty (r := false) (by decide +kernel), kit_ty (r := false) (by decide +kernel), kit_ty (r := false) (by decide +kernel)⟩
  | dct n h => exact ⟨_, .base (.dK h), kit_ty (r := false) (by decide +kernel), kit_ty (r := false) (by decide +kernel), kit_ty (r := false) (by decide +kernel), kit_ty (r := false) (by decide +kernel)⟩
  | tup h t => exact ⟨_, tyTup h, kit_ty (r := true) (by decide +kernel), kit_ty (r := false) (by decide +kernel), kit_ty (r := false) (by decide +kernel), kit_ty (r := false) (by decide +kernel)⟩
/-! ### size and depth -/
mutual
def sz : PyData → Nat
  | .tuple ds => 1 + szs ds
  | _ => 1
def szs : List PyData → Nat
  | [] => 0
  | d :: r => sz d + szs r
end
end Cm
namespace K64
open PySem PySem.W L2 SX Cm DD
def top (i : Nat) : Stmt := PySem.Challenge.pw_takeleave_k64_codes_run.main.body.getD i (.Pass ⟨0, 0, 0, 0⟩)
abbrev s_p_number_thing : Stmt := top 10
abbrev s_p_plus_does : Stmt := top 11
abbrev s_p_minus_does : Stmt := top 12
abbrev s_p_times_does : Stmt := top 13
abbrev s_p_less_does : Stmt := top 14
abbrev s_p_same_does : Stmt := top 15
abbrev s_p_join_does : Stmt := top 21
abbrev s_p_wrap_does : Stmt := top 22
abbrev s_p_put_does : Stmt := top 23
abbrev s_p_effect_of_basic : Stmt := top 27
abbrev s_p_top_of : Stmt := top 28
abbrev s_p_held_as : Stmt := top 29
abbrev s_p_run_code : Stmt := top 32
abbrev s_p_do_op : Stmt := top 33
abbrev s_L_mixed : Stmt := top 35
abbrev s_L_deck : Stmt := top 36
abbrev s_L_draw : Stmt := top 37
abbrev s_L_size : Stmt := top 38
abbrev s_L_cut : Stmt := top 39
abbrev s_L_number : Stmt := top 40
abbrev s_L_thing : Stmt := top 41
abbrev s_L_shuffle : Stmt := top 42
abbrev s_L_any_word : Stmt := top 43
abbrev s_L_op : Stmt := top 44
abbrev s_L_made : Stmt := top 45
abbrev s_L_code : Stmt := top 46
abbrev s_L_deep : Stmt := top 47
abbrev s_L_pair_op : Stmt := top 48
abbrev s_L_told : Stmt := top 49
abbrev s_L_run_told : Stmt := top 50
abbrev s_L_law : Stmt := top 51
section
variable {P : Program} {w : World} {K : PySem.W.Frag} {mg : Str → Option Value} {base : Heap}
theorem scMixed : FnScope ["_law_number_here"] ["_law_number_here"] (defScope s_L_mixed) := ⟨rfl, rfl, rfl, by decide +kernel, rfl, by decide +kernel, by decide +kernel⟩
theorem ok_mixed {f : Addr} {fd : FuncData} (F : Fun K "_law_mixed" "_law_mixed" s_L_mixed f fd) : FnOk P w K mg base CX0 1 f fd ["_law_number_here"] spMixedB := by
  refine F.ok scMixed (fun vs H Q E h => ?_) (fun cdv A outer s H vs Q E hr h => ?_)
  · obtain ⟨n, rfl, _⟩ := h
    rfl
  obtain ⟨n, rfl, q⟩ := h
  refine ⟨_, pss_cons (ps_set (i := 0) scMixed.nd rfl (.inl rfl) (pe_op op_mod (pe_op op_add (pe_op op_mul (pe_op op_mod (pv 0) pe_int) pe_int) pe_int) pe_int))
    (pss_cons (ps_set (i := 0) scMixed.nd rfl (.inl rfl) (pe_op op_mod (pe_op op_add (pe_op op_add (pe_op op_mul (pv 0) (pv 0)) (pe_op op_mul pe_int (pv 0))) pe_int) pe_int))
    (pss_one (ps_ret (pe_op op_mod (pe_op op_add (pe_op op_mul (pv 0) pe_int) pe_int) pe_int)))), ?_⟩
  refine ⟨_, rfl, _, _, rfl, rfl, (by show (0 : Int) < 2147483629; decide), _, _, rfl, rfl, .inr ⟨by decide, by decide⟩, _, _, rfl, rfl, _, _, rfl, rfl, (by show (0 : Int) < 2147483647; decide), ?_⟩
  generalize e1 : (n % 2147483629 * 48271 + 7) % 2147483647 = n1
  have b1 : 0 ≤ n1 ∧ n1 < 2147483647 := by omega
  refine ⟨_, rfl, _, rfl, _, _, rfl, rfl, .inl ⟨by omega, by omega⟩, _, rfl, _, _, rfl, rfl, .inl ⟨by decide, by decide⟩, _, _, rfl, rfl, _, _, rfl, rfl, _, _, rfl, rfl, (by show (0 : Int) < 2147483629; decide), ?_⟩
  generalize e2 : (n1 * n1 + 69621 * n1 + 11) % 2147483629 = n2
  have b2 : 0 ≤ n2 ∧ n2 < 2147483629 := by
    constructor
    · rw [← e2]; exact Int.emod_nonneg _ (by decide)
    · rw [← e2]; exact Int.emod_lt_of_pos _ (by decide)
  refine ⟨_, rfl, _, _, rfl, rfl, .inr ⟨by decide, by decide⟩, _, _, rfl, rfl, _, _, rfl, rfl, (by show (0 : Int) < 2147483587; decide), ?_⟩
  exact q _ (Int.emod_nonneg _ (by decide)) (Int.emod_lt_of_pos _ (by decide))
theorem scDeck : FnScope ["_law_script", "_law_most", "_law_deck_here", "_law_last"] ["_law_script", "_law_most"] (defScope s_L_deck) := ⟨rfl, rfl, rfl, by decide +kernel, rfl, by decide +kernel, by decide +kernel⟩
theorem ok_deck {f g : Addr} {fd gd : FuncData} (F : Fun K "_law_deck" "_law_deck" s_L_deck f fd) (G : FnOk P w K mg base CX0 1 g gd ["_law_number_here"] spMixedB) (bG : L2.Binds K gd ["_law_number_here"] []) (kG : PySem.W.keepIn K (.ref g) = true) (mG : mg "_law_mixed" = some (.ref g))
    (mlist : mg "list" = none) (msum : mg "sum" = none) (mlen : mg "len" = none) : FnOk P w K mg base CX0 2 f fd ["_law_script", "_law_most"] (spDeckB K) := by
  refine F.ok scDeck (fun vs H Q E h => ?_) (fun cdv A outer s H vs Q E hr h => ?_)
  · obtain ⟨a, ns, m, rfl, _⟩ := h
    rfl
  obtain ⟨a, ns, m, rfl, hS, h63, hm, q⟩ := h
  refine ⟨_, pss_cons (ps_set (i := 2) scDeck.nd rfl (.inl rfl) (pe_callTy call_list_of (by rfl) mlist (by decide +kernel) (pa_cons (pe_slice sl_list (pv 0) po_none (po_some pe_int)) pa_nil)))
    (pss_cons (ps_set (i := 3) scDeck.nd rfl (.inl rfl) (pe_op op_add pe_int (pe_op op_mod (pe_callB (cr_sum rfl) (by rfl) msum PyProof.Rows.boot_sum (pa_cons (pv 2) pa_nil)) pe_int)))
    (pss_cons (ps_while PassesOwn.never (pt_cmpR op_lt (pe_callB call_len_seq (by rfl) mlen PySem.boot_len (pa_cons (pv 2) pa_nil)) (pv 1) (nomark _))
      (pss_cons (ps_set (i := 3) scDeck.nd rfl (.inl rfl) (pe_call G hr rfl mG kG bG .nil pass0 (pa_cons (pe_op op_add (pv 3) (pe_callB call_len_seq (by rfl) mlen PySem.boot_len (pa_cons (pv 2) pa_nil))) pa_nil)))
      (pss_one (ps_expr (pe_bm PySem.F.plainAttrs_list PySem.F.slot_list_append PySem.F.type_list_append mt_append (pv 2) (pa_cons (pv 3) pa_nil))))))
    (pss_one (ps_ret (pe_revL (pv 2)))))), ?_⟩
  refine ⟨_, rfl, 63, rfl, a, _, rfl, hS, fun p1 n1 => ?_⟩
  obtain ⟨ds, e1, l1⟩ := cut_map V.int ns none (some 63)
  rw [e1]
  refine ⟨p1, _, rfl, .inl (SqL.of upd_same), fun p2 n2 => ?_⟩
  have s1 : Same H (upd H p1 (.lst (ds.map V.int))) := same_new n1 _
  have f2 : H p2 = none := s1.free n2
  refine ⟨_, rfl, p2, ds, rfl, SqL.of upd_same, _, _, rfl, rfl, (by show (0 : Int) < 2147483647; decide), _, _, rfl, rfl, ?_⟩
  refine ⟨fun k σ H' => ∃ (es : List Int) (l : Int), σ = [some (.ref a), some (.int m), some (.ref p2), some (.int l)] ∧ Same H H' ∧ H' p2 = some (.lst (es.map V.int)) ∧ es.length ≤ 9000 ∧ k = (m - es.length).toNat,
    ⟨_, ds, _, rfl, own_new s1 f2, upd_same, by omega, rfl⟩, ?_⟩
  rintro k σ H' ⟨es, l, rfl, sm, he, hl, rfl⟩
  refine ⟨_, rfl, p2, _, rfl, .inl (SqL.of he), _, rfl, _, _, rfl, rfl, _, rfl, ?_⟩
  refine ite2 (fun c => ?_) (fun c => ?_)
  · have c' : ((es.map V.int).length : Int) < m := of_decide_eq_true c
    rw [List.length_map] at c'
    refine ⟨fun σ' H2 => ∃ (l2 : Int), σ' = [some (.ref a), some (.int m), some (.ref p2), some (.int l2)] ∧ Same H H2 ∧ H2 p2 = some (.lst ((es ++ [l2]).map V.int)), ?_, ?_⟩
    · rintro σ' H2 ⟨l2, rfl, sm2, he2⟩
      refine ⟨_, ?_, es ++ [l2], l2, rfl, sm2, he2, ?_, rfl⟩
      · rw [List.length_append, List.length_singleton]; omega
      · rw [List.length_append, List.length_singleton]; omega
    · refine ⟨_, rfl, _, rfl, p2, _, rfl, .inl (SqL.of he), _, _, rfl, rfl, _, rfl, fun l2 _ _ => ?_⟩
      refine ⟨_, rfl, .inl ⟨rfl, _, SqL.of he⟩, _, rfl, p2, _, _, rfl, rfl, he, by rw [List.length_map]; exact midlt (by omega), ?_⟩
      refine ⟨l2, rfl, own_new sm f2, ?_⟩
      rw [upd_same, List.map_append]; rfl
  · refine ⟨_, rfl, p2, _, rfl, SqL.of he, fun p3 n3 => ?_⟩
    refine q p3 _ (sm.trans (same_new n3 _)) (sm.free n3) ⟨es.reverse, ?_, ?_⟩
    · rw [upd_same, List.map_reverse]
    · rw [List.length_reverse]; omega
theorem scDraw : FnScope ["_law_deck_here", "_law_most", "_law_cell"] ["_law_deck_here", "_law_most"] (defScope s_L_draw) := ⟨rfl, rfl, rfl, by decide +kernel, rfl, by decide +kernel, by decide +kernel⟩
theorem ok_draw {f g : Addr} {fd gd : FuncData} (F : Fun K "_law_draw" "_law_draw" s_L_draw f fd) (G : FnOk P w K mg base CX0 1 g gd ["_law_number_here"] spMixedB) (bG : L2.Binds K gd ["_law_number_here"] []) (kG : PySem.W.keepIn K (.ref g) = true) (mG : mg "_law_mixed" = some (.ref g)) :
    FnOk P w K mg base CX0 2 f fd ["_law_deck_here", "_law_most"] spTakeB := by
  refine F.ok scDraw (fun vs H Q E h => ?_) (fun cdv A outer s H vs Q E hr h => ?_)
  · obtain ⟨d, m, rfl, _⟩ := h
    rfl
  obtain ⟨d, m, rfl, ⟨ms, hd, hl⟩, m0, m1, q⟩ := h
  refine ⟨_, pss_cons (ps_if (pt_cmpR (op_eqD hr.units) (pv 0) (pe_lst pa_nil) (nomark _)) (pss_one (ps_ret pe_int)) pss_nil)
    (pss_cons (ps_set (i := 2) scDraw.nd rfl (.inl rfl) (pe_bm0 PySem.F.plainAttrs_list PySem.F.slot_list_pop PySem.F.type_list_pop mt_pop (pv 0)))
    (pss_cons (ps_if (pt_cmpR op_ge (pv 2) (pe_op op_pow pe_int pe_int) (nomark _))
      (pss_cons (ps_expr (pe_bm PySem.F.plainAttrs_list PySem.F.slot_list_append PySem.F.type_list_append mt_append (pv 0) (pa_cons (pe_op op_fdivW (pv 2) (pv 1)) pa_nil)))
        (pss_one (ps_ret (pe_op op_mod (pv 2) (pv 1))))) pss_nil)
    (pss_one (ps_ret (pe_op op_mod (pe_call G hr rfl mG kG bG .nil pass0 (pa_cons (pv 2) pa_nil)) (pv 1)))))), ?_⟩
  refine ⟨_, rfl, (by show 0 ≤ sizeLine; decide), fun p hp => ?_⟩
  have hd1 : (upd H p (.lst [])) d = some (.lst (ms.map V.int)) := by rw [upd_ne (ne_of_none hd hp)]; exact hd
  refine ⟨_, _, .lst (SqL.of hd1) (dp_ints ms), .lst (SqL.of upd_same) .nil, Cm.shaped_ints ms, rfl, _, rfl, ?_⟩
  have k1 : Kp [d] H (upd H p (.lst [])) := (Kp.refl [d] H).new hp
  rcases List.eq_nil_or_concat ms with rfl | ⟨ns, n, rfl⟩
  · refine iteT ?_
    exact q 0 _ (Int.le_refl 0) m0 k1 ⟨[], hd1, by decide⟩
  · have ne : PyData.eqv (.list ((ns.concat n).map PyData.int)) (.list []) = false := by
      cases ns with
      | nil => rfl
      | cons x r => rfl
    rw [ne]
    refine iteF ?_
    rw [List.length_concat] at hl
    have hq : (((ns.concat n).map V.int) : List V)[((ns.concat n).map V.int).length - 1]? = some (V.int n) := by
      rw [List.concat_eq_append, List.map_append, List.length_append]
      simp
    have hdl : ((ns.concat n).map V.int).dropLast = ns.map V.int := by
      rw [List.concat_eq_append, List.map_append]
      simp
    refine ⟨_, rfl, .inl ⟨rfl, _, SqL.of hd1⟩, d, _, _, rfl, rfl, hd1, hq, ?_⟩
    rw [hdl]
    refine ⟨_, rfl, _, _, rfl, rfl, ⟨by decide, by decide, by decide⟩, _, _, rfl, rfl, _, rfl, ?_⟩
    refine ite2 (fun c => ?_) (fun c => ?_)
    · refine ⟨_, rfl, .inl ⟨rfl, _, SqL.of upd_same⟩, _, rfl, _, rfl, _, _, rfl, rfl, wide_div m0 (b := 64) (by omega) (by decide) (by decide), d, _, _, rfl, rfl, upd_same, by rw [List.length_map]; exact midlt (by omega), ?_⟩
      refine ⟨_, rfl, _, rfl, _, _, rfl, rfl, m0, ?_⟩
      refine q _ _ (Int.emod_nonneg _ (by omega)) (Int.emod_lt_of_pos _ m0) ((k1.own dmB).own dmB) ⟨ns ++ [n / m], ?_, ?_⟩
      · rw [upd_same, List.map_append]; rfl
      · rw [List.length_append, List.length_singleton]; omega
    · refine ⟨_, rfl, _, rfl, fun r r0 r1 => ?_⟩
      refine ⟨_, rfl, _, _, rfl, rfl, m0, ?_⟩
      exact q _ _ (Int.emod_nonneg _ (by omega)) (Int.emod_lt_of_pos _ m0) (k1.own dmB) ⟨ns, upd_same, by omega⟩
abbrev A_L_draw : List Str := A_B_draw
abbrev A_L_mixed : List Str := ["_law_number_here"]
theorem h_draw (a : At K mg "_law_draw" s_L_draw A_L_draw) (b : At K mg "_law_mixed" s_L_mixed A_L_mixed) : Has P w K mg base 2 "_law_draw" A_L_draw SP_drawB := by
  obtain ⟨g, gd, G, bG, mG⟩ := b
  exact has_drawB a fun f fd F => ok_draw F (ok_mixed G) bG G.kp mG
end
end K64
/-! names of open things and rests -/
namespace DD
open PySem PySem.W L2 SX Cm
def figs : List Nat := [48, 49, 50, 51, 52, 53, 54, 55, 56, 57]
def azs : List Nat := [97, 98, 99, 100, 101, 102, 103, 104, 105, 106, 107, 108, 109, 110, 111, 112, 113, 114, 115, 116, 117, 118, 119, 120, 121, 122]
def AZs : List Nat := [65, 66, 67, 68, 69, 70, 71, 72, 73, 74, 75, 76, 77, 78, 79, 80, 81, 82, 83, 84, 85, 86, 87, 88, 89, 90]
/-- figures, no nought ahead but in 0 itself -/
def figB (x : List Nat) : Bool := match x with
  | [] => false
  | c :: r => ((c :: r).all fun s => decide (s ∈ figs)) && (decide (c :: r = [48]) || !decide (c = 48))
/-- a letter of these, perhaps with figures behind -/
def nmB (ls : List Nat) (x : List Nat) : Bool := match x with
  | [] => false
  | c :: r => decide (c ∈ ls) && (decide (r = []) || (figB r && !decide (r = [48])))
def smB (z : Str) : Bool := nmB azs (TL.tl z)
def gtB (z : Str) : Bool := nmB AZs (TL.tl z)
end DD
/-! tuples kept as the objects that were made: dict of a tuple of pairs; zip; calls of what a local name holds -/
namespace DD
open PySem PySem.W L2 SX Cm
section
variable {X : Cx}
/-! dict of a tuple of pairs -/
def prT (zs : List (Str × DV)) : List DV := zs.map fun x => .tup [.str x.1, x.2]
/-! zip of two tuples or of two lists -/
def zipD (xs ys : List DV) : List DV := List.zipWith (fun x y => .tup [x, y]) xs ys
theorem zipD_len (xs ys : List DV) : (zipD xs ys).length = min xs.length ys.length := List.length_zipWith
theorem zipD_get {xs ys : List DV} {i : Nat} {x y : DV} (hx : xs[i]? = some x) (hy : ys[i]? = some y) : (zipD xs ys)[i]? = some (.tup [x, y]) := by
  unfold zipD
  rw [List.getElem?_zipWith, hx, hy]
variable {elts : List Expr} {kk : Nat} {tpos : Pos}
def dIZip (t : TDA) : TDI := fun δ G R => t δ G fun vs G1 => (∃ xs ys, vs = [.tup xs, .tup ys] ∧ R (zipD xs ys) (fun _ => True) G1) ∨ ∃ p q xs ys, vs = [.ref p, .ref q] ∧ Ls G1 p xs ∧ Ls G1 q ys ∧ R (zipD xs ys) (fun G => Ls G p xs ∧ Ls G q ys) G1
theorem di_zip {a b : Expr} {t : TDA} {p pos : Pos} (hm : X.mg "zip" = none) (hg : Gl X "zip") (ha : DA X [a, b] t) (hs : starEach [a, b] X.env = (false, eval a X.env) :: starEach [b] X.env := by rfl) (hpl : (backTo pos (starEach [b] X.env)).any (·.1) = false := by rfl) : DI X (.Tuple elts kk tpos) (.Call (.Name "zip" p) [a, b] [] pos) (dIZip t) :=
  PI_mono (RZ.pi_zipA hg hm ha hs hpl) fun σ H R' ⟨δ, G, R, sl, w, q, f⟩ => ⟨δ, G, _, sl, w, q, fun ds G1 vs H1 q1 t1 w1 r1 => by
    rcases q1 with ⟨xs, ys, rfl, q1⟩ | ⟨p, q, xs, ys, rfl, lx, ly, q1⟩
    · cases r1 with
      | cons ra rb =>
        cases rb with
        | cons rb rn =>
          cases rn
          obtain ⟨a, us, rfl, sa, ra⟩ := ra.tupD
          obtain ⟨b, vs, rfl, sb, rb⟩ := rb.tupD
          refine ⟨a, b, us, vs, rfl, .inr ⟨sa, sb, f _ _ _ _ _ q1 t1 w1 ⟨fun i H2 G2 t2 w2 l2 hi => ?_, fun i H2 G2 x H3 t2 w2 l2 hi y => ?_, fun i H2 G2 t2 w2 l2 hi => ?_⟩⟩⟩
          · rw [zipD_len] at hi
            obtain ⟨x, hx, _⟩ := ra.get (List.getElem?_eq_getElem (show i < xs.length by omega))
            obtain ⟨y, hy, _⟩ := rb.get (List.getElem?_eq_getElem (show i < ys.length by omega))
            exact ⟨us, vs, x, y, t2 _ _ sa, t2 _ _ sb, hx, hy⟩
          · obtain ⟨T, u, v, rfl, nT, rfl, y1, y2⟩ := y
            obtain ⟨d, hd, rd⟩ := (ra.mono t2).getV (y1 us (t2 _ _ sa))
            obtain ⟨e, he, re⟩ := (rb.mono t2).getV (y2 vs (t2 _ _ sb))
            have s' := same_new nT (.tup [u, v])
            exact ⟨s', _, zipD_get hd he, .tup (SqT.of upd_same) (.cons (rd.mono (.of s')) (.cons (re.mono (.of s')) .nil))⟩
          · rw [zipD_len] at hi
            exact ⟨us, vs, t2 _ _ sa, t2 _ _ sb, by rw [ra.len, rb.len]; omega⟩
    · cases r1 with
      | cons ra rb =>
        cases rb with
        | cons rb rn =>
          cases rn
          cases ra
          cases rb
          obtain ⟨us, sa, ra⟩ := wd_seq w1 lx
          obtain ⟨vs, sb, rb⟩ := wd_seq w1 ly
          refine ⟨p, q, us, vs, rfl, .inl ⟨sa, sb, f _ _ _ _ _ q1 t1 w1 ⟨fun i H2 G2 t2 w2 l2 hi => ?_, fun i H2 G2 x H3 t2 w2 l2 hi y => ?_, fun i H2 G2 t2 w2 l2 hi => ?_⟩⟩⟩
          · rw [zipD_len] at hi
            obtain ⟨us, sa, ra⟩ := wd_seq w2 l2.1
            obtain ⟨vs, sb, rb⟩ := wd_seq w2 l2.2
            obtain ⟨x, hx, _⟩ := ra.get (List.getElem?_eq_getElem (show i < xs.length by omega))
            obtain ⟨y, hy, _⟩ := rb.get (List.getElem?_eq_getElem (show i < ys.length by omega))
            exact ⟨us, vs, x, y, sa, sb, hx, hy⟩
          · obtain ⟨T, u, v, rfl, nT, rfl, y1, y2⟩ := y
            obtain ⟨us, sa, ra⟩ := wd_seq w2 l2.1
            obtain ⟨vs, sb, rb⟩ := wd_seq w2 l2.2
            obtain ⟨d, hd, rd⟩ := ra.getV (y1 us sa)
            obtain ⟨e, he, re⟩ := rb.getV (y2 vs sb)
            have s' := same_new nT (.tup [u, v])
            exact ⟨s', _, zipD_get hd he, .tup (SqT.of upd_same) (.cons (rd.mono (.of s')) (.cons (re.mono (.of s')) .nil))⟩
          · rw [zipD_len] at hi
            obtain ⟨us, sa, ra⟩ := wd_seq w2 l2.1
            obtain ⟨vs, sb, rb⟩ := wd_seq w2 l2.2
            exact ⟨us, vs, sa, sb, by rw [ra.len, rb.len]; omega⟩⟩
end
end DD
namespace DD
open PySem PySem.W L2 SX Cm
section
variable {X : Cx} {i o : Expr} {ti td : TD} {pos : Pos}
theorem wi_zip {δ : DSt} {G : DG} {t : TDA} {R : List DV → (DG → Prop) → DG → Prop} (h : t δ G fun vs G1 => (∃ xs ys, vs = [.tup xs, .tup ys] ∧ R (zipD xs ys) (fun _ => True) G1) ∨ ∃ p q xs ys, vs = [.ref p, .ref q] ∧ Ls G1 p xs ∧ Ls G1 q ys ∧ R (zipD xs ys) (fun G => Ls G p xs ∧ Ls G q ys) G1) : dIZip t δ G R := h
end
end DD
/-! instances of a class over data: fields, methods, makers -/
namespace DD
open PySem PySem.W L2 SX Cm
def oputO (f : Str) (v : DV) : List (Str × DV) → List (Str × DV)
  | [] => [(f, v)]
  | (g, x) :: r => if g = f then (g, v) :: r else (g, x) :: oputO f v r
theorem look_cons {α : Type} (f g : Str) (x : α) (r : List (Str × α)) : List.lookup f ((g, x) :: r) = if f = g then some x else List.lookup f r := by
  rw [List.lookup_cons]
  by_cases h : f = g
  · rw [if_pos h, h, beq_self_eq_true]
  · rw [if_neg h, beq_eq_false_iff_ne.mpr h]
theorem FRV.len {K : Frag} {H : Hp} {vs : List (Str × V)} {ds : List (Str × DV)} (h : FRV K H vs ds) : vs.length = ds.length := by
  induction h with
  | nil => rfl
  | cons _ _ ih => rw [List.length_cons, List.length_cons, ih]
theorem FRV.look {K : Frag} {H : Hp} {f : Str} {vs : List (Str × V)} {ds : List (Str × DV)} (h : FRV K H vs ds) : ∀ {d : DV}, ds.lookup f = some d → ∃ v, vs.lookup f = some v ∧ RV K H v d := by
  induction h with
  | nil => intro d e; cases e
  | cons r _ ih =>
    intro d e
    rw [look_cons] at e ⊢
    split at e
    · cases e; rw [if_pos (by assumption)]; exact ⟨_, rfl, r⟩
    · rw [if_neg (by assumption)]; exact ih e
theorem FRV.none {K : Frag} {H : Hp} {f : Str} {vs : List (Str × V)} {ds : List (Str × DV)} (h : FRV K H vs ds) : ds.lookup f = Option.none → vs.lookup f = Option.none := by
  induction h with
  | nil => intro _; rfl
  | cons r _ ih =>
    intro e
    rw [look_cons] at e ⊢
    split at e
    · cases e
    · rw [if_neg (by assumption)]; exact ih e
theorem FRV.put {K : Frag} {H : Hp} {f : Str} {v : V} {d : DV} (r : RV K H v d) {vs : List (Str × V)} {ds : List (Str × DV)} (h : FRV K H vs ds) : FRV K H (putF f v vs) (oputO f d ds) := by
  induction h with
  | nil => exact .cons r .nil
  | cons q t ih =>
    unfold putF oputO
    split
    · exact .cons r t
    · exact .cons q ih
theorem wd_obj {K : Frag} {H : Hp} {G : DG} {p C : Addr} {fs : List (Str × DV)} (w : Wd K H G) (e : G p = some (.obj C fs)) : ∃ dx vs, H p = some (.ins C dx vs) ∧ FRV K H vs fs := by
  obtain ⟨O, w⟩ := w
  exact w.ob p _ e
theorem _root_.Cm.TKs.ins {K : Frag} {H : Hp} {p C dx : Addr} {fs : List (Str × V)} {u : HO} (h : H p = some (.ins C dx fs)) : TKs K H (upd H p u) := fun a xs g => by
  have ne : ∀ o, H a = some o → (∀ C dx fs, o ≠ .ins C dx fs) → a ≠ p := fun o e n z => by
    rw [z, h] at e
    exact n _ _ _ (Option.some.inj e).symm
  rcases g with (g | ⟨o, g⟩) | g
  · exact .inl (.inl (by rw [upd_ne (ne _ g fun _ _ _ z => by cases z)]; exact g))
  · exact .inl (.inr ⟨o, by rw [upd_ne (ne _ g fun _ _ _ z => by cases z)]; exact g⟩)
  · exact .inr g
section
variable {X : Cx}
def dFld (K : Frag) (t : TD) (f : Str) : TD := fun δ G Q => t δ G fun x G1 => ∃ a C fs d, x = .ref a ∧ G1 a = some (.obj C fs) ∧ Cls K C ∧ NoAttr K C f ∧ fs.lookup f = some d ∧ Q d G1
theorem de_fld {e : Expr} {f : Str} {pos : Pos} {t : TD} (he : DE X e t) (hb : attributeBase e f X.env (eval e X.env) = eval e X.env := by rfl) : DE X (.Attribute e f pos) (dFld X.K t f) :=
  PE_mono (pe_fld he hb) fun σ H Q ⟨δ, G, R, sl, w, q, fn⟩ => ⟨δ, G, _, sl, w, q, fun x G1 v H1 ⟨a, C, fs, d, e1, e2, c, n, l, q1⟩ t1 w1 r1 => by
    subst e1
    cases r1
    obtain ⟨dx, vs, h, r⟩ := wd_obj w1 e2
    obtain ⟨y, ly, ry⟩ := r.look l
    exact ⟨a, C, dx, vs, y, rfl, h, c, n, ly, fn _ _ _ _ q1 t1 w1 ry⟩⟩
def dFldS (K : Frag) (to tv : TD) (f : Str) : TDS := fun D δ G => tv δ G fun y G1 => to δ G1 fun x G2 => ∃ a C fs, x = .ref a ∧ G2 a = some (.obj C fs) ∧ Cls K C ∧ NoAttr K C f ∧ fs.length < 1000 ∧ D.nx δ (dupd G2 a (.obj C (oputO f y fs)))
theorem ds_fld {o value : Expr} {f : Str} {pos pos' : Pos} {to tv : TD} (ha : DE X o to) (hv : DE X value tv) (hs : swapsWith value (some (.Attribute o f pos')) pos.line X.env = pure false := by rfl) : DS X (.Assign [.Attribute o f pos'] value pos) (dFldS X.K to tv f) :=
  PS_mono (ps_fld ha hv hs) fun D σ H ⟨D', δ, G, sl, w, l, h⟩ => ⟨δ, G, _, sl, w, h, fun y G1 vy H1 q1 t1 w1 r1 => ⟨δ, G1, _, sl.mono t1, w1, q1, fun x G2 vx H2 ⟨a, C, fs, e1, e2, c, n, len, q2⟩ t2 w2 r2 => by
    subst e1
    cases r2
    obtain ⟨dx, vs, hh, r⟩ := wd_obj w2 e2
    have t3 : TKs X.K H2 (upd H2 a (.ins C dx (putF f vy vs))) := TKs.ins hh
    have w3 : Wd X.K (upd H2 a (.ins C dx (putF f vy vs))) (dupd G2 a (.obj C (oputO f y fs))) := w2.put ⟨_, e2, fun L φ z => by cases z⟩ t3 fun O => ⟨dx, _, upd_same, (r.put (r1.mono t2)).mono t3⟩
    exact ⟨a, C, dx, vs, rfl, hh, c, n, by rw [r.len]; exact len, l.nx _ _ _ _ q2 ((t1.trans t2).trans t3) w3 (sl.mono ((t1.trans t2).trans t3))⟩⟩⟩
end
/-- the method m of the class at C keeps a promise about data -/
def HasM (P : Program) (w : World) (K : Frag) (mg : Str → Option Value) (base : Heap) (k : Nat) (C : Addr) (m : Str) (ps : List Str) (dsp : DSp) : Prop :=
  ∃ f fd, FnOk P w K mg base CX0 k f fd ps (toSp K ps.length dsp) ∧ L2.Binds K fd ps [] ∧ Meth K C m f ∧ Cls K C
/-- a method's def stands at its place -/
def AtM (K : Frag) (C : Addr) (m qual : Str) (st : Stmt) (ps : List Str) : Prop := ∃ f fd, Fun K m qual st f fd ∧ L2.Binds K fd ps [] ∧ Meth K C m f ∧ Cls K C
def AtI (K : Frag) (mg : Str → Option Value) (C : Addr) (nm qual : Str) (st : Stmt) (ps : List Str) : Prop := ∃ f fd, Fun K "__init__" qual st f fd ∧ L2.Binds K fd ps [] ∧ Mk K C f ∧ mg nm = some (.ref C)
section
variable {P : Program} {w : World} {K : Frag} {mg : Str → Option Value} {base : Heap}
theorem ok_body {m qual : Str} {st : Stmt} {f : Addr} {fd : FuncData} {N ps : List Str} {k : Nat} {dsp : DSp} (F : Fun K m qual st f fd) (S : FnScope N ps (defScope st))
    (body : ∀ (cdv : Value) (A : Around) (outer : List Env) (s : Shared) (H : Hp) (E : XK), Room k (A.deeper (PyProof.Rows.envOfC qual (defScope st) s.heap.objs.size f cdv)) → ∀ ds G R, ds.length = ps.length → dsp ds G R →
      ∃ t, DSs (cxOf CX0 P w K mg base N qual (defScope st) f cdv A outer s H E).nox (defBody st) t ∧ t { nx := fun _ G => Less R .non G, rt := Less R } (dstart N ds) G) : FnOk P w K mg base CX0 (k + 1) f fd ps (toSp K ps.length dsp) := by
  refine F.ok S (fun vs H Q E h => ?_) (fun cdv A outer s H vs Q E hr h => ?_)
  · obtain ⟨ds, G, R, r, w, l, _⟩ := h
    rw [r.len]; exact l
  · obtain ⟨ds, G, R, r, wd, l, h, fin⟩ := h
    obtain ⟨t, h1, h2⟩ := body cdv A outer s H E hr ds G R l h
    exact ⟨_, h1, _, _, G, sl_start r, wd, links_def fin, h2⟩
theorem atm_mk {C : Addr} {m qual : Str} {st : Stmt} {N ps : List Str} {k : Nat} {dsp : DSp} (a : AtM K C m qual st ps) (S : FnScope N ps (defScope st))
    (body : ∀ (f : Addr) (cdv : Value) (A : Around) (outer : List Env) (s : Shared) (H : Hp) (E : XK), Room k (A.deeper (PyProof.Rows.envOfC qual (defScope st) s.heap.objs.size f cdv)) → ∀ ds G R, ds.length = ps.length → dsp ds G R →
      ∃ t, DSs (cxOf CX0 P w K mg base N qual (defScope st) f cdv A outer s H E).nox (defBody st) t ∧ t { nx := fun _ G => Less R .non G, rt := Less R } (dstart N ds) G) : HasM P w K mg base (k + 1) C m ps dsp := by
  obtain ⟨f, fd, F, b, me, c⟩ := a
  exact ⟨f, fd, ok_body F S (body f), b, me, c⟩
end
section
variable {X : Cx} {k : Nat} {C : Addr} {m nm : Str} {ps : List Str} {dsp : DSp} {o e : Expr} {es : List Expr} {to : TD} {ts : TDA} {p apos pos : Pos}
def dMeth (C : Addr) (m : Str) (n : Nat) (dsp : DSp) (to : TD) (ts : TDA) : TD := fun δ G Q => to δ G fun x G1 => ∃ a fs, x = .ref a ∧ G1 a = some (.obj C fs) ∧ fs.lookup m = none ∧ ts δ G1 fun ds G2 => (x :: ds).length = n ∧ dsp (x :: ds) G2 Q
theorem de_meth (h : HasM X.prog X.w X.K X.mg X.base k C m ps dsp) (hr : Room k X.A) (ho : DE X o to) (ha : DA X (e :: es) ts)
    (hst : starEach (e :: es) X.env = (false, eval e X.env) :: starEach es X.env := by rfl) (hpl : (backTo pos (starEach es X.env)).any (·.1) = false := by rfl) {pl : Sem Bool}
    (ht : eval (.Call (.Attribute o m apos) (e :: es) [] pos) X.env = (do
      let ov ← eval o X.env
      standAt apos.atName
      let (f, first) ← holding [ov] (getMethod ov m pl)
      callWith pos f first (backTo pos (starEach (e :: es) X.env)) (backToKw pos (keywordEach [] X.env))) := by rfl) : DE X (.Call (.Attribute o m apos) (e :: es) [] pos) (dMeth C m ps.length dsp to ts) := by
  obtain ⟨f, fd, F, b, me, c⟩ := h
  refine PE_mono (pe_meth ho c me F hr b .nil (pass0 (X := X)) ha hst hpl ht) fun σ H Q ⟨δ, G, R, sl, w, h, fn⟩ => ⟨δ, G, _, sl, w, h, fun x G1 vx H1 ⟨a, fs, e1, e2, l, q⟩ t1 w1 r1 => ?_⟩
  subst e1
  cases r1
  obtain ⟨dx, vs, hh, r⟩ := wd_obj w1 e2
  refine ⟨a, dx, vs, rfl, hh, r.none l, δ, G1, _, sl.mono t1, w1, q, fun ds G2 us H2 q2 t2 w2 r2 => ?_⟩
  show toSp X.K ps.length dsp (V.ref a :: (us ++ [])) H2 Q E0
  rw [List.append_nil]
  exact ⟨_, G2, R, .cons (.ref a) r2, w2, q2.1, q2.2, fn.step (t1.trans t2)⟩
def dMake (C : Addr) (n : Nat) (dsp : DSp) (ts : TDA) : TD := fun δ G Q => ts δ G fun ds G1 => ∀ x, G1 x = none → ds.length + 1 = n ∧ dsp (.ref x :: ds) (dupd G1 x (.obj C [])) fun d G2 => d = .non ∧ Q (.ref x) G2
end
/-! readings -/
theorem w_fld {K : Frag} {t : TD} {f : Str} {δ : DSt} {G : DG} {Q : DK} (h : t δ G fun x G1 => ∃ a C fs d, x = .ref a ∧ G1 a = some (.obj C fs) ∧ Cls K C ∧ NoAttr K C f ∧ fs.lookup f = some d ∧ Q d G1) : dFld K t f δ G Q := h
theorem w_fldS {K : Frag} {nx : DSt → DG → Prop} {rt : DK} {bk ct : DSt → DG → Prop} {δ : DSt} {G : DG} {to tv : TD} {f : Str} (h : tv δ G fun y G1 => to δ G1 fun x G2 => ∃ a C fs, x = .ref a ∧ G2 a = some (.obj C fs) ∧ Cls K C ∧ NoAttr K C f ∧ fs.length < 1000 ∧ nx δ (dupd G2 a (.obj C (oputO f y fs)))) : dFldS K to tv f ⟨nx, rt, bk, ct⟩ δ G := h
theorem w_meth {C : Addr} {m : Str} {n : Nat} {dsp : DSp} {to : TD} {ts : TDA} {δ : DSt} {G : DG} {Q : DK} (h : to δ G fun x G1 => ∃ a fs, x = .ref a ∧ G1 a = some (.obj C fs) ∧ fs.lookup m = none ∧ ts δ G1 fun ds G2 => (x :: ds).length = n ∧ dsp (x :: ds) G2 Q) : dMeth C m n dsp to ts δ G Q := h
theorem w_make {C : Addr} {n : Nat} {dsp : DSp} {ts : TDA} {δ : DSt} {G : DG} {Q : DK} (h : ts δ G fun ds G1 => ∀ x, G1 x = none → ds.length + 1 = n ∧ dsp (.ref x :: ds) (dupd G1 x (.obj C [])) fun d G2 => d = .non ∧ Q (.ref x) G2) : dMake C n dsp ts δ G Q := h
end DD
/-! a module's dict of texts: `in`, and what it holds -/
namespace DD
open PySem PySem.W L2 SX Cm
end DD
/-! more methods of texts over data: partition, startswith, index; a module's dict of texts with any number of keys -/
namespace DD
open PySem PySem.W L2 SX Cm
end DD
/-! the pieces that kinds are written by -/
namespace DD
open PySem PySem.W L2 SX Cm
/-- a def that makes a new list -/
def MkL (G : DG) (R : DK) (xs : List DV) : Prop := ∀ r G', G r = none → Sub G G' → G' r = some (.lst xs) → R (.ref r) G'
theorem MkL.less {G G' : DG} {R : DK} {xs : List DV} {r : Addr} (h : MkL G R xs) (n : G r = none) (s : Sub G G') (e : G' r = some (.lst xs)) : Less R (.ref r) G' := Less.of (h r G' n s e)
end DD
/-! filling kinds by a table: the tasks -/
namespace DD
open PySem PySem.W L2 SX Cm
/-- all that is known but at p -/
def SubX (G : DG) (p : Addr) (G' : DG) : Prop := ∀ a o, a ≠ p → G a = some o → G' a = some o
theorem subx_get {G G' : DG} {a p : Addr} {o : DO} (u : SubX G p G') (h : G a = some o) (n : a ≠ p) : G' a = some o := u _ _ n h
theorem sub_ux {B G G' : DG} {p : Addr} (u : SubX G p G') (s : Sub B G) (n : B p = none) : Sub B G' := fun a o e => u a o (fun z => by rw [z, n] at e; cases e) (s a o e)
theorem SubX.refl (G : DG) (p : Addr) : SubX G p G := fun _ _ _ h => h
theorem subx_sub {B G G' : DG} {p : Addr} (s : Sub G G') (h : SubX B p G) : SubX B p G' := fun a o n e => s _ _ (h a o n e)
theorem subx_upd {B G G' : DG} {p : Addr} (u : Upd G p G') (h : SubX B p G) : SubX B p G' := fun a o n e => (u a n).trans (h a o n e)
theorem subx_tr {B G G' : DG} {p : Addr} (u : SubX G p G') (h : SubX B p G) : SubX B p G' := fun a o n e => u a o n (h a o n e)
structure TabOK (kvs : List (Key × DV)) (P R : Str → Prop) (f : Str → Kd) (g : Str → Sk) : Prop where
  k : ∀ z, P z → (valD kvs (keyD z)).getD (eK (.opn z)) = eK (f z)
  s : ∀ r, R r → (valD kvs (keyD r)).getD (.tup [.str r, .tup []]) = eS (g r)
  w : ∀ r, R r → (g r).ks.length ≤ 1000
inductive FT where
  | kind (k : Kd)
  | stack (s : Sk)
  | endl
  | endr
  | ends (r : Str) (n : Nat)
def eF : FT → DV
  | .kind k => .tup [.str "kind", eK k]
  | .stack s => .tup [.str "stack", eS s]
  | .endl => .tup [.str "end list", .non]
  | .endr => .tup [.str "end row", .non]
  | .ends r n => .tup [.str "end stack", .tup [.str r, .int (n : Int)]]
section
variable {P R : Str → Prop} {f : Str → Kd} {g : Str → Sk}
/-- what the tasks make of what is made so far -/
inductive RunF (P R : Str → Prop) (f : Str → Kd) (g : Str → Sk) : List FT → List DV → List DV → Prop
  | nil {m : List DV} : RunF P R f g [] m m
  | kind {k : Kd} {r : List FT} {m z : List DV} : NK P R k → RunF P R f g r (m ++ [eK (fK f g k)]) z → RunF P R f g (.kind k :: r) m z
  | stack {s : Sk} {r : List FT} {m z : List DV} : NS P R s → RunF P R f g r (m ++ [eS (fS f g s)]) z → RunF P R f g (.stack s :: r) m z
  | endl {r : List FT} {m z : List DV} {x : DV} : RunF P R f g r (m ++ [.tup [.str "list", x]]) z → RunF P R f g (.endl :: r) (m ++ [x]) z
  | endr {r : List FT} {m z : List DV} {x y : DV} : RunF P R f g r (m ++ [.tup [.str "row", x, y]]) z → RunF P R f g (.endr :: r) ((m ++ [x]) ++ [y]) z
  | ends {r : List FT} {m z ks : List DV} {q : Str} {n : Nat} : R q → ks.length = n → RunF P R f g r (m ++ [.tup [.str (g q).rest, .tup (eKs (g q).ks ++ ks)]]) z → RunF P R f g (.ends q n :: r) (m ++ ks) z
theorem RunF.lst {k : Kd} {r : List FT} {m z : List DV} (h : RunF P R f g (.kind (.lst k) :: r) m z) : RunF P R f g (.kind k :: .endl :: r) m z := by
  cases h with
  | kind n h => exact .kind n (.endl h)
theorem RunF.row {a b : Sk} {r : List FT} {m z : List DV} (h : RunF P R f g (.kind (.row a b) :: r) m z) : RunF P R f g (.stack a :: .stack b :: .endr :: r) m z := by
  cases h with
  | kind n h => exact .stack n.1 (.stack n.2 (.endr h))
end
end DD
/-! the open names of a kind, each once, and the told form -/
namespace DD
open PySem PySem.W L2 SX Cm
/-! names that are names -/
def vP (z : Str) : Prop := smB z = true ∧ (TL.tl z).length ≤ 1000
def vR (r : Str) : Prop := r = "" ∨ (gtB r = true ∧ (TL.tl r).length ≤ 1000)
/-! tables -/
/-! the letters -/
def letd (ls : List Nat) (i : Nat) : Str := if i / 26 = 0 then S [ls.getD (i % 26) 0] else S [ls.getD (i % 26) 0] ++ (toString ((i / 26 : Nat) : Int) : Str)
def pR (i : Nat) : DV := .tup [.str (letd AZs i), .tup []]
end DD
namespace DD
open PySem PySem.W L2 SX Cm
end DD
/-! kinds with other names -/
namespace DD
open PySem PySem.W L2 SX Cm
/-! ### names of letters and numbers -/
/-! names are texts -/
end DD
/-! names called by their order -/
namespace DD
open PySem PySem.W L2 SX Cm
end DD
/-! the marks of a told form against the pattern of the open names -/
namespace DD
open PySem PySem.W L2 SX Cm
/-! the other way: the told marks out of the pattern -/
end DD
/-! tables of fillings that grow by puts; how much a filling adds -/
namespace DD
open PySem PySem.W L2 SX Cm
/-- at most so many parts, so deep -/
structure GdK (m e : Nat) (k : Kd) : Prop where
  sz : szK k ≤ m
  dp : dpK k ≤ e
  nm : NK vP vR k
structure GdS (m e : Nat) (s : Sk) : Prop where
  sz : szS s ≤ m
  dp : dpS s ≤ e
  nm : NS vP vR s
/-- a table whose entries are so -/
def GTab (m e : Nat) (kvs : List (Key × DV)) : Prop := ∃ f g, TabOK kvs vP vR f g ∧ (∀ z, vP z → GdK m e (f z)) ∧ ∀ r, vR r → GdS m e (g r)
theorem GTab.nil {m e : Nat} (hm : 1 ≤ m) : GTab m e [] := ⟨.opn, fun r => .mk r [], ⟨fun z _ => rfl, fun r _ => rfl, fun r _ => Nat.zero_le _⟩, fun z h => ⟨hm, Nat.zero_le _, h⟩, fun r h => ⟨hm, Nat.zero_le _, h, trivial⟩⟩
/-! what a filling makes -/
/-! how many open names -/
end DD
/-! laying one kind on another one: what is found for each open name -/
namespace DD
open PySem PySem.W L2 SX Cm
abbrev Part := Kd ⊕ Sk
noncomputable instance : DecidableEq Part := fun a b => Classical.propDecidable (a = b)
def eP : Part → DV
  | .inl k => eK k
  | .inr s => eS s
abbrev Fnd := List (Str × Part)
def look : Fnd → Str → Option Part
  | [], _ => none
  | c :: r, z => if c.1 = z then some c.2 else look r z
theorem look_none : ∀ {F : Fnd} {z : Str}, look F z = none ↔ z ∉ F.map (·.1)
  | [], z => ⟨(fun _ h => nomatch h), fun _ => rfl⟩
  | c :: r, z => by
    unfold look
    rw [List.map_cons, List.mem_cons]
    by_cases e : c.1 = z
    · rw [if_pos e]; exact ⟨(fun h => nomatch h), fun h => absurd (Or.inl e.symm) h⟩
    · rw [if_neg e, look_none]
      exact ⟨fun h g => g.elim (fun q => e q.symm) h, fun h g => h (.inr g)⟩
theorem look_nodup : ∀ {F : Fnd} {c : Str × Part}, (F.map (·.1)).Nodup → c ∈ F → look F c.1 = some c.2
  | a :: r, c, nd, h => by
    rw [List.map_cons, List.nodup_cons] at nd
    unfold look
    rcases List.mem_cons.mp h with rfl | h
    · rw [if_pos rfl]
    · have : a.1 ≠ c.1 := fun e => nd.1 (by rw [e]; exact List.mem_map_of_mem h)
      rw [if_neg this, look_nodup nd.2 h]
/-! the steps -/
inductive WI where
  | k (a b : Kd)
  | s (a b : Sk)
def zk (ks ks' : List Kd) : List WI := List.zipWith WI.k ks ks'
def step : WI → Option (List WI × Option (Str × Part))
  | .s (.mk r ks) (.mk r' ks') =>
    if ks'.length < ks.length then none
    else if r = "" then (if r' = "" ∧ ks'.length = ks.length then some (zk ks (ks'.drop (ks'.length - ks.length)), none) else none)
    else some (zk ks (ks'.drop (ks'.length - ks.length)), some (r, .inr (.mk r' (ks'.take (ks'.length - ks.length)))))
  | .k (.opn z) b => some ([], some (z, .inl b))
  | .k .num .num => some ([], none)
  | .k (.lst a) (.lst b) => some ([.k a b], none)
  | .k (.row a b) (.row c d) => some ([.s a c, .s b d], none)
  | .k _ _ => none
noncomputable def putFn (F : Fnd) (c : Str × Part) : Option Fnd := match look F c.1 with
  | none => some (F ++ [c])
  | some p => if p = c.2 then some F else none
noncomputable def putO (F : Fnd) : Option (Str × Part) → Option Fnd
  | none => some F
  | some c => putFn F c
noncomputable def run : Nat → List WI → Fnd → Option Fnd
  | _, [], F => some F
  | 0, _ :: _, _ => none
  | n + 1, w :: l, F => (step w).bind fun x => (putO F x.2).bind fun F' => run n (x.1.reverse ++ l) F'
/-! what is found fills the one to the other -/
/-! where there is a filling, one is found -/
def okW : WI → Prop
  | .k a b => NK vP vR a ∧ NK vP vR b
  | .s a b => NS vP vR a ∧ NS vP vR b
/-- a part as its name asks -/
def okC (c : Str × Part) : Prop := match c.2 with
  | .inl k => vP c.1 ∧ NK vP vR k
  | .inr s => gtB c.1 = true ∧ (TL.tl c.1).length ≤ 1000 ∧ NS vP vR s
end DD
/-! names found; marks tell the kind; sorted names -/
namespace DD
open PySem PySem.W L2 SX Cm
/-! marks tell the kind -/
/-! names -/
/-! what is found -/
structure FOk (B D : Nat) (F : Fnd) : Prop where
  nd : (F.map (·.1)).Nodup
  ok : ∀ c ∈ F, okC c
  bd : ∀ c ∈ F, match c.2 with | .inl k => szK k ≤ B ∧ dpK k ≤ D | .inr s => szS s ≤ B ∧ dpS s ≤ D
/-! sorted names -/
open PyProof.Rows (sortedS risingS ltCps_eq)
open PySem.Spec (ltCps)
def leS (a b : Str) : Prop := ¬ (b.cps.toList < a.cps.toList)
theorem rise_pair : ∀ (p : Str) (l : List Str), risingS p l = true → (p :: l).Pairwise leS
  | p, [], _ => List.pairwise_singleton _ _
  | p, x :: r, h => by
    have h' : (!ltCps x.cps.toList p.cps.toList && risingS x r) = true := h
    rw [Bool.and_eq_true, ltCps_eq] at h'
    have h1 : leS p x := fun q => by rw [decide_eq_true q] at h'; cases h'.1
    have ih := rise_pair x r h'.2
    refine List.pairwise_cons.mpr ⟨fun y hy => ?_, ih⟩
    rcases List.mem_cons.mp hy with rfl | hy
    · exact h1
    · have h2 : leS x y := List.rel_of_pairwise_cons ih hy
      intro q
      have a1 : p.cps.toList ≤ x.cps.toList := List.not_lt.mp h1
      have a2 : x.cps.toList ≤ y.cps.toList := List.not_lt.mp h2
      exact List.not_lt.mpr (List.le_trans a1 a2) q
theorem sorted_pair {l : List Str} (h : sortedS l = true) : l.Pairwise leS := by
  cases l with
  | nil => exact List.Pairwise.nil
  | cons x r => exact rise_pair x r h
theorem str_ext {a b : Str} (h : a.cps.toList = b.cps.toList) : a = b := by
  obtain ⟨x⟩ := a
  obtain ⟨y⟩ := b
  congr 1
  exact Array.toList_inj.mp h
theorem sorted_eq {a b : List Str} (ha : sortedS a = true) (hb : sortedS b = true) (p : a.Perm b) : a = b :=
  List.Perm.eq_of_pairwise (le := leS) (fun x y _ _ h1 h2 => str_ext (List.le_antisymm (List.not_lt.mp h1) (List.not_lt.mp h2))) (sorted_pair ha) (sorted_pair hb) p
end DD
/-! data as plain values of any sort -/
namespace DD
open PySem PySem.W L2 SX Cm
end DD
/-! tables of fillings over names of any sort (as CmFit) -/
namespace DD
open PySem PySem.W L2 SX Cm
/-- at most so many parts, so deep -/
structure GnK (P R : Str → Prop) (m e : Nat) (k : Kd) : Prop where
  sz : szK k ≤ m
  dp : dpK k ≤ e
  nm : NK P R k
structure GnS (P R : Str → Prop) (m e : Nat) (s : Sk) : Prop where
  sz : szS s ≤ m
  dp : dpS s ≤ e
  nm : NS P R s
/-- a table whose entries are so -/
def GnTab (P R : Str → Prop) (m e : Nat) (kvs : List (Key × DV)) : Prop := ∃ f g, TabOK kvs P R f g ∧ (∀ z, P z → GnK P R m e (f z)) ∧ (∀ r, R r → GnS P R m e (g r)) ∧ g "" = .mk "" []
section
variable {P R : Str → Prop}
theorem GnTab.nil {m e : Nat} (hm : 1 ≤ m) : GnTab P R m e [] := ⟨.opn, fun r => .mk r [], ⟨fun z _ => rfl, fun r _ => rfl, fun r _ => Nat.zero_le _⟩, fun z h => ⟨hm, Nat.zero_le _, h⟩, fun r h => ⟨hm, Nat.zero_le _, h, trivial⟩, rfl⟩
end
/-! what a filling makes -/
end DD
namespace Cm
open PySem PySem.W L2 SX PySem.Spec PyProof.Rows
end Cm
/-! fillings as kept tuples of pairs; one filling and then another one -/
namespace DD
open PySem PySem.W L2 SX Cm
section
variable {X : Cx}
/-- a display that is kept -/
def dTupP (t : TDA) : TD := fun δ G Q => t δ G fun ds G1 => ds.length ≤ sizeLine ∧ ∀ p, G1 p = none → Q (.ref p) (dupd G1 p (.ptp ds))
theorem w_tupPd {δ : DSt} {G : DG} {Q : DK} {ts : TDA} (h : ts δ G fun ds G1 => ds.length ≤ sizeLine ∧ ∀ p, G1 p = none → Q (.ref p) (dupd G1 p (.ptp ds))) : dTupP ts δ G Q := h
/-- (a, b, ..) = a list -/
def gLs (n : Nat) (t : TDGs) : TDG := fun d δ G Q => ∃ p ds, d = .ref p ∧ Ls G p ds ∧ ds.length = n ∧ t ds δ G Q
theorem dg_lst {es : List Expr} {k : Nat} {t : TDGs} {n : Nat} {pos : Pos} (hc : X.calm = true) (h : DGs X es t)
    (hn : (assignEach es X.env).length = n := by rfl) (hst : (assignEach es X.env).findIdx? (·.1) = none := by rfl) : DGt X (.Tuple es k pos) (gLs n t) := PG_mono (pg_lst hc h hn hst) fun v σ H Q ⟨d, δ, G, R, r, sl, w, ⟨p, ds, e, ls, l, h⟩, f⟩ => by
  subst e
  cases r
  obtain ⟨us, hs, r⟩ := wd_seq w ls
  exact ⟨p, us, rfl, hs, by rw [r.len]; exact l, ds, δ, G, R, r, sl, w, h, f⟩
theorem w_asgL {nx : DSt → DG → Prop} {rt : DK} {bk ct : DSt → DG → Prop} {δ : DSt} {G : DG} {te : TD} {n : Nat} {t : TDGs} (h : te δ G fun d G1 => gLs n t d δ G1 nx) : dAsg te (gLs n t) ⟨nx, rt, bk, ct⟩ δ G := h
/-- a call without arguments -/
def dCall0 (dsp : DSp) : TD := fun _ G Q => dsp [] G Q
theorem w_call0 {δ : DSt} {G : DG} {Q : DK} {dsp : DSp} (h : dsp [] G Q) : dCall0 dsp δ G Q := h
end
/-! fillings -/
abbrev pL (F : Fnd) : List DV := prT (F.map fun c => (c.1, eP c.2))
/-! what a found filling makes of names -/
/-- a sorted filling -/
structure FG (B D : Nat) (F : Fnd) : Prop where
  fo : FOk B D F
  so : PyProof.Rows.sortedS (F.map (·.1)) = true
theorem pairs_look {F : Fnd} (nd : (F.map (·.1)).Nodup) : F = (F.map (·.1)).map fun z => (z, (look F z).getD (.inl .num)) := by
  rw [List.map_map]
  conv => lhs; rw [← List.map_id F]
  refine List.map_congr_left fun c hc => ?_
  show c = (c.1, (look F c.1).getD _)
  rw [look_nodup nd hc]; rfl
/-- told by what stands for each name -/
theorem FG.ext {B D B' D' : Nat} {F F' : Fnd} (h : FG B D F) (h' : FG B' D' F') (e : ∀ z, look F z = look F' z) : F = F' := by
  have mem : ∀ {F : Fnd} (z : Str), z ∈ F.map (·.1) ↔ look F z ≠ none := fun z => ⟨fun q r => look_none.mp r q, fun q => Decidable.byContradiction fun r => q (look_none.mpr r)⟩
  have en : F.map (·.1) = F'.map (·.1) := sorted_eq h.so h'.so ((List.perm_ext_iff_of_nodup h.fo.nd h'.fo.nd).mpr fun z => by rw [mem z, mem z, e z])
  rw [pairs_look h.fo.nd, pairs_look h'.fo.nd, en]
  refine List.map_congr_left fun z _ => ?_
  rw [e z]
end DD
/-! shuffles as texts -/
namespace DD
open PySem PySem.W L2 SX Cm
def shL (n : Nat) : List Nat := (List.range n).map (97 + ·)
def shP (ps : List Nat) : List Nat := ps.map (97 + ·)
theorem S_append (x z : List Nat) : S (x ++ z) = S x ++ S z := by
  show (⟨(x ++ z).toArray⟩ : Str) = ⟨x.toArray ++ z.toArray⟩
  rw [List.append_toArray]
def shT (n : Nat) (ps : List Nat) : Str := S (shL n) ++ "-" ++ S (shP ps)
structure ShOk (n : Nat) (ps : List Nat) : Prop where
  hn : n ≤ 8
  hp : ∀ p ∈ ps, p < n
  hl : ps.length ≤ 12
theorem tl_S' (x : List Nat) : TL.tl (S x) = x := by show x.toArray.toList = x; rw [List.toList_toArray]
theorem sh_len {n : Nat} {ps : List Nat} (h : ShOk n ps) : (shT n ps).length ≤ 30 := by
  have h1 := h.hn
  have h2 := h.hl
  have e1 : (shL n).toArray.size = n := by rw [List.size_toArray, shL, List.length_map, List.length_range]
  have e2 : (shP ps).toArray.size = ps.length := by rw [List.size_toArray, shP, List.length_map]
  have e3 : ("-" : Str).cps.size = 1 := by decide +kernel
  show (((shL n).toArray ++ ("-" : Str).cps) ++ (shP ps).toArray).size ≤ 30
  rw [Array.size_append, Array.size_append, e1, e2, e3]
  omega
theorem sh_cut : ∀ n : Nat, n < 9 → cutS "abcdefgh" none (some (n : Int)) = S (shL n) := by decide +kernel
theorem shT_S (n : Nat) (ps : List Nat) : shT n ps = S (shL n ++ 45 :: shP ps) := by
  unfold shT
  rw [show ("-" : Str) = S [45] by decide +kernel, ← S_append, ← S_append, List.append_assoc]; rfl
theorem acc_of {α : Type} {f : α → DV} {Pp : α → Prop} : ∀ {acc : List DV}, (∀ (i : Nat) (y : DV), acc[i]? = some y → ∃ x, y = f x ∧ Pp x) → ∃ xs : List α, acc = xs.map f ∧ ∀ x ∈ xs, Pp x
  | [], _ => ⟨[], rfl, fun _ h => nomatch h⟩
  | a :: r, h => by
    obtain ⟨x, rfl, hx⟩ := h 0 a rfl
    obtain ⟨xs, rfl, hs⟩ := acc_of (acc := r) fun i y e => h (i + 1) y e
    exact ⟨x :: xs, rfl, fun z hz => by
      rcases List.mem_cons.mp hz with rfl | hz
      · exact hx
      · exact hs z hz⟩
end DD
set_option maxHeartbeats 1000000
namespace K64
open PySem PySem.W L2 SX Cm DD
local macro_rules | `(tactic| walk_at "d1") => `(tactic| first | (with_reducible refine w_go ?_) | ((with_reducible show dVar _ _ _ _); refine w_var rfl ?_) | (with_reducible refine w_exI ?_) | (with_reducible refine w_exB ?_) | (with_reducible refine w_exT ?_) | (with_reducible refine w_exS ?_) | (with_reducible refine w_parE ?_) | (with_reducible refine ly1 ?_) | (with_reducible refine ly2 ?_) | (with_reducible refine lt1' ?_) | (with_reducible refine lt2' ?_) | (with_reducible refine wx_enumT ?_) | (with_reducible refine w_callX ?_) | (with_reducible refine w_methX ?_) | (with_reducible refine w_raise ?_) | (with_reducible refine w_try ?_) | (with_reducible refine w_xSet ?_) | (with_reducible refine w_xExpr ?_) | (with_reducible refine w_xLst ?_) | (with_reducible refine w_xTup ?_) | (with_reducible refine w_xCons ?_) | (with_reducible refine w_xNil ?_) | (with_reducible refine w_xE ?_) | (with_reducible refine w_xCall ?_) | (with_reducible refine w_call0 ?_) | (with_reducible refine w_asgL ?_) | (with_reducible refine w_tupPd ?_) | (with_reducible refine wi_zip ?_) | (with_reducible refine w_delT ?_) | (with_reducible refine w_dc ?_) | (with_reducible refine w_revL ?_) | (with_reducible refine wi_revT ?_) | (with_reducible refine w_lstZip ?_) | (with_reducible refine w_chain ?_) | (with_reducible refine w_orT ?_) | ((with_reducible show gT _ _ _ _ _ _); refine g_T ?_ rfl) | ((with_reducible show ∃ p, DV.ref _ = _ ∧ (∃ kvs, _) ∧ _); refine wx_get (by walk_at "gq") ?_) | ((with_reducible show ∃ kvs z, _ = _ ∧ _ = some (DO.dct _) ∧ _); refine wx_get2 (by walk_at "gq") ?_) | ((with_reducible show ∃ p kvs z, _ = _ ∧ _ = _ ∧ _ = some (DO.dct _) ∧ _); refine wx_in (by walk_at "gq") ?_) | ((with_reducible show List.length _ = _ ∧ _); refine w_len ?_ rfl) | ((with_reducible show List.length _ ≤ sizeLine ∧ _); refine w_sz ?_ (szl rfl)) | ((with_reducible show bIx _ (.int _) _ _); first | refine w_ix0 ?_ | refine w_ix1 ?_ | refine w_ix2 ?_ | refine w_ix3 ?_) | ((with_reducible show bIsi [_, _] _ _); first | refine w_isi (by decide) (a := "tuple") rfl rfl ?_ | refine w_isi (by decide) (a := "str") rfl rfl ?_ | refine w_isi (by decide) (a := "int") rfl rfl ?_ | refine w_isi (by decide) (a := "bool") rfl rfl ?_ | refine w_isi (by decide) (a := "NoneType") rfl rfl ?_) | ((with_reducible show ∃ ds, _ = DV.tup ds ∧ _); refine w_exT ?_) | ((with_reducible show ∃ z, _ = DV.str z ∧ _); refine w_exS ?_) | ((with_reducible show ∃ ds, [_] = [DV.tup ds] ∧ _); refine wx_enumT ?_) | ((with_reducible show bSl _ _ _ _ _); refine w_slT ?_) | ((with_reducible show bTuple [_] _ _); refine w_tupT ?_) | ((with_reducible show bLen [_] _ _); refine w_lenT ?_) | ((with_reducible show bTru _ _ _); first | refine w_truT ?_ | refine w_truN ?_ | refine w_truB ?_ | refine w_truI ?_) | ((with_reducible show bEq _ _ _ _ _); first | refine w_eqSS ?_ | refine w_eqII ?_ | refine w_neSS ?_ | refine w_neII ?_ | refine w_eqT0 ?_) | ((with_reducible show bInt _ _ (.int _) (.int _) _ _); refine w_int (by first | decide | exact ⟨by decide, by decide, by decide⟩ | exact .inl ⟨by decide, by decide⟩ | exact .inr ⟨by decide, by decide⟩) ?_) | ((with_reducible show if _ = true then _ else _); first | refine w_it (by first | rfl | decide +kernel) ?_ | refine w_if0 (by first | rfl | decide +kernel) ?_) | ((with_reducible show rcv "list" (.ref _) _ ∧ _); refine w_rcvL (by walk_at "gq") ?_) | ((with_reducible show bTuple [.ref _] _ _); refine w_tupL (by walk_at "gq") ?_) | ((with_reducible show bLen [.ref _] _ _); refine w_lenL (by walk_at "gq") ?_) | ((with_reducible show bTru (.ref _) _ _); refine w_truL (by walk_at "gq") ?_) | ((with_reducible show ∃ _ _, DV.ref _ = _ ∧ Ls _ _ _ ∧ _); refine wx_lst (by walk_at "gq") ?_) | ((with_reducible show ∃ _ _, [DV.ref _] = _ ∧ Ls _ _ _ ∧ _); refine wx_lstA (by walk_at "gq") ?_))
local macro_rules | `(tactic| walk_at "dd") => `(tactic| repeat (walk_at "d1"))
local macro_rules | `(tactic| walk_at "gq") => `(tactic| first | assumption | exact dupd_same | exact sub_get (by assumption) (by walk_at "gq") | exact upd_get (by assumption) (by walk_at "gq") (by walk_at "gn") | exact subx_get (by assumption) (by walk_at "gq") (by walk_at "gn") | (refine (dupd_ne ?_).trans ?_; (focus walk_at "gn"); walk_at "gq"))
local macro_rules | `(tactic| walk_at "gs") => `(tactic| first | assumption | exact Sub.refl _ | exact sub_tr (by assumption) (by walk_at "gs") | exact sub_up (by assumption) (by walk_at "gs") (by walk_at "g0") | exact sub_ux (by assumption) (by walk_at "gs") (by walk_at "g0") | (refine Sub.new ?_ ?_; (focus walk_at "gs"); walk_at "g0"))
local macro_rules | `(tactic| walk_at "gk") => `(tactic| first | assumption | exact db_sub (by assumption) (by walk_at "gk") | exact db_upd (by assumption) (by walk_at "gk") ⟨_, by walk_at "gq"⟩ | exact db_updD (by assumption) (by walk_at "gk") ⟨_, by walk_at "gq"⟩)
local macro_rules | `(tactic| walk_at "gu") => `(tactic| first | assumption | exact Upd.refl _ _ | exact upd_in (by assumption) (by walk_at "gu"))
local macro_rules | `(tactic| walk_at "gx") => `(tactic| first | assumption | exact SubX.refl _ _ | exact subx_sub (by assumption) (by walk_at "gx") | exact subx_upd (by assumption) (by walk_at "gx") | exact subx_tr (by assumption) (by walk_at "gx"))
local macro_rules | `(tactic| walk_at "gn") => `(tactic| first | assumption | exact Ne.symm (by assumption) | exact ne_ns (by assumption) ⟨_, by walk_at "gq"⟩ | exact ne_sn (by assumption) ⟨_, by walk_at "gq"⟩)
local macro_rules | `(tactic| walk_at "g0") => `(tactic| first | assumption | exact nn_ (by assumption) (by walk_at "gs"))
abbrev NumOk (n : Int) : Prop := 0 ≤ n ∧ n < 1000000000000
section
variable {P : Program} {w : World} {K : Frag} {mg : Str → Option Value} {base : Heap}
def SP_num : DSp := fun ds G R => ∃ d, ds = [.ref d] ∧ HasDb G d ∧ ∀ r, NumOk r → R (.int r) G
def SP_shf : DSp := fun ds G R => ∃ d m, ds = [.ref d, .int (m : Nat)] ∧ m ≤ 8 ∧ HasDb G d ∧ ∀ n ps, ShOk n ps → R (.str (shT n ps)) G
abbrev N_L_number : List Str := ["_law_deck_here"]
abbrev A_L_number : List Str := ["_law_deck_here"]
theorem sc_L_number : FnScope N_L_number A_L_number (defScope s_L_number) := ⟨rfl, rfl, rfl, by decide +kernel, rfl, by decide +kernel, by decide +kernel⟩
theorem h_L_number (a : At K mg "_law_number" s_L_number A_L_number) (B : BI mg) (c_L_draw : Has P w K mg base 2 "_law_draw" A_L_draw SP_drawB) : Has P w K mg base 3 "_law_number" A_L_number SP_num := by
  refine at_mk a sc_L_number fun f cdv A outer s H E hr ds G R hl h => ?_
  refine ⟨_, (dss_one (ds_ret (de_ix (de_lst (da_cons de_int (da_cons de_int (da_cons de_int (da_cons (de_call c_L_draw (hr.mono (by omega)) rfl (da_cons (dv 0) (da_cons de_int da_nil))) (da_cons (de_op od_sub (de_op od_pow de_int de_int) de_int) (da_cons (de_call c_L_draw (hr.mono (by omega)) rfl (da_cons (dv 0) (da_cons (de_op od_pow de_int de_int) da_nil))) da_nil))))))) (de_call c_L_draw (hr.mono (by omega)) rfl (da_cons (dv 0) (da_cons de_int da_nil)))))), ?_⟩
  obtain ⟨d, rfl, hk, q⟩ := h
  walk_at "dd"
  refine ⟨d, 7, rfl, hk, by decide, by decide, fun r1 a1 b1 => ?_⟩
  walk_at "dd"
  refine ⟨d, 10 ^ 12, rfl, hk, by decide, by decide, fun r2 a2 b2 => ?_⟩
  walk_at "dd"
  intro p np
  refine abs_new np fun G1 s1 h1 => ?_
  have hk1 : HasDb G1 d := by walk_at "gk"
  walk_at "dd"
  refine ⟨d, 6, rfl, hk1, by decide, by decide, fun r3 a3 b3 => ?_⟩
  have all : ∀ x ∈ [DV.int 0, .int 1, .int 2, .int r1, .int 999999999999, .int r2], ∃ i, x = .int i ∧ NumOk i := by
    intro x hx
    have b2 : r2 < 1000000000000 := b2
    simp only [List.mem_cons, List.not_mem_nil, or_false] at hx
    rcases hx with rfl | rfl | rfl | rfl | rfl | rfl
    · exact ⟨_, rfl, by decide, by decide⟩
    · exact ⟨_, rfl, by decide, by decide⟩
    · exact ⟨_, rfl, by decide, by decide⟩
    · exact ⟨_, rfl, a1, by omega⟩
    · exact ⟨_, rfl, by decide, by decide⟩
    · exact ⟨_, rfl, a2, b2⟩
  have h1 : G1 p = some (.lst [DV.int 0, .int 1, .int 2, .int r1, .int 999999999999, .int r2]) := h1
  obtain ⟨x, hx, ex⟩ := pick (xs := [DV.int 0, .int 1, .int 2, .int r1, .int 999999999999, .int r2]) a3 (n := 6) b3 rfl
  obtain ⟨i, rfl, hi⟩ := all x hx
  refine w_ixL h1 ex ?_
  exact ⟨G, s1, q i hi⟩
abbrev N_L_shuffle : List Str := ["_law_deck_here", "_law_most", "_law_many", "_law_letters", "_law_left", "_law_wide", "_law_k"]
abbrev A_L_shuffle : List Str := ["_law_deck_here", "_law_most"]
theorem sc_L_shuffle : FnScope N_L_shuffle A_L_shuffle (defScope s_L_shuffle) := ⟨rfl, rfl, rfl, by decide +kernel, rfl, by decide +kernel, by decide +kernel⟩
theorem h_L_shuffle (a : At K mg "_law_shuffle" s_L_shuffle A_L_shuffle) (B : BI mg) (c_L_draw : Has P w K mg base 2 "_law_draw" A_L_draw SP_drawB) : Has P w K mg base 3 "_law_shuffle" A_L_shuffle SP_shf := by
  refine at_mk a sc_L_shuffle fun f cdv A outer s H E hr ds G R hl h => ?_
  refine ⟨_, (dss_cons (ds_set (i := 2) sc_L_shuffle.nd rfl (.inl rfl) (de_call c_L_draw (hr.mono (by omega)) rfl (da_cons (dv 0) (da_cons (de_op od_add (dv 1) de_int) da_nil))))
    (dss_cons (ds_set (i := 3) sc_L_shuffle.nd rfl (.inl rfl) (de_slice de_str do_none (do_some (dv 2))))
    (dss_cons (ds_set (i := 4) sc_L_shuffle.nd rfl (.inl rfl) de_str)
    (dss_cons (ds_if (dt_cmp od_gt (dv 2) de_int (nomark _)) (dss_cons (ds_set (i := 5) sc_L_shuffle.nd rfl (.inl rfl) (de_ix (de_lst (da_cons de_int (da_cons de_int da_nil))) (de_op od_fdiv (de_call c_L_draw (hr.mono (by omega)) rfl (da_cons (dv 0) (da_cons de_int da_nil))) de_int)))
      (dss_one (ds_for PassesOwn.never rfl (di_range B.range rfl (da_cons (de_call c_L_draw (hr.mono (by omega)) rfl (da_cons (dv 0) (da_cons (dv 5) da_nil))) da_nil)) (dg_name (i := 6) sc_L_shuffle.nd rfl (.inl rfl)) (dss_one (ds_set (i := 4) sc_L_shuffle.nd rfl (.inl rfl) (de_op od_add (dv 4) (de_ix (dv 3) (de_call c_L_draw (hr.mono (by omega)) rfl (da_cons (dv 0) (da_cons (dv 2) da_nil)))))))))) dss_nil)
    (dss_one (ds_ret (de_op od_add (de_op od_add (dv 3) de_str) (dv 4)))))))), ?_⟩
  obtain ⟨d, mm, rfl, hmm, hk, q⟩ := h
  walk_at "dd"
  refine ⟨d, (mm : Int) + 1, rfl, hk, by omega, by omega, fun r1 a1 b1 => ?_⟩
  obtain ⟨n, rfl⟩ := Int.eq_ofNat_of_zero_le a1
  have hn : n < 9 := by omega
  walk_at "dd"
  refine w_slS (by decide +kernel) ?_
  rw [sh_cut n hn]
  walk_at "dd"
  have ln : (S (shL n)).length = n := by rw [S_len]; unfold shL; rw [List.length_map, List.length_range]
  have sz1 : (S (shL n)).length + ("-" : Str).length ≤ sizeLine := mid (by rw [ln, show ("-" : Str).length = 1 from by decide +kernel]; omega)
  have fin : ∀ (ps : List Nat) (G' : DG), ShOk n ps → Sub G G' → (S (shL n) ++ ("-" : Str)).length + (S (shP ps)).length ≤ sizeLine ∧ Less R (.str (S (shL n) ++ ("-" : Str) ++ S (shP ps))) G' := fun ps G' ok s => by
    have t := sh_len ok
    have e : (S (shL n) ++ ("-" : Str)).length + (S (shP ps)).length = (shT n ps).length := by
      unfold shT
      show _ = ((S (shL n) ++ ("-" : Str)).cps ++ (S (shP ps)).cps).size
      rw [Array.size_append]; rfl
    exact ⟨mid (by rw [e]; omega), G, s, q n ps ok⟩
  have e0 : S (shP []) = "" := by decide +kernel
  by_cases h0 : n = 0
  · subst h0
    refine w_if0 rfl ?_
    walk_at "dd"
    obtain ⟨l, h⟩ := fin [] G ⟨by decide, fun _ h => (nomatch h), by decide⟩ (Sub.refl G)
    rw [e0] at l h
    refine w_addS sz1 ?_
    walk_at "dd"
    exact w_addS l h
  refine w_it (decide_eq_true (by omega)) ?_
  walk_at "dd"
  intro p1 np1
  refine abs_new np1 fun G1 s1 h1 => ?_
  walk_at "dd"
  refine ⟨d, 8, rfl, by walk_at "gk", by decide, by decide, fun r2 a2 b2 => ?_⟩
  walk_at "dd"
  refine w_int (by first | exact wide_div (by decide) (b := 3) (by omega) (by decide) (by decide)) ?_
  obtain ⟨m, hm, em⟩ : ∃ m : Int, atI [DV.int 4, .int 13] (r2 / 7) = some (.int m) ∧ 0 < m ∧ m ≤ 13 := by
    have : r2 / 7 = 0 ∨ r2 / 7 = 1 := by omega
    rcases this with h | h
    · rw [h]; exact ⟨4, rfl, by decide, by decide⟩
    · rw [h]; exact ⟨13, rfl, by decide, by decide⟩
  refine w_ixL h1 hm ?_
  walk_at "dd"
  refine ⟨d, m, rfl, by walk_at "gk", em.1, by omega, fun r3 a3 b3 => ?_⟩
  walk_at "dd"
  refine wx_rng (by omega) (by omega) ?_
  refine for_by (fun i δ G' => ∃ (ps : List Nat) (x6 : Option DV), δ = [some (.ref d), some (.int (mm : Int)), some (.int (n : Int)), some (.str (S (shL n))), some (.str (S (shP ps))), some (.int m), x6] ∧ ps.length = i ∧ (∀ p ∈ ps, p < n) ∧ Sub G1 G') (fun _ _ _ _ => trivial) ⟨[], none, by rw [e0]; rfl, rfl, fun _ h => (nomatch h), Sub.refl _⟩ ?_ ?_
  · rintro i y δ G' hy ⟨ps, x6, rfl, lp, hp, sG⟩
    have hi := (List.getElem?_eq_some_iff.mp hy).1
    rw [rng_len] at hi
    walk_at "dd"
    refine ⟨d, (n : Int), rfl, by walk_at "gk", by omega, by omega, fun x x0 x1 => ?_⟩
    obtain ⟨x, rfl⟩ := Int.eq_ofNat_of_zero_le x0
    refine w_ixS (z := S (shL n)) (mid (by omega)) (c := 97 + x) ?_ ?_
    · show atI (shL n).toArray.toList ((x : Nat) : Int) = _
      rw [List.toList_toArray]
      refine atI_nat ?_
      unfold shL
      rw [List.getElem?_map, List.getElem?_range (by omega)]; rfl
    have ea : S (shP ps) ++ (⟨#[97 + x]⟩ : Str) = S (shP (ps ++ [x])) := by
      rw [show (⟨#[97 + x]⟩ : Str) = S [97 + x] from rfl, ← S_append]
      unfold shP
      rw [List.map_append]; rfl
    refine w_addS (mid (by rw [S_len]; unfold shP; rw [List.length_map, lp]; show i + 1 ≤ _; omega)) ?_
    rw [ea]
    walk_at "dd"
    exact ⟨ps ++ [x], _, rfl, by rw [List.length_append, lp]; rfl, fun p h => (List.mem_append.mp h).elim (hp p) fun h => by rw [List.mem_singleton.mp h]; omega, sG⟩
  · rintro δ G' ⟨ps, x6, rfl, lp, hp, sG⟩
    rw [rng_len] at lp
    walk_at "dd"
    obtain ⟨l, h⟩ := fin ps G' ⟨by omega, hp, by omega⟩ (s1.trans sG)
    refine w_addS sz1 ?_
    walk_at "dd"
    exact w_addS l h
end
end K64
set_option maxHeartbeats 1000000
/-! going through what is a tuple or a list -/
namespace DD
open PySem PySem.W L2 SX Cm
def dIOr (t u : TDI) : TDI := fun δ G R => t δ G R ∨ u δ G R
theorem di_or {X : Cx} {tg e : Expr} {t u : TDI} (h : DI X tg e t) (g : DI X tg e u) : DI X tg e (dIOr t u) :=
  ⟨fun pins s σ H R hi ⟨δ, G, R0, sl, w, q, f⟩ => q.elim (fun q => h.run pins s σ H R hi ⟨δ, G, R0, sl, w, q, f⟩) (fun q => g.run pins s σ H R hi ⟨δ, G, R0, sl, w, q, f⟩)⟩
end DD
set_option maxHeartbeats 1000000
namespace K64
open PySem PySem.W L2 SX Cm DD
local macro_rules | `(tactic| walk_at "d1") => `(tactic| first | (with_reducible refine w_go ?_) | ((with_reducible show dVar _ _ _ _); refine w_var rfl ?_) | (with_reducible refine w_exI ?_) | (with_reducible refine w_exB ?_) | (with_reducible refine w_exT ?_) | (with_reducible refine w_exS ?_) | (with_reducible refine w_parE ?_) | (with_reducible refine ly1 ?_) | (with_reducible refine ly2 ?_) | (with_reducible refine lt1' ?_) | (with_reducible refine lt2' ?_) | (with_reducible refine wx_enumT ?_) | (with_reducible refine w_callX ?_) | (with_reducible refine w_methX ?_) | (with_reducible refine w_raise ?_) | (with_reducible refine w_try ?_) | (with_reducible refine w_xSet ?_) | (with_reducible refine w_xExpr ?_) | (with_reducible refine w_xLst ?_) | (with_reducible refine w_xTup ?_) | (with_reducible refine w_xCons ?_) | (with_reducible refine w_xNil ?_) | (with_reducible refine w_xE ?_) | (with_reducible refine w_xCall ?_) | (with_reducible refine w_call0 ?_) | (with_reducible refine w_asgL ?_) | (with_reducible refine w_tupPd ?_) | (with_reducible refine wi_zip ?_) | (with_reducible refine w_delT ?_) | (with_reducible refine w_dc ?_) | (with_reducible refine w_revL ?_) | (with_reducible refine wi_revT ?_) | (with_reducible refine w_lstZip ?_) | (with_reducible refine w_chain ?_) | (with_reducible refine w_orT ?_) | ((with_reducible show gT _ _ _ _ _ _); refine g_T ?_ rfl) | ((with_reducible show ∃ p, DV.ref _ = _ ∧ (∃ kvs, _) ∧ _); refine wx_get (by walk_at "gq") ?_) | ((with_reducible show ∃ kvs z, _ = _ ∧ _ = some (DO.dct _) ∧ _); refine wx_get2 (by walk_at "gq") ?_) | ((with_reducible show ∃ p kvs z, _ = _ ∧ _ = _ ∧ _ = some (DO.dct _) ∧ _); refine wx_in (by walk_at "gq") ?_) | ((with_reducible show List.length _ = _ ∧ _); refine w_len ?_ rfl) | ((with_reducible show List.length _ ≤ sizeLine ∧ _); refine w_sz ?_ (szl rfl)) | ((with_reducible show bIx _ (.int _) _ _); first | refine w_ix0 ?_ | refine w_ix1 ?_ | refine w_ix2 ?_ | refine w_ix3 ?_) | ((with_reducible show bIsi [_, _] _ _); first | refine w_isi (by decide) (a := "tuple") rfl rfl ?_ | refine w_isi (by decide) (a := "str") rfl rfl ?_ | refine w_isi (by decide) (a := "int") rfl rfl ?_ | refine w_isi (by decide) (a := "bool") rfl rfl ?_ | refine w_isi (by decide) (a := "NoneType") rfl rfl ?_) | ((with_reducible show ∃ ds, _ = DV.tup ds ∧ _); refine w_exT ?_) | ((with_reducible show ∃ z, _ = DV.str z ∧ _); refine w_exS ?_) | ((with_reducible show ∃ ds, [_] = [DV.tup ds] ∧ _); refine wx_enumT ?_) | ((with_reducible show bSl _ _ _ _ _); refine w_slT ?_) | ((with_reducible show bTuple [_] _ _); refine w_tupT ?_) | ((with_reducible show bLen [_] _ _); refine w_lenT ?_) | ((with_reducible show bTru _ _ _); first | refine w_truT ?_ | refine w_truN ?_ | refine w_truB ?_ | refine w_truI ?_) | ((with_reducible show bEq _ _ _ _ _); first | refine w_eqSS ?_ | refine w_eqII ?_ | refine w_neSS ?_ | refine w_neII ?_ | refine w_eqT0 ?_) | ((with_reducible show bInt _ _ (.int _) (.int _) _ _); refine w_int (by first | decide | exact ⟨by decide, by decide, by decide⟩ | exact .inl ⟨by decide, by decide⟩ | exact .inr ⟨by decide, by decide⟩) ?_) | ((with_reducible show if _ = true then _ else _); first | refine w_it (by first | rfl | decide +kernel) ?_ | refine w_if0 (by first | rfl | decide +kernel) ?_) | ((with_reducible show rcv "list" (.ref _) _ ∧ _); refine w_rcvL (by walk_at "gq") ?_) | ((with_reducible show bTuple [.ref _] _ _); refine w_tupL (by walk_at "gq") ?_) | ((with_reducible show bLen [.ref _] _ _); refine w_lenL (by walk_at "gq") ?_) | ((with_reducible show bTru (.ref _) _ _); refine w_truL (by walk_at "gq") ?_) | ((with_reducible show ∃ _ _, DV.ref _ = _ ∧ Ls _ _ _ ∧ _); refine wx_lst (by walk_at "gq") ?_) | ((with_reducible show ∃ _ _, [DV.ref _] = _ ∧ Ls _ _ _ ∧ _); refine wx_lstA (by walk_at "gq") ?_))
local macro_rules | `(tactic| walk_at "dd") => `(tactic| repeat (walk_at "d1"))
local macro_rules | `(tactic| walk_at "gq") => `(tactic| first | assumption | exact dupd_same | exact sub_get (by assumption) (by walk_at "gq") | exact upd_get (by assumption) (by walk_at "gq") (by walk_at "gn") | exact subx_get (by assumption) (by walk_at "gq") (by walk_at "gn") | (refine (dupd_ne ?_).trans ?_; (focus walk_at "gn"); walk_at "gq"))
local macro_rules | `(tactic| walk_at "gs") => `(tactic| first | assumption | exact Sub.refl _ | exact sub_tr (by assumption) (by walk_at "gs") | exact sub_up (by assumption) (by walk_at "gs") (by walk_at "g0") | exact sub_ux (by assumption) (by walk_at "gs") (by walk_at "g0") | (refine Sub.new ?_ ?_; (focus walk_at "gs"); walk_at "g0"))
local macro_rules | `(tactic| walk_at "gk") => `(tactic| first | assumption | exact db_sub (by assumption) (by walk_at "gk") | exact db_upd (by assumption) (by walk_at "gk") ⟨_, by walk_at "gq"⟩ | exact db_updD (by assumption) (by walk_at "gk") ⟨_, by walk_at "gq"⟩)
local macro_rules | `(tactic| walk_at "gu") => `(tactic| first | assumption | exact Upd.refl _ _ | exact upd_in (by assumption) (by walk_at "gu"))
local macro_rules | `(tactic| walk_at "gx") => `(tactic| first | assumption | exact SubX.refl _ _ | exact subx_sub (by assumption) (by walk_at "gx") | exact subx_upd (by assumption) (by walk_at "gx") | exact subx_tr (by assumption) (by walk_at "gx"))
local macro_rules | `(tactic| walk_at "gn") => `(tactic| first | assumption | exact Ne.symm (by assumption) | exact ne_ns (by assumption) ⟨_, by walk_at "gq"⟩ | exact ne_sn (by assumption) ⟨_, by walk_at "gq"⟩)
local macro_rules | `(tactic| walk_at "g0") => `(tactic| first | assumption | exact nn_ (by assumption) (by walk_at "gs"))
section
variable {P : Program} {w : World} {K : Frag} {mg : Str → Option Value} {base : Heap}
/-- things, as a tuple or as a list -/
def ThSq (G : DG) (d : DV) (ts : List Th) : Prop := d = .tup (eTs ts) ∨ ∃ p, d = .ref p ∧ G p = some (.lst (eTs ts))
theorem ThSq.sub {G G' : DG} {d : DV} {ts : List Th} (h : ThSq G d ts) (s : Sub G G') : ThSq G' d ts := h.elim .inl fun ⟨p, e, h⟩ => .inr ⟨p, e, s _ _ h⟩
def SP_size (k : Nat) : DSp := fun ds G R => (∃ d ts, ds = [d] ∧ ThSq G d ts ∧ dpTs ts < k ∧ szTs ts ≤ 100000 ∧ R (.int (szTs ts)) G) ∨ ∃ o p ws, ds = [.ref o] ∧ G o = some (.lst [.tup [.str "row", .ref p]]) ∧ G p = some (.lst (eWs ws)) ∧ dpWs ws + 1 < k ∧ szWs ws ≤ 90000 ∧ R (.int (1 + szWs ws : Nat)) G
/-- the things that words push -/
def psW : Wo → Option Th
  | .push t => some t
  | .txt _ => none
def psWs (ws : List Wo) : List Th := ws.filterMap psW
theorem psWs_sz : ∀ ws : List Wo, szWs ws = ws.length + szTs (psWs ws) ∧ dpTs (psWs ws) = dpWs ws
  | [] => ⟨rfl, rfl⟩
  | .txt z :: r => by
    obtain ⟨a, b⟩ := psWs_sz r
    refine ⟨?_, ?_⟩
    · show 1 + szWs r = (r.length + 1) + szTs (psWs r); omega
    · show dpTs (psWs r) = max 0 (dpWs r); omega
  | .push t :: r => by
    obtain ⟨a, b⟩ := psWs_sz r
    refine ⟨?_, ?_⟩
    · show (1 + szT t) + szWs r = (r.length + 1) + (szT t + szTs (psWs r)); omega
    · show max (dpT t) (dpTs (psWs r)) = max (dpT t) (dpWs r); rw [b]
theorem szTs_take (ts : List Th) (i : Nat) : szTs (ts.take i) ≤ szTs ts := by
  have e : szTs ts = szTs (ts.take i ++ ts.drop i) := by rw [List.take_append_drop]
  rw [e, szTs_app]; omega
def psD : DV → Option DV
  | .tup [_, t] => some t
  | _ => none
theorem fm_ps : ∀ ws : List Wo, (eWs ws).filterMap psD = eTs (psWs ws)
  | [] => rfl
  | .txt z :: r => by
    show List.filterMap psD (.str z :: eWs r) = _
    rw [List.filterMap_cons_none rfl]
    exact fm_ps r
  | .push t :: r => by
    show List.filterMap psD (.tup [.str "push", eT t] :: eWs r) = _
    rw [List.filterMap_cons_some (f := psD) (b := eT t) rfl]
    show eT t :: _ = eT t :: eTs (psWs r)
    rw [fm_ps r]
abbrev N_L_size : List Str := ["_law_things", "_law_total", "_law_thing_here", "_law_word"]
abbrev A_L_size : List Str := ["_law_things"]
theorem sc_L_size : FnScope N_L_size A_L_size (defScope s_L_size) := ⟨rfl, rfl, rfl, by decide +kernel, rfl, by decide +kernel, by decide +kernel⟩
theorem h_L_size {k l : Nat} (a : At K mg "_law_size" s_L_size A_L_size) (B : BI mg) (c_L_size : Has P w K mg base l "_law_size" A_L_size (SP_size k)) : Has P w K mg base (l + 1) "_law_size" A_L_size (SP_size (k + 1)) := by
  refine at_mk a sc_L_size fun f cdv A outer s H E hr ds G R hl h => ?_
  refine ⟨_, (dss_cons (ds_set (i := 1) sc_L_size.nd rfl (.inl rfl) de_int)
    (dss_cons (ds_for PassesOwn.never rfl (di_or (di_tup (dv 0)) (di_list (dv 0))) (dg_name (i := 2) sc_L_size.nd rfl (.inl rfl)) (dss_cons (ds_set (i := 1) sc_L_size.nd rfl (.inl rfl) (de_op od_add (dv 1) de_int))
      (dss_cons (ds_if (dt_cmp (od_eq hr.units) (de_ix (dv 2) de_int) de_str (nomark _)) (dss_one (ds_set (i := 1) sc_L_size.nd rfl (.inl rfl) (de_op od_add (dv 1) (de_call c_L_size (hr.mono (by omega)) rfl (da_cons (de_ix (dv 2) de_int) da_nil))))) dss_nil)
      (dss_one (ds_if (dt_cmp (od_eq hr.units) (de_ix (dv 2) de_int) de_str (nomark _)) (dss_one (ds_set (i := 1) sc_L_size.nd rfl (.inl rfl) (de_op od_add (de_op od_add (dv 1) (de_callB cd_len B.len rfl (by decide +kernel) (da_cons (de_ix (dv 2) de_int) da_nil))) (de_call c_L_size (hr.mono (by omega)) rfl (da_cons (de_lc (own := [("_law_word", 3)]) (lt1 (i := 3) (by decide)) rfl sc_L_size.nd (di_or (di_tup (de_ix (dv 2) de_int)) (di_list (de_ix (dv 2) de_int))) (blkOk_by (own := [("_law_word", 3)]) (N := N_L_size) (sc := defScope s_L_size) (by decide +kernel)) (fun _ _ _ _ _ => pg_name (i := 3) sc_L_size.nd rfl (Or.inl rfl)) (fun _ _ _ _ _ => (dts_one (dt_e (de_callB cd_isi B.isi rfl (by decide +kernel) (da_cons (dv 3) (da_cons (de_ty (n := "tuple") B.tup rfl (by decide +kernel)) da_nil)))))) (fun _ _ _ _ _ => (de_ix (dv 3) de_int))) da_nil))))) dss_nil)))))
    (dss_one (ds_ret (dv 1))))), ?_⟩
  rcases h.symm with ⟨o, p, ws, rfl, ho, hp, dk, sz, q⟩ | ⟨d, ts, rfl, hd, dk, sz, q⟩
  · walk_at "dd"
    right
    walk_at "dd"
    obtain ⟨p1, p2⟩ := psWs_sz ws
    refine for_by (fun i δ G' => ∃ (x2 x3 : Option DV), δ = [some (.ref o), some (.int ((if i = 0 then 0 else 1 + szWs ws : Nat) : Int)), x2, x3] ∧ Sub G G') (fun i δ G' ⟨_, _, _, s⟩ => .inl (s _ _ ho)) ⟨none, none, rfl, Sub.refl _⟩ ?_ ?_
    · rintro i y δ G' hy ⟨x2, x3, rfl, sG⟩
      cases i with
      | succ i => cases hy
      | zero =>
        cases hy
        walk_at "dd"
        right
        walk_at "dd"
        refine lcs_pure psD (fun G2 s2 => .inl (s2 _ _ (sG _ _ hp))) (by rw [eWs_len]; omega) ?_ ?_
        · intro y hy G2 k1 k0 s2 h1 h0
          rw [eWs_map] at hy
          obtain ⟨w1, _, rfl⟩ := List.mem_map.mp hy
          cases w1 with
          | txt z =>
            walk_at "dd"
            exact h0 rfl
          | push t =>
            walk_at "dd"
            exact h1 _ rfl
        · intro p5 G5 np5 s5 h5
          rw [fm_ps] at h5
          walk_at "dd"
          refine .inl ⟨_, psWs ws, rfl, .inr ⟨p5, rfl, h5⟩, by omega, by omega, ?_⟩
          walk_at "dd"
          exact ⟨_, _, by rw [show ((if (0 + 1 : Nat) = 0 then 0 else 1 + szWs ws : Nat) : Int) = 0 + 1 + ((eWs ws).length : Nat) + (szTs (psWs ws) : Nat) from by rw [if_neg (by decide), eWs_len]; omega]; rfl, sG.trans s5⟩
    · rintro δ G' ⟨x2, x3, rfl, sG⟩
      walk_at "dd"
      exact ⟨G, sG, q⟩
  walk_at "dd"
  rcases hd with rfl | ⟨p, rfl, hp⟩
  · left
    walk_at "dd"
    refine for_by (fun i δ G' => ∃ (x2 x3 : Option DV), δ = [some (.tup (eTs ts)), some (.int ((szTs (ts.take i) : Nat) : Int)), x2, x3] ∧ Sub G G') (fun _ _ _ _ => trivial) ⟨none, none, rfl, Sub.refl _⟩ ?_ ?_
    · rintro i y δ G' hy ⟨x2, x3, rfl, sG⟩
      rw [eTs_map, List.getElem?_map] at hy
      obtain ⟨t, ht, rfl⟩ := Option.map_eq_some_iff.mp hy
      obtain ⟨hi, he⟩ := List.getElem?_eq_some_iff.mp ht
      have e1 : szTs (ts.take (i + 1)) = szTs (ts.take i) + szT t := by
        rw [List.take_add_one, ht, szTs_app]; rfl
      have l1 := szTs_take ts (i + 1)
      obtain ⟨m1, m2, _⟩ := mem_szT (List.mem_of_getElem? ht)
      cases t with
      | num n =>
        walk_at "dd"
        exact ⟨_, _, by rw [e1]; rfl, sG⟩
      | lst us =>
        have e2 : szT (.lst us) = 1 + szTs us := rfl
        have e3 : dpT (.lst us) = 1 + dpTs us := rfl
        walk_at "dd"
        refine .inl ⟨_, us, rfl, .inl rfl, by omega, by omega, ?_⟩
        walk_at "dd"
        exact ⟨_, _, by rw [show ((szTs (ts.take (i + 1)) : Nat) : Int) = (szTs (ts.take i) : Nat) + 1 + (szTs us : Nat) from by rw [e1, e2]; omega]; rfl, sG⟩
      | row ws =>
        have e2 : szT (.row ws) = 1 + szWs ws := rfl
        have e3 : dpT (.row ws) = 1 + dpWs ws := rfl
        obtain ⟨p1, p2⟩ := psWs_sz ws
        walk_at "dd"
        left
        walk_at "dd"
        refine lcs_pure psD (fun _ _ => trivial) (by rw [eWs_len]; omega) ?_ ?_
        · intro y hy G2 k1 k0 s2 h1 h0
          rw [eWs_map] at hy
          obtain ⟨w1, _, rfl⟩ := List.mem_map.mp hy
          cases w1 with
          | txt z =>
            walk_at "dd"
            exact h0 rfl
          | push t =>
            walk_at "dd"
            exact h1 _ rfl
        · intro p5 G5 np5 s5 h5
          rw [fm_ps] at h5
          walk_at "dd"
          refine .inl ⟨_, psWs ws, rfl, .inr ⟨p5, rfl, h5⟩, by omega, by omega, ?_⟩
          walk_at "dd"
          exact ⟨_, _, by rw [show ((szTs (ts.take (i + 1)) : Nat) : Int) = (szTs (ts.take i) : Nat) + 1 + ((eWs ws).length : Nat) + (szTs (psWs ws) : Nat) from by rw [e1, e2, eWs_len]; omega]; rfl, sG.trans s5⟩
    · rintro δ G' ⟨x2, x3, rfl, sG⟩
      rw [eTs_len, List.take_length]
      walk_at "dd"
      exact ⟨G, sG, q⟩
  · right
    walk_at "dd"
    refine for_by (fun i δ G' => ∃ (x2 x3 : Option DV), δ = [some (.ref p), some (.int ((szTs (ts.take i) : Nat) : Int)), x2, x3] ∧ Sub G G') (fun i δ G' ⟨_, _, _, s⟩ => .inl (s _ _ hp)) ⟨none, none, rfl, Sub.refl _⟩ ?_ ?_
    · rintro i y δ G' hy ⟨x2, x3, rfl, sG⟩
      rw [eTs_map, List.getElem?_map] at hy
      obtain ⟨t, ht, rfl⟩ := Option.map_eq_some_iff.mp hy
      obtain ⟨hi, he⟩ := List.getElem?_eq_some_iff.mp ht
      have e1 : szTs (ts.take (i + 1)) = szTs (ts.take i) + szT t := by
        rw [List.take_add_one, ht, szTs_app]; rfl
      have l1 := szTs_take ts (i + 1)
      obtain ⟨m1, m2, _⟩ := mem_szT (List.mem_of_getElem? ht)
      cases t with
      | num n =>
        walk_at "dd"
        exact ⟨_, _, by rw [e1]; rfl, sG⟩
      | lst us =>
        have e2 : szT (.lst us) = 1 + szTs us := rfl
        have e3 : dpT (.lst us) = 1 + dpTs us := rfl
        walk_at "dd"
        refine .inl ⟨_, us, rfl, .inl rfl, by omega, by omega, ?_⟩
        walk_at "dd"
        exact ⟨_, _, by rw [show ((szTs (ts.take (i + 1)) : Nat) : Int) = (szTs (ts.take i) : Nat) + 1 + (szTs us : Nat) from by rw [e1, e2]; omega]; rfl, sG⟩
      | row ws =>
        have e2 : szT (.row ws) = 1 + szWs ws := rfl
        have e3 : dpT (.row ws) = 1 + dpWs ws := rfl
        obtain ⟨p1, p2⟩ := psWs_sz ws
        walk_at "dd"
        left
        walk_at "dd"
        refine lcs_pure psD (fun _ _ => trivial) (by rw [eWs_len]; omega) ?_ ?_
        · intro y hy G2 k1 k0 s2 h1 h0
          rw [eWs_map] at hy
          obtain ⟨w1, _, rfl⟩ := List.mem_map.mp hy
          cases w1 with
          | txt z =>
            walk_at "dd"
            exact h0 rfl
          | push t =>
            walk_at "dd"
            exact h1 _ rfl
        · intro p5 G5 np5 s5 h5
          rw [fm_ps] at h5
          walk_at "dd"
          refine .inl ⟨_, psWs ws, rfl, .inr ⟨p5, rfl, h5⟩, by omega, by omega, ?_⟩
          walk_at "dd"
          exact ⟨_, _, by rw [show ((szTs (ts.take (i + 1)) : Nat) : Int) = (szTs (ts.take i) : Nat) + 1 + ((eWs ws).length : Nat) + (szTs (psWs ws) : Nat) from by rw [e1, e2, eWs_len]; omega]; rfl, sG.trans s5⟩
    · rintro δ G' ⟨x2, x3, rfl, sG⟩
      rw [eTs_len, List.take_length]
      walk_at "dd"
      exact ⟨G, sG, q⟩
end
end K64
set_option maxHeartbeats 1000000
namespace K64
open PySem PySem.W L2 SX Cm DD
local macro_rules | `(tactic| walk_at "d1") => `(tactic| first | (with_reducible refine w_go ?_) | ((with_reducible show dVar _ _ _ _); refine w_var rfl ?_) | (with_reducible refine w_exI ?_) | (with_reducible refine w_exB ?_) | (with_reducible refine w_exT ?_) | (with_reducible refine w_exS ?_) | (with_reducible refine w_parE ?_) | (with_reducible refine ly1 ?_) | (with_reducible refine ly2 ?_) | (with_reducible refine lt1' ?_) | (with_reducible refine lt2' ?_) | (with_reducible refine wx_enumT ?_) | (with_reducible refine w_callX ?_) | (with_reducible refine w_methX ?_) | (with_reducible refine w_raise ?_) | (with_reducible refine w_try ?_) | (with_reducible refine w_xSet ?_) | (with_reducible refine w_xExpr ?_) | (with_reducible refine w_xLst ?_) | (with_reducible refine w_xTup ?_) | (with_reducible refine w_xCons ?_) | (with_reducible refine w_xNil ?_) | (with_reducible refine w_xE ?_) | (with_reducible refine w_xCall ?_) | (with_reducible refine w_call0 ?_) | (with_reducible refine w_asgL ?_) | (with_reducible refine w_tupPd ?_) | (with_reducible refine wi_zip ?_) | (with_reducible refine w_delT ?_) | (with_reducible refine w_dc ?_) | (with_reducible refine w_revL ?_) | (with_reducible refine wi_revT ?_) | (with_reducible refine w_lstZip ?_) | (with_reducible refine w_chain ?_) | (with_reducible refine w_orT ?_) | ((with_reducible show gT _ _ _ _ _ _); refine g_T ?_ rfl) | ((with_reducible show ∃ p, DV.ref _ = _ ∧ (∃ kvs, _) ∧ _); refine wx_get (by walk_at "gq") ?_) | ((with_reducible show ∃ kvs z, _ = _ ∧ _ = some (DO.dct _) ∧ _); refine wx_get2 (by walk_at "gq") ?_) | ((with_reducible show ∃ p kvs z, _ = _ ∧ _ = _ ∧ _ = some (DO.dct _) ∧ _); refine wx_in (by walk_at "gq") ?_) | ((with_reducible show List.length _ = _ ∧ _); refine w_len ?_ rfl) | ((with_reducible show List.length _ ≤ sizeLine ∧ _); refine w_sz ?_ (szl rfl)) | ((with_reducible show bIx _ (.int _) _ _); first | refine w_ix0 ?_ | refine w_ix1 ?_ | refine w_ix2 ?_ | refine w_ix3 ?_) | ((with_reducible show bIsi [_, _] _ _); first | refine w_isi (by decide) (a := "tuple") rfl rfl ?_ | refine w_isi (by decide) (a := "str") rfl rfl ?_ | refine w_isi (by decide) (a := "int") rfl rfl ?_ | refine w_isi (by decide) (a := "bool") rfl rfl ?_ | refine w_isi (by decide) (a := "NoneType") rfl rfl ?_) | ((with_reducible show ∃ ds, _ = DV.tup ds ∧ _); refine w_exT ?_) | ((with_reducible show ∃ z, _ = DV.str z ∧ _); refine w_exS ?_) | ((with_reducible show ∃ ds, [_] = [DV.tup ds] ∧ _); refine wx_enumT ?_) | ((with_reducible show bSl _ _ _ _ _); refine w_slT ?_) | ((with_reducible show bTuple [_] _ _); refine w_tupT ?_) | ((with_reducible show bLen [_] _ _); refine w_lenT ?_) | ((with_reducible show bTru _ _ _); first | refine w_truT ?_ | refine w_truN ?_ | refine w_truB ?_ | refine w_truI ?_) | ((with_reducible show bEq _ _ _ _ _); first | refine w_eqSS ?_ | refine w_eqII ?_ | refine w_neSS ?_ | refine w_neII ?_ | refine w_eqT0 ?_) | ((with_reducible show bInt _ _ (.int _) (.int _) _ _); refine w_int (by first | decide | exact ⟨by decide, by decide, by decide⟩ | exact .inl ⟨by decide, by decide⟩ | exact .inr ⟨by decide, by decide⟩) ?_) | ((with_reducible show if _ = true then _ else _); first | refine w_it (by first | rfl | decide +kernel) ?_ | refine w_if0 (by first | rfl | decide +kernel) ?_) | ((with_reducible show rcv "list" (.ref _) _ ∧ _); refine w_rcvL (by walk_at "gq") ?_) | ((with_reducible show bTuple [.ref _] _ _); refine w_tupL (by walk_at "gq") ?_) | ((with_reducible show bLen [.ref _] _ _); refine w_lenL (by walk_at "gq") ?_) | ((with_reducible show bTru (.ref _) _ _); refine w_truL (by walk_at "gq") ?_) | ((with_reducible show ∃ _ _, DV.ref _ = _ ∧ Ls _ _ _ ∧ _); refine wx_lst (by walk_at "gq") ?_) | ((with_reducible show ∃ _ _, [DV.ref _] = _ ∧ Ls _ _ _ ∧ _); refine wx_lstA (by walk_at "gq") ?_))
local macro_rules | `(tactic| walk_at "dd") => `(tactic| repeat (walk_at "d1"))
local macro_rules | `(tactic| walk_at "gq") => `(tactic| first | assumption | exact dupd_same | exact sub_get (by assumption) (by walk_at "gq") | exact upd_get (by assumption) (by walk_at "gq") (by walk_at "gn") | exact subx_get (by assumption) (by walk_at "gq") (by walk_at "gn") | (refine (dupd_ne ?_).trans ?_; (focus walk_at "gn"); walk_at "gq"))
local macro_rules | `(tactic| walk_at "gs") => `(tactic| first | assumption | exact Sub.refl _ | exact sub_tr (by assumption) (by walk_at "gs") | exact sub_up (by assumption) (by walk_at "gs") (by walk_at "g0") | exact sub_ux (by assumption) (by walk_at "gs") (by walk_at "g0") | (refine Sub.new ?_ ?_; (focus walk_at "gs"); walk_at "g0"))
local macro_rules | `(tactic| walk_at "gk") => `(tactic| first | assumption | exact db_sub (by assumption) (by walk_at "gk") | exact db_upd (by assumption) (by walk_at "gk") ⟨_, by walk_at "gq"⟩ | exact db_updD (by assumption) (by walk_at "gk") ⟨_, by walk_at "gq"⟩)
local macro_rules | `(tactic| walk_at "gu") => `(tactic| first | assumption | exact Upd.refl _ _ | exact upd_in (by assumption) (by walk_at "gu"))
local macro_rules | `(tactic| walk_at "gx") => `(tactic| first | assumption | exact SubX.refl _ _ | exact subx_sub (by assumption) (by walk_at "gx") | exact subx_upd (by assumption) (by walk_at "gx") | exact subx_tr (by assumption) (by walk_at "gx"))
local macro_rules | `(tactic| walk_at "gn") => `(tactic| first | assumption | exact Ne.symm (by assumption) | exact ne_ns (by assumption) ⟨_, by walk_at "gq"⟩ | exact ne_sn (by assumption) ⟨_, by walk_at "gq"⟩)
local macro_rules | `(tactic| walk_at "g0") => `(tactic| first | assumption | exact nn_ (by assumption) (by walk_at "gs"))
theorem szWs_take (ws : List Wo) (i : Nat) : szWs (ws.take i) ≤ szWs ws ∧ dpWs (ws.take i) ≤ dpWs ws := by
  have e : ws = ws.take i ++ ws.drop i := by rw [List.take_append_drop]
  have e1 : szWs ws = szWs (ws.take i) + szWs (ws.drop i) := by rw [← szWs_app, List.take_append_drop]
  have e2 : dpWs ws = max (dpWs (ws.take i)) (dpWs (ws.drop i)) := by rw [← dpWs_app, List.take_append_drop]
  omega
def BKL : List Str := ["plus", "minus", "times", "less", "same", "do", "dip", "if", "while", "repeat", "join", "wrap", "put", "part", "each"]
def BT : Nat → Nat
  | 0 => 1
  | j + 1 => 24 + 6 * BT j
theorem BT_pos : ∀ j, 1 ≤ BT j
  | 0 => Nat.le_refl 1
  | j + 1 => by show 1 ≤ 24 + _; omega
theorem BT_2 {j : Nat} (h : j ≤ 2) : BT j ≤ 204 := by
  have : j = 0 ∨ j = 1 ∨ j = 2 := by omega
  rcases this with rfl | rfl | rfl <;> decide
def WD (z : Str) : Prop := z ∈ BKL ∨ ∃ n ps, z = shT n ps ∧ ShOk n ps
mutual
def okT : Th → Prop
  | .num n => NumOk n
  | .row ws => okWs ws
  | .lst ts => okTs ts
def okW : Wo → Prop
  | .txt z => WD z
  | .push t => okT t
def okWs : List Wo → Prop
  | [] => True
  | w :: r => okW w ∧ okWs r
def okTs : List Th → Prop
  | [] => True
  | t :: r => okT t ∧ okTs r
end
theorem okWs_of : ∀ {ws : List Wo}, (∀ w ∈ ws, okW w) → okWs ws
  | [], _ => trivial
  | w :: r, h => ⟨h w (List.mem_cons_self ..), okWs_of fun y hy => h y (List.mem_cons_of_mem _ hy)⟩
theorem okTs_of : ∀ {ws : List Th}, (∀ w ∈ ws, okT w) → okTs ws
  | [], _ => trivial
  | w :: r, h => ⟨h w (List.mem_cons_self ..), okTs_of fun y hy => h y (List.mem_cons_of_mem _ hy)⟩
def DT (j : Nat) (t : Th) : Prop := dpT t ≤ j ∧ szT t ≤ BT j ∧ okT t
def DW (j : Nat) (w : Wo) : Prop := dpW w ≤ j ∧ szW w ≤ 1 + BT j ∧ okW w
theorem szWs_le {j m : Nat} : ∀ {ws : List Wo}, (∀ w ∈ ws, DW j w) → ws.length ≤ m → szWs ws ≤ m * (1 + BT j) ∧ dpWs ws ≤ j
  | [], _, _ => ⟨Nat.zero_le _, Nat.zero_le _⟩
  | w :: r, h, l => by
    obtain ⟨m, rfl⟩ : ∃ n, m = n + 1 := ⟨m - 1, by rw [List.length_cons] at l; omega⟩
    obtain ⟨a, b⟩ := szWs_le (m := m) (ws := r) (fun w hw => h w (List.mem_cons_of_mem _ hw)) (by rw [List.length_cons] at l; omega)
    obtain ⟨c, d, _⟩ := h w (List.mem_cons_self ..)
    refine ⟨?_, ?_⟩
    · show szW w + szWs r ≤ _; rw [Nat.add_mul, Nat.one_mul]; omega
    · show max (dpW w) (dpWs r) ≤ j; omega
theorem szTs_le {j m : Nat} : ∀ {ts : List Th}, (∀ t ∈ ts, DT j t) → ts.length ≤ m → szTs ts ≤ m * BT j ∧ dpTs ts ≤ j
  | [], _, _ => ⟨Nat.zero_le _, Nat.zero_le _⟩
  | w :: r, h, l => by
    obtain ⟨m, rfl⟩ : ∃ n, m = n + 1 := ⟨m - 1, by rw [List.length_cons] at l; omega⟩
    obtain ⟨a, b⟩ := szTs_le (m := m) (ts := r) (fun w hw => h w (List.mem_cons_of_mem _ hw)) (by rw [List.length_cons] at l; omega)
    obtain ⟨c, d, _⟩ := h w (List.mem_cons_self ..)
    refine ⟨?_, ?_⟩
    · show szT w + szTs r ≤ _; rw [Nat.add_mul, Nat.one_mul]; omega
    · show max (dpT w) (dpTs r) ≤ j; omega
section
variable {P : Program} {w : World} {K : Frag} {mg : Str → Option Value} {base : Heap}
theorem all_size (a : At K mg "_law_size" s_L_size A_L_size) (B : BI mg) : ∀ k, Has P w K mg base (k + 1) "_law_size" A_L_size (SP_size k) := by
  intro k
  induction k with
  | zero =>
    refine at_mk a sc_L_size fun f cdv A outer s H E hr ds G R hl h => ?_
    rcases h with ⟨d, ts, _, _, dk, _⟩ | ⟨o, p, ws, _, _, _, dk, _⟩
    · exact absurd dk (Nat.not_lt_zero _)
    · exact absurd dk (Nat.not_lt_zero _)
  | succ k ih => exact h_L_size a B ih
def SP_cut (k : Nat) : DSp := fun ds G R => ∃ p ws m, ds = [.ref p, .int (m : Nat)] ∧ 1 ≤ m ∧ G p = some (.lst (eWs ws)) ∧ dpWs ws + 1 < k ∧ szWs ws ≤ 90000 ∧ ∀ i, 1 + szWs (ws.take i) ≤ m → R (.tup (eWs (ws.take i))) G
def SP_thing (k : Nat) : DSp := fun ds G R => ∃ d j, k = j + 1 ∧ j ≤ 2 ∧ ds = [.ref d, .int (j : Nat)] ∧ HasDb G d ∧ ∀ t, DT j t → R (eT t) G
def SP_word (k : Nat) : DSp := fun ds G R => ∃ d j, k = j + 1 ∧ j ≤ 2 ∧ ds = [.ref d, .int (j : Nat)] ∧ HasDb G d ∧ ∀ t, DW j t → R (eW t) G
abbrev A_L_thing : List Str := ["_law_deck_here", "_law_deep_here"]
abbrev A_L_any_word : List Str := ["_law_deck_here", "_law_deep_here"]
abbrev N_L_cut : List Str := ["_law_words", "_law_most"]
abbrev A_L_cut : List Str := ["_law_words", "_law_most"]
theorem sc_L_cut : FnScope N_L_cut A_L_cut (defScope s_L_cut) := ⟨rfl, rfl, rfl, by decide +kernel, rfl, by decide +kernel, by decide +kernel⟩
theorem h_L_cut {k : Nat} (a : At K mg "_law_cut" s_L_cut A_L_cut) (B : BI mg) (c_L_size : Has P w K mg base (k + 1) "_law_size" A_L_size (SP_size k)) : Has P w K mg base (k + 2) "_law_cut" A_L_cut (SP_cut k) := by
  refine at_mk a sc_L_cut fun f cdv A outer s H E hr ds G R hl h => ?_
  refine ⟨_, (dss_cons (ds_while PassesOwn.never (dt_cmp od_gt (de_call c_L_size (hr.mono (by omega)) rfl (da_cons (de_lst (da_cons (de_tup (da_cons de_str (da_cons (dv 0) da_nil))) da_nil)) da_nil)) (dv 1) (nomark _)) (dss_one (ds_set (i := 0) sc_L_cut.nd rfl (.inl rfl) (de_slice (dv 0) do_none (do_some (de_neg de_int))))))
    (dss_one (ds_ret (de_callTy cd_tuple B.tup rfl (by decide +kernel) (da_cons (dv 0) da_nil))))), ?_⟩
  obtain ⟨p, ws, m, rfl, hm, hp, dk, sz, q⟩ := h
  walk_at "dd"
  refine w_while (fun n δ G' => ∃ pw i, δ = [some (.ref pw), some (.int (m : Nat))] ∧ n = i ∧ i ≤ ws.length ∧ G' pw = some (.lst (eWs (ws.take i))) ∧ Sub G G') ws.length ⟨p, _, rfl, rfl, Nat.le_refl _, by rw [List.take_length]; exact hp, Sub.refl _⟩ ?_
  rintro n δ G' ⟨pw, i, rfl, rfl, hi, hpw, sG⟩
  obtain ⟨t1, t2⟩ := szWs_take ws n
  walk_at "dd"
  intro p1 np1
  refine abs_new np1 fun G1 s1 h1 => ?_
  walk_at "dd"
  refine .inr ⟨p1, pw, ws.take n, rfl, h1, s1 _ _ hpw, by omega, by omega, ?_⟩
  walk_at "dd"
  by_cases hl : (1 + szWs (ws.take n) : Nat) ≤ m
  · refine w_if0 (decide_eq_false (by omega)) ?_
    walk_at "dd"
    exact ⟨G, sG.trans s1, q n hl⟩
  · refine w_it (decide_eq_true (by omega)) ?_
    walk_at "dd"
    cases n with
    | zero => exact absurd hm (by intro; exact hl (by rw [List.take_zero]; exact hm))
    | succ n =>
      have hx : ws[n]? = some ws[n] := List.getElem?_eq_getElem (by omega)
      have e1 : ws.take (n + 1) = ws.take n ++ [ws[n]] := by rw [List.take_add_one, hx]; rfl
      have e2 : eWs (ws.take (n + 1)) = eWs (ws.take n) ++ [eW ws[n]] := by rw [e1, eWs_map, eWs_map, List.map_append]; rfl
      rw [e2] at hpw
      refine w_slL (s1 _ _ hpw) fun p3 np3 => ?_
      rw [cutD_last]
      refine abs_new np3 fun G3 s3 h3 => ?_
      walk_at "dd"
      exact ⟨n, by omega, p3, n, rfl, rfl, by omega, h3, sG.trans (s1.trans s3)⟩
abbrev N_L_thing : List Str := ["_law_deck_here", "_law_deep_here", "_law_way", "_law_some", "_law_k"]
theorem sc_L_thing : FnScope N_L_thing A_L_thing (defScope s_L_thing) := ⟨rfl, rfl, rfl, by decide +kernel, rfl, by decide +kernel, by decide +kernel⟩
theorem h_L_thing {k : Nat} (a : At K mg "_law_thing" s_L_thing A_L_thing) (B : BI mg) (c_L_draw : Has P w K mg base 2 "_law_draw" A_L_draw SP_drawB) (c_L_number : Has P w K mg base 3 "_law_number" A_L_number SP_num) (c_L_cut : Has P w K mg base 6 "_law_cut" A_L_cut (SP_cut 4)) (c_L_any_word : Has P w K mg base (2 * k + 8) "_law_any_word" A_L_any_word (SP_word k)) (c_L_thing : Has P w K mg base (2 * k + 7) "_law_thing" A_L_thing (SP_thing k)) : Has P w K mg base (2 * k + 9) "_law_thing" A_L_thing (SP_thing (k + 1)) := by
  refine at_mk a sc_L_thing fun f cdv A outer s H E hr ds G R hl h => ?_
  refine ⟨_, (dss_cons (ds_set (i := 2) sc_L_thing.nd rfl (.inl rfl) (de_call c_L_draw (hr.mono (by omega)) rfl (da_cons (dv 0) (da_cons de_int da_nil))))
    (dss_cons (ds_if (dt_w (dw_or (dt_cmp (od_eq hr.units) (dv 1) de_int (nomark _)) (dw_or1 (dt_cmp od_lt (dv 2) de_int (nomark _))))) (dss_one (ds_ret (de_tup (da_cons de_str (da_cons (de_call c_L_number (hr.mono (by omega)) rfl (da_cons (dv 0) da_nil)) da_nil))))) dss_nil)
    (dss_cons (ds_set (i := 3) sc_L_thing.nd rfl (.inl rfl) (de_ix (de_lst (da_cons (de_call c_L_draw (hr.mono (by omega)) rfl (da_cons (dv 0) (da_cons de_int da_nil))) (da_cons (de_call c_L_draw (hr.mono (by omega)) rfl (da_cons (dv 0) (da_cons de_int da_nil))) (da_cons (de_call c_L_draw (hr.mono (by omega)) rfl (da_cons (dv 0) (da_cons de_int da_nil))) da_nil)))) (de_call c_L_draw (hr.mono (by omega)) rfl (da_cons (dv 0) (da_cons de_int da_nil)))))
    (dss_cons (ds_if (dt_cmp od_lt (dv 2) de_int (nomark _)) (dss_one (ds_ret (de_tup (da_cons de_str (da_cons (de_call c_L_cut (hr.mono (by omega)) rfl (da_cons (de_lc (own := [("_law_k", 4)]) (lt1 (i := 4) (by decide)) rfl sc_L_thing.nd (di_range B.range rfl (da_cons (dv 3) da_nil)) (blkOk_by (own := [("_law_k", 4)]) (N := N_L_thing) (sc := defScope s_L_thing) (by decide +kernel)) (fun _ _ _ _ _ => pg_name (i := 4) sc_L_thing.nd rfl (Or.inl rfl)) (fun _ _ _ _ _ => dts_nil) (fun _ _ _ _ _ => (de_call c_L_any_word (hr.mono (by omega)) rfl (da_cons (dv 0) (da_cons (de_op od_sub (dv 1) de_int) da_nil))))) (da_cons de_int da_nil))) da_nil))))) dss_nil)
    (dss_one (ds_ret (de_tup (da_cons de_str (da_cons (de_callTy cd_tuple B.tup rfl (by decide +kernel) (da_cons (de_lc (own := [("_law_k", 4)]) (lt1 (i := 4) (by decide)) rfl sc_L_thing.nd (di_range B.range rfl (da_cons (dv 3) da_nil)) (blkOk_by (own := [("_law_k", 4)]) (N := N_L_thing) (sc := defScope s_L_thing) (by decide +kernel)) (fun _ _ _ _ _ => pg_name (i := 4) sc_L_thing.nd rfl (Or.inl rfl)) (fun _ _ _ _ _ => dts_nil) (fun _ _ _ _ _ => (de_call c_L_thing (hr.mono (by omega)) rfl (da_cons (dv 0) (da_cons (de_op od_sub (dv 1) de_int) da_nil))))) da_nil)) da_nil))))))))), ?_⟩
  obtain ⟨d, j, ej, hj2, rfl, hk, q⟩ := h
  obtain rfl : k = j := by omega
  have bp := BT_pos k
  walk_at "dd"
  refine ⟨d, 6, rfl, hk, by decide, by decide, fun r r0 r1 => ?_⟩
  walk_at "dd"
  refine w_iteD (fun _ => ?_) (fun h0 => ?_)
  · walk_at "dd"
    refine ⟨d, rfl, hk, fun r hr0 => ?_⟩
    walk_at "dd"
    exact Less.of (q (.num r) ⟨Nat.zero_le _, bp, hr0⟩)
  walk_at "dd"
  refine w_iteD (fun _ => ?_) (fun _ => ?_)
  · walk_at "dd"
    refine ⟨d, rfl, hk, fun r hr0 => ?_⟩
    walk_at "dd"
    exact Less.of (q (.num r) ⟨Nat.zero_le _, bp, hr0⟩)
  walk_at "dd"
  obtain ⟨j, rfl⟩ : ∃ j, k = j + 1 := ⟨k - 1, by omega⟩
  have ej : (((j + 1 : Nat) : Int) - 1) = (j : Nat) := by omega
  have eb : BT (j + 1) = 24 + 6 * BT j := rfl
  have bj := BT_2 (show j ≤ 2 by omega)
  refine ⟨d, 4, rfl, hk, by decide, by decide, fun r2 a2 b2 => ?_⟩
  walk_at "dd"
  refine ⟨d, 4, rfl, hk, by decide, by decide, fun r3 a3 b3 => ?_⟩
  walk_at "dd"
  refine ⟨d, 7, rfl, hk, by decide, by decide, fun r4 a4 b4 => ?_⟩
  walk_at "dd"
  intro p1 np1
  refine abs_new np1 fun G1 s1 h1 => ?_
  have hk1 : HasDb G1 d := by walk_at "gk"
  walk_at "dd"
  refine ⟨d, 3, rfl, hk1, by decide, by decide, fun r5 a5 b5 => ?_⟩
  obtain ⟨x, hx, ha⟩ := pick (xs := [DV.int r2, .int r3, .int r4]) (n := 3) a5 b5 rfl
  obtain ⟨m, rfl, hm⟩ : ∃ m : Nat, x = .int (m : Nat) ∧ m ≤ 6 := by
    simp only [List.mem_cons, List.not_mem_nil, or_false] at hx
    rcases hx with rfl | rfl | rfl
    · exact ⟨r2.toNat, by congr 1; omega, by omega⟩
    · exact ⟨r3.toNat, by congr 1; omega, by omega⟩
    · exact ⟨r4.toNat, by congr 1; omega, by omega⟩
  refine w_ixL h1 ha ?_
  walk_at "dd"
  refine w_iteD (fun _ => ?_) (fun _ => ?_)
  · walk_at "dd"
    refine wx_rng (by omega) (by omega) ?_
    refine lcs_each (fun i y => ∃ w, y = eW w ∧ DW j w) (fun _ _ => trivial) (by rw [rng_len]; omega) ?_ ?_
    · intro i y hy G' k1 k0 s' e1
      walk_at "dd"
      refine ⟨d, j, rfl, by omega, by rw [ej], hk1.sub s', fun w hw => ?_⟩
      exact e1 _ ⟨w, rfl, hw⟩
    intro p3 G3 acc n3 s3 h3 la he
    rw [rng_len] at la
    obtain ⟨ws, rfl, hws⟩ := acc_of he
    rw [List.length_map] at la
    rw [← eWs_map] at h3
    obtain ⟨z1, z2⟩ := szWs_le (m := 6) hws (by omega)
    walk_at "dd"
    refine ⟨p3, ws, 24, rfl, by decide, h3, by omega, by omega, fun i hi => ?_⟩
    obtain ⟨t1, t2⟩ := szWs_take ws i
    walk_at "dd"
    exact ⟨G, s1.trans s3, q (.row (ws.take i)) ⟨by show 1 + dpWs _ ≤ _; omega, by show 1 + szWs _ ≤ _; omega, okWs_of fun w hw => (hws w (List.mem_of_mem_take hw)).2.2⟩⟩
  · walk_at "dd"
    refine wx_rng (by omega) (by omega) ?_
    refine lcs_each (fun i y => ∃ w, y = eT w ∧ DT j w) (fun _ _ => trivial) (by rw [rng_len]; omega) ?_ ?_
    · intro i y hy G' k1 k0 s' e1
      walk_at "dd"
      refine ⟨d, j, rfl, by omega, by rw [ej], hk1.sub s', fun w hw => ?_⟩
      exact e1 _ ⟨w, rfl, hw⟩
    intro p3 G3 acc n3 s3 h3 la he
    rw [rng_len] at la
    obtain ⟨ts, rfl, hts⟩ := acc_of he
    rw [List.length_map] at la
    rw [← eTs_map] at h3
    obtain ⟨z1, z2⟩ := szTs_le (m := 6) hts (by omega)
    walk_at "dd"
    exact ⟨G, s1.trans s3, q (.lst ts) ⟨by show 1 + dpTs _ ≤ _; omega, by show 1 + szTs _ ≤ _; omega, okTs_of fun t ht => (hts t ht).2.2⟩⟩
abbrev N_L_any_word : List Str := ["_law_deck_here", "_law_deep_here", "_law_basic", "_law_way"]
theorem sc_L_any_word : FnScope N_L_any_word A_L_any_word (defScope s_L_any_word) := ⟨rfl, rfl, rfl, by decide +kernel, rfl, by decide +kernel, by decide +kernel⟩
theorem h_L_any_word {k : Nat} (a : At K mg "_law_any_word" s_L_any_word A_L_any_word) (B : BI mg) (c_L_draw : Has P w K mg base 2 "_law_draw" A_L_draw SP_drawB) (c_L_thing : Has P w K mg base (2 * k + 7) "_law_thing" A_L_thing (SP_thing k)) (c_L_shuffle : Has P w K mg base 3 "_law_shuffle" A_L_shuffle SP_shf) : Has P w K mg base (2 * k + 8) "_law_any_word" A_L_any_word (SP_word k) := by
  refine at_mk a sc_L_any_word fun f cdv A outer s H E hr ds G R hl h => ?_
  refine ⟨_, (dss_cons (ds_set (i := 2) sc_L_any_word.nd rfl (.inl rfl) (de_lst (da_cons de_str (da_cons de_str (da_cons de_str (da_cons de_str (da_cons de_str (da_cons de_str (da_cons de_str (da_cons de_str (da_cons de_str (da_cons de_str (da_cons de_str (da_cons de_str (da_cons de_str da_nil)))))))))))))))
    (dss_cons (ds_set (i := 3) sc_L_any_word.nd rfl (.inl rfl) (de_call c_L_draw (hr.mono (by omega)) rfl (da_cons (dv 0) (da_cons de_int da_nil))))
    (dss_cons (ds_if (dt_cmp od_lt (dv 3) de_int (nomark _)) (dss_one (ds_ret (de_tup (da_cons de_str (da_cons (de_call c_L_thing (hr.mono (by omega)) rfl (da_cons (dv 0) (da_cons (dv 1) da_nil))) da_nil))))) dss_nil)
    (dss_cons (ds_if (dt_cmp od_lt (dv 3) de_int (nomark _)) (dss_one (ds_ret (de_call c_L_shuffle (hr.mono (by omega)) rfl (da_cons (dv 0) (da_cons (de_ix (de_lst (da_cons de_int (da_cons de_int da_nil))) (de_op od_fdiv (de_call c_L_draw (hr.mono (by omega)) rfl (da_cons (dv 0) (da_cons de_int da_nil))) de_int)) da_nil))))) dss_nil)
    (dss_one (ds_ret (de_ix (de_op od_add (dv 2) (de_lst (da_cons de_str (da_cons de_str da_nil)))) (de_call c_L_draw (hr.mono (by omega)) rfl (da_cons (dv 0) (da_cons de_int da_nil)))))))))), ?_⟩
  obtain ⟨d, j, rfl, hj2, rfl, hk, q⟩ := h
  have bp := BT_pos j
  walk_at "dd"
  intro p1 np1
  refine abs_new np1 fun G1 s1 h1 => ?_
  have hk1 : HasDb G1 d := by walk_at "gk"
  walk_at "dd"
  refine ⟨d, 8, rfl, hk1, by decide, by decide, fun r r0 r1 => ?_⟩
  walk_at "dd"
  refine w_iteD (fun _ => ?_) (fun _ => ?_)
  · walk_at "dd"
    refine ⟨d, j, rfl, hj2, rfl, hk1, fun t ht => ?_⟩
    walk_at "dd"
    exact ⟨G, s1, q (.push t) ⟨by show dpT t ≤ j; exact ht.1, by show 1 + szT t ≤ _; have := ht.2.1; omega, ht.2.2⟩⟩
  walk_at "dd"
  refine w_iteD (fun _ => ?_) (fun _ => ?_)
  · walk_at "dd"
    intro p2 np2
    refine abs_new np2 fun G2 s2 h2 => ?_
    walk_at "dd"
    refine ⟨d, 8, rfl, by walk_at "gk", by decide, by decide, fun r2 a2 b2 => ?_⟩
    walk_at "dd"
    refine w_int (wide_div (by decide) (b := 3) (by omega) (by decide) (by decide)) ?_
    obtain ⟨m, hm, em⟩ : ∃ m : Nat, atI [DV.int 3, .int 8] (r2 / 7) = some (.int (m : Nat)) ∧ m ≤ 8 := by
      have : r2 / 7 = 0 ∨ r2 / 7 = 1 := by omega
      rcases this with h | h
      · rw [h]; exact ⟨3, rfl, by decide⟩
      · rw [h]; exact ⟨8, rfl, by decide⟩
    refine w_ixL h2 hm ?_
    walk_at "dd"
    refine ⟨d, m, rfl, em, by walk_at "gk", fun n ps ok => ?_⟩
    walk_at "dd"
    exact ⟨G, s1.trans s2, q (.txt (shT n ps)) ⟨Nat.zero_le _, by show 1 ≤ _; omega, .inr ⟨n, ps, rfl, ok⟩⟩⟩
  walk_at "dd"
  intro p2 np2
  refine abs_new np2 fun G2 s2 h2 => ?_
  refine w_addL (s2 _ _ h1) h2 (mid (by decide)) ?_
  intro p3 np3
  refine abs_new np3 fun G3 s3 h3 => ?_
  have h3 : G3 p3 = some (.lst (BKL.map .str)) := h3
  walk_at "dd"
  refine ⟨d, 15, rfl, by walk_at "gk", by decide, by decide, fun r2 a2 b2 => ?_⟩
  obtain ⟨x, hx, ha⟩ := pick (xs := BKL.map DV.str) (n := 15) a2 b2 rfl
  obtain ⟨z, hz, rfl⟩ := List.mem_map.mp hx
  refine w_ixL h3 ha ?_
  exact ⟨G, s1.trans (s2.trans s3), q (.txt z) ⟨Nat.zero_le _, by show 1 ≤ _; omega, .inl hz⟩⟩
end
end K64
set_option maxHeartbeats 1000000
namespace K64
open PySem PySem.W L2 SX Cm DD
local macro_rules | `(tactic| walk_at "d1") => `(tactic| first | (with_reducible refine w_go ?_) | ((with_reducible show dVar _ _ _ _); refine w_var rfl ?_) | (with_reducible refine w_exI ?_) | (with_reducible refine w_exB ?_) | (with_reducible refine w_exT ?_) | (with_reducible refine w_exS ?_) | (with_reducible refine w_parE ?_) | (with_reducible refine ly1 ?_) | (with_reducible refine ly2 ?_) | (with_reducible refine lt1' ?_) | (with_reducible refine lt2' ?_) | (with_reducible refine wx_enumT ?_) | (with_reducible refine w_callX ?_) | (with_reducible refine w_methX ?_) | (with_reducible refine w_raise ?_) | (with_reducible refine w_try ?_) | (with_reducible refine w_xSet ?_) | (with_reducible refine w_xExpr ?_) | (with_reducible refine w_xLst ?_) | (with_reducible refine w_xTup ?_) | (with_reducible refine w_xCons ?_) | (with_reducible refine w_xNil ?_) | (with_reducible refine w_xE ?_) | (with_reducible refine w_xCall ?_) | (with_reducible refine w_call0 ?_) | (with_reducible refine w_asgL ?_) | (with_reducible refine w_tupPd ?_) | (with_reducible refine wi_zip ?_) | (with_reducible refine w_delT ?_) | (with_reducible refine w_dc ?_) | (with_reducible refine w_revL ?_) | (with_reducible refine wi_revT ?_) | (with_reducible refine w_lstZip ?_) | (with_reducible refine w_chain ?_) | (with_reducible refine w_orT ?_) | ((with_reducible show gT _ _ _ _ _ _); refine g_T ?_ rfl) | ((with_reducible show ∃ p, DV.ref _ = _ ∧ (∃ kvs, _) ∧ _); refine wx_get (by walk_at "gq") ?_) | ((with_reducible show ∃ kvs z, _ = _ ∧ _ = some (DO.dct _) ∧ _); refine wx_get2 (by walk_at "gq") ?_) | ((with_reducible show ∃ p kvs z, _ = _ ∧ _ = _ ∧ _ = some (DO.dct _) ∧ _); refine wx_in (by walk_at "gq") ?_) | ((with_reducible show List.length _ = _ ∧ _); refine w_len ?_ rfl) | ((with_reducible show List.length _ ≤ sizeLine ∧ _); refine w_sz ?_ (szl rfl)) | ((with_reducible show bIx _ (.int _) _ _); first | refine w_ix0 ?_ | refine w_ix1 ?_ | refine w_ix2 ?_ | refine w_ix3 ?_) | ((with_reducible show bIsi [_, _] _ _); first | refine w_isi (by decide) (a := "tuple") rfl rfl ?_ | refine w_isi (by decide) (a := "str") rfl rfl ?_ | refine w_isi (by decide) (a := "int") rfl rfl ?_ | refine w_isi (by decide) (a := "bool") rfl rfl ?_ | refine w_isi (by decide) (a := "NoneType") rfl rfl ?_) | ((with_reducible show ∃ ds, _ = DV.tup ds ∧ _); refine w_exT ?_) | ((with_reducible show ∃ z, _ = DV.str z ∧ _); refine w_exS ?_) | ((with_reducible show ∃ ds, [_] = [DV.tup ds] ∧ _); refine wx_enumT ?_) | ((with_reducible show bSl _ _ _ _ _); refine w_slT ?_) | ((with_reducible show bTuple [_] _ _); refine w_tupT ?_) | ((with_reducible show bLen [_] _ _); refine w_lenT ?_) | ((with_reducible show bTru _ _ _); first | refine w_truT ?_ | refine w_truN ?_ | refine w_truB ?_ | refine w_truI ?_) | ((with_reducible show bEq _ _ _ _ _); first | refine w_eqSS ?_ | refine w_eqII ?_ | refine w_neSS ?_ | refine w_neII ?_ | refine w_eqT0 ?_) | ((with_reducible show bInt _ _ (.int _) (.int _) _ _); refine w_int (by first | decide | exact ⟨by decide, by decide, by decide⟩ | exact .inl ⟨by decide, by decide⟩ | exact .inr ⟨by decide, by decide⟩) ?_) | ((with_reducible show if _ = true then _ else _); first | refine w_it (by first | rfl | decide +kernel) ?_ | refine w_if0 (by first | rfl | decide +kernel) ?_) | ((with_reducible show rcv "list" (.ref _) _ ∧ _); refine w_rcvL (by walk_at "gq") ?_) | ((with_reducible show bTuple [.ref _] _ _); refine w_tupL (by walk_at "gq") ?_) | ((with_reducible show bLen [.ref _] _ _); refine w_lenL (by walk_at "gq") ?_) | ((with_reducible show bTru (.ref _) _ _); refine w_truL (by walk_at "gq") ?_) | ((with_reducible show ∃ _ _, DV.ref _ = _ ∧ Ls _ _ _ ∧ _); refine wx_lst (by walk_at "gq") ?_) | ((with_reducible show ∃ _ _, [DV.ref _] = _ ∧ Ls _ _ _ ∧ _); refine wx_lstA (by walk_at "gq") ?_))
local macro_rules | `(tactic| walk_at "dd") => `(tactic| repeat (walk_at "d1"))
local macro_rules | `(tactic| walk_at "gq") => `(tactic| first | assumption | exact dupd_same | exact sub_get (by assumption) (by walk_at "gq") | exact upd_get (by assumption) (by walk_at "gq") (by walk_at "gn") | exact subx_get (by assumption) (by walk_at "gq") (by walk_at "gn") | (refine (dupd_ne ?_).trans ?_; (focus walk_at "gn"); walk_at "gq"))
local macro_rules | `(tactic| walk_at "gs") => `(tactic| first | assumption | exact Sub.refl _ | exact sub_tr (by assumption) (by walk_at "gs") | exact sub_up (by assumption) (by walk_at "gs") (by walk_at "g0") | exact sub_ux (by assumption) (by walk_at "gs") (by walk_at "g0") | (refine Sub.new ?_ ?_; (focus walk_at "gs"); walk_at "g0"))
local macro_rules | `(tactic| walk_at "gk") => `(tactic| first | assumption | exact db_sub (by assumption) (by walk_at "gk") | exact db_upd (by assumption) (by walk_at "gk") ⟨_, by walk_at "gq"⟩ | exact db_updD (by assumption) (by walk_at "gk") ⟨_, by walk_at "gq"⟩)
local macro_rules | `(tactic| walk_at "gu") => `(tactic| first | assumption | exact Upd.refl _ _ | exact upd_in (by assumption) (by walk_at "gu"))
local macro_rules | `(tactic| walk_at "gx") => `(tactic| first | assumption | exact SubX.refl _ _ | exact subx_sub (by assumption) (by walk_at "gx") | exact subx_upd (by assumption) (by walk_at "gx") | exact subx_tr (by assumption) (by walk_at "gx"))
local macro_rules | `(tactic| walk_at "gn") => `(tactic| first | assumption | exact Ne.symm (by assumption) | exact ne_ns (by assumption) ⟨_, by walk_at "gq"⟩ | exact ne_sn (by assumption) ⟨_, by walk_at "gq"⟩)
local macro_rules | `(tactic| walk_at "g0") => `(tactic| first | assumption | exact nn_ (by assumption) (by walk_at "gs"))
/-- the sorts that the basic words take -/
def srtT : List (Str × List Str) := [((("plus" : Str)), ["number", "number"]), ("minus", ["number", "number"]), ("times", ["number", "number"]), ("less", ["number", "number"]), ("same", ["number", "number"]), ("do", ["row"]), ("dip", ["any", "row"]), ("if", ["number", "row", "row"]), ("while", ["row", "row"]), ("repeat", ["number", "row"]), ("join", ["row", "row"]), ("wrap", ["any"]), ("put", ["list", "any"]), ("part", ["list", "row", "row"]), ("each", ["list", "row"])]
def srt (z : Str) : List Str := (srtT.lookup z).getD []
def MAK : List Str := ["plus", "minus", "times", "less", "same", "put", "join", "wrap"]
mutual
def szD : DV → Nat
  | .tup ds => 1 + szDs ds
  | _ => 1
def szDs : List DV → Nat
  | [] => 0
  | d :: r => szD d + szDs r
end
theorem szDs_app : ∀ a b : List DV, szDs (a ++ b) = szDs a + szDs b
  | [], b => by show szDs b = 0 + szDs b; omega
  | d :: r, b => by show szD d + szDs (r ++ b) = szD d + szDs r + szDs b; rw [szDs_app r b]; omega
mutual
inductive Cd where
  | mk (t : Nat) (ops : List Op) (us : List Nat)
inductive Op where
  | push (t : Th)
  | mk (w : Str) (cs : List Nat)
  | ite (c : Nat) (as : List Nat) (a b : Cd)
end
def nI (n : Nat) : DV := .int (n : Int)
mutual
def eC : Cd → DV
  | .mk t ops us => .tup [.int (t : Int), .tup (eOs ops), .tup (us.map nI)]
def eO : Op → DV
  | .push t => .tup [.str "push", eT t]
  | .mk w cs => .tup (.str w :: cs.map nI)
  | .ite c as a b => .tup [.str "if", .int (c : Int), .tup (as.map nI), eC a, eC b]
def eOs : List Op → List DV
  | [] => []
  | o :: r => eO o :: eOs r
end
def tkC : Cd → Nat
  | .mk t _ _ => t
def usC : Cd → List Nat
  | .mk _ _ us => us
def opsC : Cd → List Op
  | .mk _ ops _ => ops
def made : Op → Nat
  | .ite _ _ a _ => (usC a).length
  | _ => 1
def fin : Nat → List Op → Nat
  | m, [] => m
  | m, o :: r => fin (m + made o) r
mutual
def okC : Cd → Prop
  | .mk t ops us => okOs t ops ∧ (∀ u ∈ us, u < fin t ops) ∧ fin t ops ≤ 90 ∧ ops.length ≤ 7 ∧ us.length ≤ 5
def okO : Nat → Op → Prop
  | _, .push t => okT t ∧ szT t ≤ 900 ∧ dpT t ≤ 9
  | m, .mk w cs => w ∈ MAK ∧ cs.length = (srt w).length ∧ ∀ c ∈ cs, c < m
  | m, .ite c as a b => c < m ∧ (∀ x ∈ as, x < m) ∧ as.length ≤ 3 ∧ tkC a = as.length ∧ tkC b = as.length ∧ (usC a).length = (usC b).length ∧ okC a ∧ okC b
def okOs : Nat → List Op → Prop
  | _, [] => True
  | m, o :: r => okO m o ∧ okOs (m + made o) r
end
theorem eOs_len : ∀ ops, (eOs ops).length = ops.length
  | [] => rfl
  | o :: r => congrArg (· + 1) (eOs_len r)
theorem eOs_map : ∀ ops, eOs ops = ops.map eO
  | [] => rfl
  | o :: r => by show eO o :: eOs r = _; rw [eOs_map r]; rfl
theorem mak_srt : ∀ z ∈ MAK, (srt z).length ≤ 2 ∧ z ≠ "push" ∧ z ≠ "if" := by decide +kernel
end K64
set_option maxHeartbeats 1000000
namespace K64
open PySem PySem.W L2 SX Cm DD
local macro_rules | `(tactic| walk_at "d1") => `(tactic| first | (with_reducible refine w_go ?_) | ((with_reducible show dVar _ _ _ _); refine w_var rfl ?_) | (with_reducible refine w_exI ?_) | (with_reducible refine w_exB ?_) | (with_reducible refine w_exT ?_) | (with_reducible refine w_exS ?_) | (with_reducible refine w_parE ?_) | (with_reducible refine ly1 ?_) | (with_reducible refine ly2 ?_) | (with_reducible refine lt1' ?_) | (with_reducible refine lt2' ?_) | (with_reducible refine wx_enumT ?_) | (with_reducible refine w_callX ?_) | (with_reducible refine w_methX ?_) | (with_reducible refine w_raise ?_) | (with_reducible refine w_try ?_) | (with_reducible refine w_xSet ?_) | (with_reducible refine w_xExpr ?_) | (with_reducible refine w_xLst ?_) | (with_reducible refine w_xTup ?_) | (with_reducible refine w_xCons ?_) | (with_reducible refine w_xNil ?_) | (with_reducible refine w_xE ?_) | (with_reducible refine w_xCall ?_) | (with_reducible refine w_call0 ?_) | (with_reducible refine w_asgL ?_) | (with_reducible refine w_tupPd ?_) | (with_reducible refine wi_zip ?_) | (with_reducible refine w_delT ?_) | (with_reducible refine w_dc ?_) | (with_reducible refine w_revL ?_) | (with_reducible refine wi_revT ?_) | (with_reducible refine w_lstZip ?_) | (with_reducible refine w_chain ?_) | (with_reducible refine w_orT ?_) | ((with_reducible show gT _ _ _ _ _ _); refine g_T ?_ rfl) | ((with_reducible show ∃ p, DV.ref _ = _ ∧ (∃ kvs, _) ∧ _); refine wx_get (by walk_at "gq") ?_) | ((with_reducible show ∃ kvs z, _ = _ ∧ _ = some (DO.dct _) ∧ _); refine wx_get2 (by walk_at "gq") ?_) | ((with_reducible show ∃ p kvs z, _ = _ ∧ _ = _ ∧ _ = some (DO.dct _) ∧ _); refine wx_in (by walk_at "gq") ?_) | ((with_reducible show List.length _ = _ ∧ _); refine w_len ?_ rfl) | ((with_reducible show List.length _ ≤ sizeLine ∧ _); refine w_sz ?_ (szl rfl)) | ((with_reducible show bIx _ (.int _) _ _); first | refine w_ix0 ?_ | refine w_ix1 ?_ | refine w_ix2 ?_ | refine w_ix3 ?_) | ((with_reducible show bIsi [_, _] _ _); first | refine w_isi (by decide) (a := "tuple") rfl rfl ?_ | refine w_isi (by decide) (a := "str") rfl rfl ?_ | refine w_isi (by decide) (a := "int") rfl rfl ?_ | refine w_isi (by decide) (a := "bool") rfl rfl ?_ | refine w_isi (by decide) (a := "NoneType") rfl rfl ?_) | ((with_reducible show ∃ ds, _ = DV.tup ds ∧ _); refine w_exT ?_) | ((with_reducible show ∃ z, _ = DV.str z ∧ _); refine w_exS ?_) | ((with_reducible show ∃ ds, [_] = [DV.tup ds] ∧ _); refine wx_enumT ?_) | ((with_reducible show bSl _ _ _ _ _); refine w_slT ?_) | ((with_reducible show bTuple [_] _ _); refine w_tupT ?_) | ((with_reducible show bLen [_] _ _); refine w_lenT ?_) | ((with_reducible show bTru _ _ _); first | refine w_truT ?_ | refine w_truN ?_ | refine w_truB ?_ | refine w_truI ?_) | ((with_reducible show bEq _ _ _ _ _); first | refine w_eqSS ?_ | refine w_eqII ?_ | refine w_neSS ?_ | refine w_neII ?_ | refine w_eqT0 ?_) | ((with_reducible show bInt _ _ (.int _) (.int _) _ _); refine w_int (by first | decide | exact ⟨by decide, by decide, by decide⟩ | exact .inl ⟨by decide, by decide⟩ | exact .inr ⟨by decide, by decide⟩) ?_) | ((with_reducible show if _ = true then _ else _); first | refine w_it (by first | rfl | decide +kernel) ?_ | refine w_if0 (by first | rfl | decide +kernel) ?_) | ((with_reducible show rcv "list" (.ref _) _ ∧ _); refine w_rcvL (by walk_at "gq") ?_) | ((with_reducible show bTuple [.ref _] _ _); refine w_tupL (by walk_at "gq") ?_) | ((with_reducible show bLen [.ref _] _ _); refine w_lenL (by walk_at "gq") ?_) | ((with_reducible show bTru (.ref _) _ _); refine w_truL (by walk_at "gq") ?_) | ((with_reducible show ∃ _ _, DV.ref _ = _ ∧ Ls _ _ _ ∧ _); refine wx_lst (by walk_at "gq") ?_) | ((with_reducible show ∃ _ _, [DV.ref _] = _ ∧ Ls _ _ _ ∧ _); refine wx_lstA (by walk_at "gq") ?_))
local macro_rules | `(tactic| walk_at "dd") => `(tactic| repeat (walk_at "d1"))
local macro_rules | `(tactic| walk_at "gq") => `(tactic| first | assumption | exact dupd_same | exact sub_get (by assumption) (by walk_at "gq") | exact upd_get (by assumption) (by walk_at "gq") (by walk_at "gn") | exact subx_get (by assumption) (by walk_at "gq") (by walk_at "gn") | (refine (dupd_ne ?_).trans ?_; (focus walk_at "gn"); walk_at "gq"))
local macro_rules | `(tactic| walk_at "gs") => `(tactic| first | assumption | exact Sub.refl _ | exact sub_tr (by assumption) (by walk_at "gs") | exact sub_up (by assumption) (by walk_at "gs") (by walk_at "g0") | exact sub_ux (by assumption) (by walk_at "gs") (by walk_at "g0") | (refine Sub.new ?_ ?_; (focus walk_at "gs"); walk_at "g0"))
local macro_rules | `(tactic| walk_at "gk") => `(tactic| first | assumption | exact db_sub (by assumption) (by walk_at "gk") | exact db_upd (by assumption) (by walk_at "gk") ⟨_, by walk_at "gq"⟩ | exact db_updD (by assumption) (by walk_at "gk") ⟨_, by walk_at "gq"⟩)
local macro_rules | `(tactic| walk_at "gu") => `(tactic| first | assumption | exact Upd.refl _ _ | exact upd_in (by assumption) (by walk_at "gu"))
local macro_rules | `(tactic| walk_at "gx") => `(tactic| first | assumption | exact SubX.refl _ _ | exact subx_sub (by assumption) (by walk_at "gx") | exact subx_upd (by assumption) (by walk_at "gx") | exact subx_tr (by assumption) (by walk_at "gx"))
local macro_rules | `(tactic| walk_at "gn") => `(tactic| first | assumption | exact Ne.symm (by assumption) | exact ne_ns (by assumption) ⟨_, by walk_at "gq"⟩ | exact ne_sn (by assumption) ⟨_, by walk_at "gq"⟩)
local macro_rules | `(tactic| walk_at "g0") => `(tactic| first | assumption | exact nn_ (by assumption) (by walk_at "gs"))
mutual
/-- how deep codes are nested -/
def nC : Cd → Nat
  | .mk _ ops _ => nOs ops
def nO : Op → Nat
  | .push _ => 0
  | .mk _ _ => 0
  | .ite _ _ a b => 1 + max (nC a) (nC b)
def nOs : List Op → Nat
  | [] => 0
  | o :: r => max (nO o) (nOs r)
end
theorem nOs_snoc : ∀ (ops : List Op) (o : Op), nOs (ops ++ [o]) = max (nOs ops) (nO o)
  | [], o => by show max (nO o) 0 = max 0 (nO o); omega
  | p :: r, o => by show max (nO p) (nOs (r ++ [o])) = max (max (nO p) (nOs r)) (nO o); rw [nOs_snoc r o]; omega
mutual
theorem szD_T : ∀ t : Th, szD (eT t) ≤ 3 * szT t
  | .num _ => Nat.le_refl 3
  | .row ws => by have := szD_Ws ws; show 1 + (1 + ((1 + szDs (eWs ws)) + 0)) ≤ 3 * (1 + szWs ws); omega
  | .lst ts => by have := szD_Ts ts; show 1 + (1 + ((1 + szDs (eTs ts)) + 0)) ≤ 3 * (1 + szTs ts); omega
theorem szD_W : ∀ w : Wo, szD (eW w) ≤ 3 * szW w
  | .txt _ => by show 1 ≤ 3 * 1; omega
  | .push t => by have := szD_T t; show 1 + (1 + (szD (eT t) + 0)) ≤ 3 * (1 + szT t); omega
theorem szD_Ws : ∀ ws : List Wo, szDs (eWs ws) ≤ 3 * szWs ws
  | [] => Nat.le_refl 0
  | w :: r => by have := szD_W w; have := szD_Ws r; show szD (eW w) + szDs (eWs r) ≤ 3 * (szW w + szWs r); omega
theorem szD_Ts : ∀ ts : List Th, szDs (eTs ts) ≤ 3 * szTs ts
  | [] => Nat.le_refl 0
  | w :: r => by have := szD_T w; have := szD_Ts r; show szD (eT w) + szDs (eTs r) ≤ 3 * (szT w + szTs r); omega
end
theorem szD_nI : ∀ cs : List Nat, szDs (cs.map nI) = cs.length
  | [] => rfl
  | c :: r => by have := szD_nI r; show 1 + szDs (r.map nI) = r.length + 1; omega
mutual
/-- bounds of drawn ops and codes -/
def BO : Nat → Nat
  | 0 => 1200
  | j + 1 => 2 * BC j + 1200
def BC : Nat → Nat
  | 0 => 8500
  | j + 1 => 7 * (2 * BC j + 1200) + 100
end
theorem BC_eq : ∀ j, BC j = 7 * BO j + 100
  | 0 => rfl
  | _ + 1 => rfl
theorem BO_ge : ∀ j, 1200 ≤ BO j
  | 0 => Nat.le_refl _
  | j + 1 => by show 1200 ≤ 2 * BC j + 1200; omega
theorem fin_snoc : ∀ (ops : List Op) (m : Nat) (o : Op), fin m (ops ++ [o]) = fin m ops + made o
  | [], m, o => rfl
  | p :: r, m, o => fin_snoc r (m + made p) o
theorem okOs_snoc : ∀ {ops : List Op} {m : Nat} {o : Op}, okOs m ops → okO (fin m ops) o → okOs m (ops ++ [o])
  | [], m, o, _, h => ⟨h, trivial⟩
  | p :: r, m, o, h, g => ⟨h.1, okOs_snoc h.2 g⟩
theorem atI_end {xs : List DV} {v : DV} : atI (xs ++ [v]) (-1) = some v := by
  have h : ixN (xs ++ [v]).length (-1) = some xs.length := by
    unfold ixN
    rw [List.length_append, List.length_singleton]
    simp
    omega
  unfold atI
  rw [h]
  show (xs ++ [v])[xs.length]? = some v
  rw [List.getElem?_append_right (Nat.le_refl _), Nat.sub_self]; rfl
theorem srt_wrap : (srt "wrap").length = 1 := by decide +kernel
def WL : List Str := ["push", "plus", "minus", "times", "less", "same", "put", "join", "wrap", "if", "if"]
theorem wl_two : ∀ z ∈ WL, z ≠ "push" → z ≠ "wrap" → z ≠ "if" → z ∈ MAK ∧ (srt z).length = 2 := by decide +kernel
section
variable {P : Program} {w : World} {K : Frag} {mg : Str → Option Value} {base : Heap}
def SP_mde : DSp := fun ds G R => ∃ o m, ds = [eO o] ∧ okO m o ∧ R (.int ((made o : Nat) : Int)) G
def SP_lop (k : Nat) : DSp := fun ds G R => ∃ d m j, k = j + 1 ∧ j ≤ 2 ∧ ds = [.ref d, .int ((m : Nat) : Int), .int ((j : Nat) : Int)] ∧ m ≤ 90 ∧ HasDb G d ∧ ∀ o, okO m o → made o ≤ 3 → szD (eO o) ≤ BO j → nO o ≤ j → R (eO o) G
def SP_lcode (k : Nat) : DSp := fun ds G R => ∃ d t wd j, k = j + 1 ∧ j ≤ 2 ∧ ds = [.ref d, .int ((t : Nat) : Int), .int ((wd : Nat) : Int), .int ((j : Nat) : Int)] ∧ t ≤ 4 ∧ wd ≤ 5 ∧ HasDb G d ∧ ∀ cd, okC cd → tkC cd = t → (usC cd).length = wd → szD (eC cd) ≤ BC j → nC cd ≤ j → R (eC cd) G
abbrev A_L_op : List Str := ["_law_deck_here", "_law_many", "_law_deep_here"]
abbrev A_L_code : List Str := ["_law_deck_here", "_law_takes", "_law_wide", "_law_deep_here"]
abbrev N_L_made : List Str := ["_law_op_here"]
abbrev A_L_made : List Str := ["_law_op_here"]
theorem sc_L_made : FnScope N_L_made A_L_made (defScope s_L_made) := ⟨rfl, rfl, rfl, by decide +kernel, rfl, by decide +kernel, by decide +kernel⟩
theorem h_L_made (a : At K mg "_law_made" s_L_made A_L_made) (B : BI mg) : Has P w K mg base 1 "_law_made" A_L_made SP_mde := by
  refine at_mk a sc_L_made fun f cdv A outer s H E hr ds G R hl h => ?_
  refine ⟨_, (dss_cons (ds_if (dt_cmp (od_eq hr.units) (de_ix (dv 0) de_int) de_str (nomark _)) (dss_one (ds_ret (de_callB cd_len B.len rfl (by decide +kernel) (da_cons (de_ix (de_ix (dv 0) de_int) de_int) da_nil)))) dss_nil)
    (dss_one (ds_ret de_int))), ?_⟩
  obtain ⟨o, m, rfl, ho, q⟩ := h
  cases o with
  | push t =>
    have e : eO (.push t) = .tup [.str "push", eT t] := rfl
    rw [e]
    walk_at "dd"
    exact Less.of q
  | mk w' cs =>
    have e : eO (.mk w' cs) = .tup (.str w' :: cs.map nI) := rfl
    rw [e]
    walk_at "dd"
    refine w_if0 (decide_eq_false (mak_srt w' ho.1).2.2) ?_
    walk_at "dd"
    exact Less.of q
  | ite c' as a' b' =>
    cases a' with
    | mk t ops us =>
      have e : eO (.ite c' as (.mk t ops us) b') = .tup [.str "if", .int (c' : Int), .tup (as.map nI), .tup [.int (t : Int), .tup (eOs ops), .tup (us.map nI)], eC b'] := rfl
      rw [e]
      walk_at "dd"
      rw [List.length_map]
      exact Less.of q
abbrev N_L_op : List Str := ["_law_deck_here", "_law_many", "_law_deep_here", "_law_word", "_law_k", "_law_args", "_law_wide", "_law_sides"]
theorem sc_L_op : FnScope N_L_op A_L_op (defScope s_L_op) := ⟨rfl, rfl, rfl, by decide +kernel, rfl, by decide +kernel, by decide +kernel⟩
theorem h_L_op {k : Nat} (a : At K mg "_law_op" s_L_op A_L_op) (B : BI mg) (c_L_draw : Has P w K mg base 2 "_law_draw" A_L_draw SP_drawB) (c_L_thing : Has P w K mg base 13 "_law_thing" A_L_thing (SP_thing 3)) (c_L_code : Has P w K mg base (2 * k + 13) "_law_code" A_L_code (SP_lcode k)) : Has P w K mg base (2 * k + 14) "_law_op" A_L_op (SP_lop (k + 1)) := by
  refine at_mk a sc_L_op fun f cdv A outer s H E hr ds G R hl h => ?_
  refine ⟨_, (dss_cons (ds_set (i := 3) sc_L_op.nd rfl (.inl rfl) (de_ix (de_lst (da_cons de_str (da_cons de_str (da_cons de_str (da_cons de_str (da_cons de_str (da_cons de_str (da_cons de_str (da_cons de_str (da_cons de_str (da_cons de_str (da_cons de_str da_nil)))))))))))) (de_call c_L_draw (hr.mono (by omega)) rfl (da_cons (dv 0) (da_cons de_int da_nil)))))
    (dss_cons (ds_if (dt_w (dw_or (dt_cmp (od_eq hr.units) (dv 1) de_int (nomark _)) (dw_or (dt_cmp (od_eq hr.units) (dv 3) de_str (nomark _)) (dw_or1 (dt_w (dw_and (dt_cmp (od_eq hr.units) (dv 3) de_str (nomark _)) (dw_and1 (dt_cmp (od_eq hr.units) (dv 2) de_int (nomark _))))))))) (dss_one (ds_ret (de_tup (da_cons de_str (da_cons (de_call c_L_thing (hr.mono (by omega)) rfl (da_cons (dv 0) (da_cons de_int da_nil))) da_nil))))) dss_nil)
    (dss_cons (ds_if (dt_cmp (od_eq hr.units) (dv 3) de_str (nomark _)) (dss_one (ds_ret (de_tup (da_cons (dv 3) (da_cons (de_call c_L_draw (hr.mono (by omega)) rfl (da_cons (dv 0) (da_cons (dv 1) da_nil))) da_nil))))) dss_nil)
    (dss_cons (ds_if (dt_cmp (od_ne hr.units) (dv 3) de_str (nomark _)) (dss_one (ds_ret (de_tup (da_cons (dv 3) (da_cons (de_call c_L_draw (hr.mono (by omega)) rfl (da_cons (dv 0) (da_cons (dv 1) da_nil))) (da_cons (de_call c_L_draw (hr.mono (by omega)) rfl (da_cons (dv 0) (da_cons (dv 1) da_nil))) da_nil)))))) dss_nil)
    (dss_cons (ds_set (i := 5) sc_L_op.nd rfl (.inr rfl) (de_callTy cd_tuple B.tup rfl (by decide +kernel) (da_cons (de_lc (own := [("_law_k", 4)]) (lt1 (i := 4) (by decide)) rfl sc_L_op.nd (di_range B.range rfl (da_cons (de_call c_L_draw (hr.mono (by omega)) rfl (da_cons (dv 0) (da_cons de_int da_nil))) da_nil)) (blkOk_by (own := [("_law_k", 4)]) (N := N_L_op) (sc := defScope s_L_op) (by decide +kernel)) (fun _ _ _ _ _ => pg_name (i := 4) sc_L_op.nd rfl (Or.inl rfl)) (fun _ _ _ _ _ => dts_nil) (fun _ _ _ _ _ => (de_call c_L_draw (hr.mono (by omega)) rfl (da_cons (dv 0) (da_cons (dv 1) da_nil))))) da_nil)))
    (dss_cons (ds_set (i := 6) sc_L_op.nd rfl (.inr rfl) (de_call c_L_draw (hr.mono (by omega)) rfl (da_cons (dv 0) (da_cons de_int da_nil))))
    (dss_cons (ds_setLc (i := 7) (own := [("_law_k", 4)]) (lt1 (i := 4) (by decide)) rfl sc_L_op.nd rfl rfl (sw_true rfl rfl rfl (by decide +kernel)) (di_range B.range rfl (da_cons de_int da_nil)) (blkOk_by (own := [("_law_k", 4)]) (N := N_L_op) (sc := defScope s_L_op) (by decide +kernel)) (fun _ _ _ _ _ => pg_name (i := 4) sc_L_op.nd rfl (Or.inl rfl)) (fun _ _ _ _ _ => dts_nil) (fun _ _ _ _ _ => (de_call c_L_code (hr.mono (by omega)) rfl (da_cons (dv 0) (da_cons (de_callB cd_len B.len rfl (by decide +kernel) (da_cons (dv 5) da_nil)) (da_cons (dv 6) (da_cons (de_op od_sub (dv 2) de_int) da_nil)))))))
    (dss_one (ds_ret (de_tup (da_cons (dv 3) (da_cons (de_call c_L_draw (hr.mono (by omega)) rfl (da_cons (dv 0) (da_cons (dv 1) da_nil))) (da_cons (dv 5) (da_cons (de_ix (dv 7) de_int) (da_cons (de_ix (dv 7) de_int) da_nil))))))))))))))), ?_⟩
  obtain ⟨d, m, j, ej, hj2, rfl, hm, hk, q⟩ := h
  obtain rfl : j = k := by omega
  walk_at "dd"
  intro p1 np1
  refine abs_new np1 fun G1 s1 h1 => ?_
  have h1 : G1 p1 = some (.lst (WL.map DV.str)) := h1
  have hk1 : HasDb G1 d := by walk_at "gk"
  walk_at "dd"
  refine ⟨d, 11, rfl, hk1, by decide, by decide, fun r r0 r1 => ?_⟩
  obtain ⟨x, hx, ha⟩ := pick (xs := WL.map DV.str) (n := 11) r0 r1 rfl
  obtain ⟨z, hz, rfl⟩ := List.mem_map.mp hx
  refine w_ixL h1 ha ?_
  walk_at "dd"
  by_cases m0 : m = 0
  · refine w_it (decide_eq_true (by omega)) ?_
    walk_at "dd"
    refine ⟨d, 2, rfl, by decide, rfl, by walk_at "gk", fun t ht => ?_⟩
    have zt := szD_T t
    have b2 := BT_2 (j := 2) (by decide)
    walk_at "dd"
    exact ⟨G, s1, q (.push t) ⟨ht.2.2, by have := ht.2.1; omega, by have := ht.1; omega⟩ (show 1 ≤ 3 by decide) (by show 1 + (1 + (szD (eT t) + 0)) ≤ _; have := ht.2.1; have := BO_ge j; omega) (Nat.zero_le _)⟩
  refine w_if0 (decide_eq_false (by omega)) ?_
  walk_at "dd"
  by_cases zp : z = "push"
  · refine w_it (decide_eq_true zp) ?_
    walk_at "dd"
    refine ⟨d, 2, rfl, by decide, rfl, by walk_at "gk", fun t ht => ?_⟩
    have zt := szD_T t
    have b2 := BT_2 (j := 2) (by decide)
    walk_at "dd"
    exact ⟨G, s1, q (.push t) ⟨ht.2.2, by have := ht.2.1; omega, by have := ht.1; omega⟩ (show 1 ≤ 3 by decide) (by show 1 + (1 + (szD (eT t) + 0)) ≤ _; have := ht.2.1; have := BO_ge j; omega) (Nat.zero_le _)⟩
  refine w_if0 (decide_eq_false zp) ?_
  walk_at "dd"
  by_cases zi : z = "if"
  · refine w_it (decide_eq_true zi) ?_
    walk_at "dd"
    by_cases j0 : j = 0
    · refine w_it (decide_eq_true (by omega)) ?_
      walk_at "dd"
      refine ⟨d, 2, rfl, by decide, rfl, by walk_at "gk", fun t ht => ?_⟩
      have zt := szD_T t
      have b2 := BT_2 (j := 2) (by decide)
      walk_at "dd"
      exact ⟨G, s1, q (.push t) ⟨ht.2.2, by have := ht.2.1; omega, by have := ht.1; omega⟩ (show 1 ≤ 3 by decide) (by show 1 + (1 + (szD (eT t) + 0)) ≤ _; have := ht.2.1; have := BO_ge j; omega) (Nat.zero_le _)⟩
    refine w_if0 (decide_eq_false (by omega)) ?_
    walk_at "dd"
    refine w_if0 (decide_eq_false (by rw [zi]; decide +kernel)) ?_
    walk_at "dd"
    refine w_if0 (by rw [zi]; decide +kernel) ?_
    walk_at "dd"
    obtain ⟨j, rfl⟩ : ∃ i, j = i + 1 := ⟨j - 1, by omega⟩
    refine ⟨d, 4, rfl, hk1, by decide, by decide, fun r2 a2 b2 => ?_⟩
    walk_at "dd"
    refine wx_rng (by omega) (by omega) ?_
    refine lcs_each (fun _ y => ∃ u : Nat, y = nI u ∧ u < m) (fun _ _ => trivial) (by rw [rng_len]; omega) ?_ ?_
    · intro i y hy G' k1 k0 s' e1
      walk_at "dd"
      refine ⟨d, m, rfl, by walk_at "gk", by omega, by omega, fun u u0 u1 => ?_⟩
      obtain ⟨u, rfl⟩ := Int.eq_ofNat_of_zero_le u0
      exact e1 _ ⟨u, rfl, by omega⟩
    intro p3 G3 acc n3 s3 h3 la he
    rw [rng_len] at la
    obtain ⟨as, rfl, has⟩ := acc_of he
    rw [List.length_map] at la
    have las : as.length ≤ 3 := by omega
    have hk3 : HasDb G3 d := by walk_at "gk"
    clear he
    walk_at "dd"
    refine ⟨d, 4, rfl, hk3, by decide, by decide, fun r3 a3 b3 => ?_⟩
    obtain ⟨wd, rfl⟩ := Int.eq_ofNat_of_zero_le a3
    walk_at "dd"
    refine wx_rng (by decide) (by decide) ?_
    refine lcs_each (fun _ y => ∃ cd : Cd, y = eC cd ∧ (okC cd ∧ tkC cd = as.length ∧ (usC cd).length = wd ∧ szD (eC cd) ≤ BC j ∧ nC cd ≤ j)) (fun _ _ => trivial) (by rw [rng_len]; decide) ?_ ?_
    · intro i y hy G' k1 k0 s' e1
      walk_at "dd"
      refine ⟨d, as.length, wd, j, rfl, by omega, ?_, by omega, by omega, by walk_at "gk", fun cd h1 h2 h3 h4 h5 => e1 _ ⟨cd, rfl, h1, h2, h3, h4, h5⟩⟩
      rw [List.length_map, show (((j + 1 : Nat) : Int) - 1) = ((j : Nat) : Int) from by omega]
    intro p4 G4 acc n4 s4 h4 la he
    rw [rng_len] at la
    obtain ⟨cds, rfl, hcs⟩ := acc_of he
    rw [List.length_map] at la
    obtain ⟨a', b', rfl⟩ : ∃ a' b', cds = [a', b'] := by
      match cds, la with
      | [x, y], _ => exact ⟨x, y, rfl⟩
    obtain ⟨oa, ta, ua, za, na⟩ := hcs a' (List.mem_cons_self ..)
    obtain ⟨ob, tb, ub, zb, nb⟩ := hcs b' (List.mem_cons_of_mem _ (List.mem_cons_self ..))
    clear he hcs
    have hk4 : HasDb G4 d := by walk_at "gk"
    walk_at "dd"
    refine ⟨d, m, rfl, hk4, by omega, by omega, fun u u0 u1 => ?_⟩
    obtain ⟨u, rfl⟩ := Int.eq_ofNat_of_zero_le u0
    walk_at "dd"
    have h4 : G4 p4 = some (.lst [eC a', eC b']) := h4
    refine w_ixL h4 (atI_nat (j := 0) rfl) ?_
    walk_at "dd"
    refine w_ixL h4 (atI_nat (j := 1) rfl) ?_
    walk_at "dd"
    rw [zi]
    refine ⟨G, by walk_at "gs", q (.ite u as a' b') ⟨by omega, has, las, ta, tb, by rw [ua, ub], oa, ob⟩ (by show (usC a').length ≤ 3; omega) ?_ (by show 1 + max (nC a') (nC b') ≤ j + 1; omega)⟩
    show 1 + (1 + (1 + ((1 + szDs (as.map nI)) + (szD (eC a') + (szD (eC b') + 0))))) ≤ 2 * BC j + 1200
    rw [szD_nI]; omega
  refine w_if0 (decide_eq_false zi) ?_
  walk_at "dd"
  by_cases zw : z = "wrap"
  · refine w_it (decide_eq_true zw) ?_
    walk_at "dd"
    refine ⟨d, m, rfl, hk1, by omega, by omega, fun u u0 u1 => ?_⟩
    obtain ⟨u, rfl⟩ := Int.eq_ofNat_of_zero_le u0
    walk_at "dd"
    exact ⟨G, s1, q (.mk z [u]) ⟨by rw [zw]; decide +kernel, by rw [zw, srt_wrap]; rfl, fun x hx => by rw [List.mem_singleton.mp hx]; omega⟩ (show 1 ≤ 3 by decide) (by show 1 + (1 + (1 + 0)) ≤ _; have := BO_ge j; omega) (Nat.zero_le _)⟩
  refine w_if0 (decide_eq_false zw) ?_
  walk_at "dd"
  refine w_it (by show (!decide (z = "if")) = true; rw [decide_eq_false zi]; rfl) ?_
  walk_at "dd"
  refine ⟨d, m, rfl, hk1, by omega, by omega, fun u u0 u1 => ?_⟩
  obtain ⟨u, rfl⟩ := Int.eq_ofNat_of_zero_le u0
  walk_at "dd"
  refine ⟨d, m, rfl, hk1, by omega, by omega, fun v v0 v1 => ?_⟩
  obtain ⟨v, rfl⟩ := Int.eq_ofNat_of_zero_le v0
  walk_at "dd"
  obtain ⟨zm, z2⟩ := wl_two z hz zp zw zi
  exact ⟨G, s1, q (.mk z [u, v]) ⟨zm, by rw [z2]; rfl, fun x hx => by
    rcases List.mem_cons.mp hx with rfl | hx
    · omega
    · rw [List.mem_singleton.mp hx]; omega⟩ (show 1 ≤ 3 by decide) (by show 1 + (1 + (1 + (1 + 0))) ≤ _; have := BO_ge j; omega) (Nat.zero_le _)⟩
end
end K64
set_option maxHeartbeats 1000000
namespace K64
open PySem PySem.W L2 SX Cm DD
local macro_rules | `(tactic| walk_at "d1") => `(tactic| first | (with_reducible refine w_go ?_) | ((with_reducible show dVar _ _ _ _); refine w_var rfl ?_) | (with_reducible refine w_exI ?_) | (with_reducible refine w_exB ?_) | (with_reducible refine w_exT ?_) | (with_reducible refine w_exS ?_) | (with_reducible refine w_parE ?_) | (with_reducible refine ly1 ?_) | (with_reducible refine ly2 ?_) | (with_reducible refine lt1' ?_) | (with_reducible refine lt2' ?_) | (with_reducible refine wx_enumT ?_) | (with_reducible refine w_callX ?_) | (with_reducible refine w_methX ?_) | (with_reducible refine w_raise ?_) | (with_reducible refine w_try ?_) | (with_reducible refine w_xSet ?_) | (with_reducible refine w_xExpr ?_) | (with_reducible refine w_xLst ?_) | (with_reducible refine w_xTup ?_) | (with_reducible refine w_xCons ?_) | (with_reducible refine w_xNil ?_) | (with_reducible refine w_xE ?_) | (with_reducible refine w_xCall ?_) | (with_reducible refine w_call0 ?_) | (with_reducible refine w_asgL ?_) | (with_reducible refine w_tupPd ?_) | (with_reducible refine wi_zip ?_) | (with_reducible refine w_delT ?_) | (with_reducible refine w_dc ?_) | (with_reducible refine w_revL ?_) | (with_reducible refine wi_revT ?_) | (with_reducible refine w_lstZip ?_) | (with_reducible refine w_chain ?_) | (with_reducible refine w_orT ?_) | ((with_reducible show gT _ _ _ _ _ _); refine g_T ?_ rfl) | ((with_reducible show ∃ p, DV.ref _ = _ ∧ (∃ kvs, _) ∧ _); refine wx_get (by walk_at "gq") ?_) | ((with_reducible show ∃ kvs z, _ = _ ∧ _ = some (DO.dct _) ∧ _); refine wx_get2 (by walk_at "gq") ?_) | ((with_reducible show ∃ p kvs z, _ = _ ∧ _ = _ ∧ _ = some (DO.dct _) ∧ _); refine wx_in (by walk_at "gq") ?_) | ((with_reducible show List.length _ = _ ∧ _); refine w_len ?_ rfl) | ((with_reducible show List.length _ ≤ sizeLine ∧ _); refine w_sz ?_ (szl rfl)) | ((with_reducible show bIx _ (.int _) _ _); first | refine w_ix0 ?_ | refine w_ix1 ?_ | refine w_ix2 ?_ | refine w_ix3 ?_) | ((with_reducible show bIsi [_, _] _ _); first | refine w_isi (by decide) (a := "tuple") rfl rfl ?_ | refine w_isi (by decide) (a := "str") rfl rfl ?_ | refine w_isi (by decide) (a := "int") rfl rfl ?_ | refine w_isi (by decide) (a := "bool") rfl rfl ?_ | refine w_isi (by decide) (a := "NoneType") rfl rfl ?_) | ((with_reducible show ∃ ds, _ = DV.tup ds ∧ _); refine w_exT ?_) | ((with_reducible show ∃ z, _ = DV.str z ∧ _); refine w_exS ?_) | ((with_reducible show ∃ ds, [_] = [DV.tup ds] ∧ _); refine wx_enumT ?_) | ((with_reducible show bSl _ _ _ _ _); refine w_slT ?_) | ((with_reducible show bTuple [_] _ _); refine w_tupT ?_) | ((with_reducible show bLen [_] _ _); refine w_lenT ?_) | ((with_reducible show bTru _ _ _); first | refine w_truT ?_ | refine w_truN ?_ | refine w_truB ?_ | refine w_truI ?_) | ((with_reducible show bEq _ _ _ _ _); first | refine w_eqSS ?_ | refine w_eqII ?_ | refine w_neSS ?_ | refine w_neII ?_ | refine w_eqT0 ?_) | ((with_reducible show bInt _ _ (.int _) (.int _) _ _); refine w_int (by first | decide | exact ⟨by decide, by decide, by decide⟩ | exact .inl ⟨by decide, by decide⟩ | exact .inr ⟨by decide, by decide⟩) ?_) | ((with_reducible show if _ = true then _ else _); first | refine w_it (by first | rfl | decide +kernel) ?_ | refine w_if0 (by first | rfl | decide +kernel) ?_) | ((with_reducible show rcv "list" (.ref _) _ ∧ _); refine w_rcvL (by walk_at "gq") ?_) | ((with_reducible show bTuple [.ref _] _ _); refine w_tupL (by walk_at "gq") ?_) | ((with_reducible show bLen [.ref _] _ _); refine w_lenL (by walk_at "gq") ?_) | ((with_reducible show bTru (.ref _) _ _); refine w_truL (by walk_at "gq") ?_) | ((with_reducible show ∃ _ _, DV.ref _ = _ ∧ Ls _ _ _ ∧ _); refine wx_lst (by walk_at "gq") ?_) | ((with_reducible show ∃ _ _, [DV.ref _] = _ ∧ Ls _ _ _ ∧ _); refine wx_lstA (by walk_at "gq") ?_))
local macro_rules | `(tactic| walk_at "dd") => `(tactic| repeat (walk_at "d1"))
local macro_rules | `(tactic| walk_at "gq") => `(tactic| first | assumption | exact dupd_same | exact sub_get (by assumption) (by walk_at "gq") | exact upd_get (by assumption) (by walk_at "gq") (by walk_at "gn") | exact subx_get (by assumption) (by walk_at "gq") (by walk_at "gn") | (refine (dupd_ne ?_).trans ?_; (focus walk_at "gn"); walk_at "gq"))
local macro_rules | `(tactic| walk_at "gs") => `(tactic| first | assumption | exact Sub.refl _ | exact sub_tr (by assumption) (by walk_at "gs") | exact sub_up (by assumption) (by walk_at "gs") (by walk_at "g0") | exact sub_ux (by assumption) (by walk_at "gs") (by walk_at "g0") | (refine Sub.new ?_ ?_; (focus walk_at "gs"); walk_at "g0"))
local macro_rules | `(tactic| walk_at "gk") => `(tactic| first | assumption | exact db_sub (by assumption) (by walk_at "gk") | exact db_upd (by assumption) (by walk_at "gk") ⟨_, by walk_at "gq"⟩ | exact db_updD (by assumption) (by walk_at "gk") ⟨_, by walk_at "gq"⟩)
local macro_rules | `(tactic| walk_at "gu") => `(tactic| first | assumption | exact Upd.refl _ _ | exact upd_in (by assumption) (by walk_at "gu"))
local macro_rules | `(tactic| walk_at "gx") => `(tactic| first | assumption | exact SubX.refl _ _ | exact subx_sub (by assumption) (by walk_at "gx") | exact subx_upd (by assumption) (by walk_at "gx") | exact subx_tr (by assumption) (by walk_at "gx"))
local macro_rules | `(tactic| walk_at "gn") => `(tactic| first | assumption | exact Ne.symm (by assumption) | exact ne_ns (by assumption) ⟨_, by walk_at "gq"⟩ | exact ne_sn (by assumption) ⟨_, by walk_at "gq"⟩)
local macro_rules | `(tactic| walk_at "g0") => `(tactic| first | assumption | exact nn_ (by assumption) (by walk_at "gs"))
theorem ok0_made : ∀ {o : Op}, okO 0 o → made o = 1
  | .push t, _ => rfl
  | .mk w cs, _ => rfl
  | .ite c as a b, h => absurd h.1 (Nat.not_lt_zero _)
section
variable {P : Program} {w : World} {K : Frag} {mg : Str → Option Value} {base : Heap}
abbrev N_L_code : List Str := ["_law_deck_here", "_law_takes", "_law_wide", "_law_deep_here", "_law_ops", "_law_many", "_law_k"]
theorem sc_L_code : FnScope N_L_code A_L_code (defScope s_L_code) := ⟨rfl, rfl, rfl, by decide +kernel, rfl, by decide +kernel, by decide +kernel⟩
theorem h_L_code {k : Nat} (a : At K mg "_law_code" s_L_code A_L_code) (B : BI mg) (c_L_draw : Has P w K mg base 2 "_law_draw" A_L_draw SP_drawB) (c_L_op : Has P w K mg base (2 * k + 14) "_law_op" A_L_op (SP_lop (k + 1))) (c_L_made : Has P w K mg base 1 "_law_made" A_L_made SP_mde) (c_L_thing : Has P w K mg base 11 "_law_thing" A_L_thing (SP_thing 2)) : Has P w K mg base (2 * k + 15) "_law_code" A_L_code (SP_lcode (k + 1)) := by
  refine at_mk a sc_L_code fun f cdv A outer s H E hr ds G R hl h => ?_
  refine ⟨_, (dss_cons (ds_set (i := 4) sc_L_code.nd rfl (.inl rfl) (de_lst da_nil))
    (dss_cons (ds_set (i := 5) sc_L_code.nd rfl (.inr rfl) (dv 1))
    (dss_cons (ds_for PassesOwn.never rfl (di_range B.range rfl (da_cons (de_op od_add (de_call c_L_draw (hr.mono (by omega)) rfl (da_cons (dv 0) (da_cons de_int da_nil))) (de_callTy cd_int B.int rfl (by decide +kernel) (da_cons (de_cmp (od_eq hr.units) (dv 1) de_int (nomark _)) da_nil))) da_nil)) (dg_name (i := 6) sc_L_code.nd rfl (.inl rfl)) (dss_cons (ds_expr (de_bm PySem.F.plainAttrs_list PySem.F.slot_list_append PySem.F.type_list_append md_append (dv 4) (da_cons (de_call c_L_op (hr.mono (by omega)) rfl (da_cons (dv 0) (da_cons (dv 5) (da_cons (dv 3) da_nil)))) da_nil)))
      (dss_one (ds_set (i := 5) sc_L_code.nd rfl (.inr rfl) (de_op od_add (dv 5) (de_call c_L_made (hr.mono (by omega)) rfl (da_cons (de_ix (dv 4) (de_neg de_int)) da_nil)))))))
    (dss_cons (ds_if (dt_cmp (od_eq hr.units) (dv 5) de_int (nomark _)) (dss_cons (ds_expr (de_bm PySem.F.plainAttrs_list PySem.F.slot_list_append PySem.F.type_list_append md_append (dv 4) (da_cons (de_tup (da_cons de_str (da_cons (de_call c_L_thing (hr.mono (by omega)) rfl (da_cons (dv 0) (da_cons de_int da_nil))) da_nil))) da_nil)))
      (dss_one (ds_set (i := 5) sc_L_code.nd rfl (.inr rfl) de_int))) dss_nil)
    (dss_one (ds_ret (de_tup (da_cons (dv 1) (da_cons (de_callTy cd_tuple B.tup rfl (by decide +kernel) (da_cons (dv 4) da_nil)) (da_cons (de_callTy cd_tuple B.tup rfl (by decide +kernel) (da_cons (de_lc (own := [("_law_k", 6)]) (lt1 (i := 6) (by decide)) rfl sc_L_code.nd (di_range B.range rfl (da_cons (dv 2) da_nil)) (blkOk_by (own := [("_law_k", 6)]) (N := N_L_code) (sc := defScope s_L_code) (by decide +kernel)) (fun _ _ _ _ _ => pg_name (i := 6) sc_L_code.nd rfl (Or.inl rfl)) (fun _ _ _ _ _ => dts_nil) (fun _ _ _ _ _ => (de_call c_L_draw (hr.mono (by omega)) rfl (da_cons (dv 0) (da_cons (dv 5) da_nil))))) da_nil)) da_nil)))))))))), ?_⟩
  obtain ⟨d, t, wd, j, ej, hj2, rfl, ht, hwd, hk, q⟩ := h
  obtain rfl : j = k := by omega
  have bo := BO_ge j
  have bc := BC_eq j
  walk_at "dd"
  intro pL nL
  refine abs_new nL fun G1 s1 h1 => ?_
  walk_at "dd"
  refine ⟨d, 6, rfl, by walk_at "gk", by decide, by decide, fun r r0 r1 => ?_⟩
  walk_at "dd"
  obtain ⟨n, en, hn, hn1⟩ : ∃ n : Nat, r + (if decide (((t : Nat) : Int) = 0) = true then (1 : Int) else 0) = ((n : Nat) : Int) ∧ n ≤ 6 ∧ (t = 0 → 1 ≤ n) := by
    by_cases h0 : ((t : Nat) : Int) = 0
    · rw [if_pos (decide_eq_true h0)]; exact ⟨(r + 1).toNat, by omega, by omega, fun _ => by omega⟩
    · rw [if_neg (by rw [decide_eq_false h0]; exact Bool.false_ne_true)]; exact ⟨r.toNat, by omega, by omega, fun _ => by omega⟩
  rw [en]
  refine wx_rng (by omega) (by omega) ?_
  rw [Int.toNat_natCast]
  have hk1 : HasDb G1 d := by walk_at "gk"
  refine for_by (fun i δ G' => ∃ (ops : List Op) (x6 : Option DV), δ = [some (.ref d), some (.int ((t : Nat) : Int)), some (.int ((wd : Nat) : Int)), some (.int ((j : Nat) : Int)), some (.ref pL), some (.int ((fin t ops : Nat) : Int)), x6] ∧ G' pL = some (.lst (eOs ops)) ∧ ops.length = i ∧ okOs t ops ∧ fin t ops ≤ t + 3 * i ∧ szDs (eOs ops) ≤ i * BO j ∧ DD.Sub G G' ∧ HasDb G' d ∧ (1 ≤ t ∨ 1 ≤ i → 1 ≤ fin t ops) ∧ nOs ops ≤ j) (fun _ _ _ _ => trivial) ⟨[], none, rfl, h1, rfl, trivial, Nat.le_refl _, Nat.zero_le _, s1, hk1, (fun h => by show 1 ≤ t; omega), Nat.zero_le _⟩ ?_ ?_
  · rintro i y δ G2 hy ⟨ops, x6, rfl, hL, lo, oo, fo, zo, s2, hk2, f1, no⟩
    have hi : i < n := by have := (List.getElem?_eq_some_iff.mp hy).1; rwa [rng_len] at this
    walk_at "dd"
    refine ⟨d, fin t ops, j, rfl, hj2, rfl, by omega, hk2, fun o h1' h2' h3' h4' => ?_⟩
    walk_at "dd"
    refine w_app hL (midlt (by rw [eOs_len]; omega)) ?_
    refine abs_upd hL fun G3 u3 h3 => ?_
    walk_at "dd"
    refine w_ixL h3 atI_end ?_
    walk_at "dd"
    refine ⟨o, fin t ops, rfl, h1', ?_⟩
    walk_at "dd"
    refine ⟨ops ++ [o], _, by rw [fin_snoc]; rfl, by rw [h3, eOs_map, eOs_map, List.map_append]; rfl, by rw [List.length_append, lo]; rfl, okOs_snoc oo h1', by rw [fin_snoc]; omega, ?_, sub_up u3 s2 nL, by walk_at "gk", fun _ => ?_, by rw [nOs_snoc]; omega⟩
    rotate_left
    · rw [fin_snoc]
      by_cases hf : fin t ops = 0
      · rw [hf] at h1'; rw [ok0_made h1']; omega
      · omega
    rw [eOs_map, List.map_append, szDs_app, ← eOs_map]
    show szDs (eOs ops) + (szD (eO o) + 0) ≤ (i + 1) * BO j
    rw [Nat.add_mul, Nat.one_mul]; omega
  rintro δ G2 ⟨ops, x6, rfl, hL, lo, oo, fo, zo, s2, hk2, f1, no⟩
  rw [rng_len] at lo fo zo f1
  have f1 : 1 ≤ fin t ops := f1 (by
    rcases Nat.eq_zero_or_pos t with h | h
    · exact .inr (hn1 h)
    · exact .inl h)
  walk_at "dd"
  refine w_if0 (decide_eq_false (by omega)) ?_
  walk_at "dd"
  refine wx_rng (by omega) (by omega) ?_
  refine lcs_each (fun _ y => ∃ u : Nat, y = nI u ∧ u < fin t ops) (fun _ _ => trivial) (by rw [rng_len]; omega) ?_ ?_
  · intro i y hy G' k1 k0 s' e1
    walk_at "dd"
    refine ⟨d, fin t ops, rfl, by walk_at "gk", by omega, by omega, fun u u0 u1 => ?_⟩
    obtain ⟨u, rfl⟩ := Int.eq_ofNat_of_zero_le u0
    exact e1 _ ⟨u, rfl, by omega⟩
  intro p3 G3 acc n3 s3 h3 la he
  rw [rng_len] at la
  obtain ⟨us, rfl, hus⟩ := acc_of he
  rw [List.length_map] at la
  walk_at "dd"
  refine ⟨G, s2.trans s3, q (.mk t ops us) ⟨oo, hus, by omega, by omega, by omega⟩ rfl (by show us.length = wd; omega) ?_ no⟩
  show 1 + (1 + ((1 + szDs (eOs ops)) + ((1 + szDs (us.map nI)) + 0))) ≤ BC j
  have zz : n * BO j ≤ 6 * BO j := Nat.mul_le_mul_right _ hn
  rw [szD_nI, bc]; omega
theorem all_oc (a1 : At K mg "_law_op" s_L_op A_L_op) (a2 : At K mg "_law_code" s_L_code A_L_code) (B : BI mg) (cd : Has P w K mg base 2 "_law_draw" A_L_draw SP_drawB) (t3 : Has P w K mg base 13 "_law_thing" A_L_thing (SP_thing 3)) (t2 : Has P w K mg base 11 "_law_thing" A_L_thing (SP_thing 2)) (md : Has P w K mg base 1 "_law_made" A_L_made SP_mde) :
    ∀ k, Has P w K mg base (2 * k + 13) "_law_code" A_L_code (SP_lcode k) := by
  intro k
  induction k with
  | zero =>
    refine at_mk a2 sc_L_code fun f cdv A outer s H E hr ds G R hl h => ?_
    obtain ⟨d, t, wd, j, e, _⟩ := h
    exact absurd e (by omega)
  | succ k ih => exact h_L_code (k := k) a2 B cd (h_L_op (k := k) a1 B cd t3 ih) md t2
theorem all_tw (a1 : At K mg "_law_thing" s_L_thing A_L_thing) (a2 : At K mg "_law_any_word" s_L_any_word A_L_any_word) (B : BI mg) (cd : Has P w K mg base 2 "_law_draw" A_L_draw SP_drawB) (cn : Has P w K mg base 3 "_law_number" A_L_number SP_num) (cc : Has P w K mg base 6 "_law_cut" A_L_cut (SP_cut 4)) (cs : Has P w K mg base 3 "_law_shuffle" A_L_shuffle SP_shf) :
    ∀ k, Has P w K mg base (2 * k + 7) "_law_thing" A_L_thing (SP_thing k) ∧ Has P w K mg base (2 * k + 8) "_law_any_word" A_L_any_word (SP_word k) := by
  intro k
  induction k with
  | zero =>
    have t : Has P w K mg base (2 * 0 + 7) "_law_thing" A_L_thing (SP_thing 0) := by
      refine at_mk a1 sc_L_thing fun f cdv A outer s H E hr ds G R hl h => ?_
      obtain ⟨d, j, e, _⟩ := h
      exact absurd e (by omega)
    exact ⟨t, h_L_any_word a2 B cd t cs⟩
  | succ k ih =>
    have t : Has P w K mg base (2 * (k + 1) + 7) "_law_thing" A_L_thing (SP_thing (k + 1)) := h_L_thing a1 B cd cn cc ih.2 ih.1
    exact ⟨t, h_L_any_word a2 B cd t cs⟩
end
end K64
/-! a call of a local name that holds a def; x or y of tuples -/
namespace DD
open PySem PySem.W L2 SX Cm
/-- the def at f keeps a promise about data -/
def HasA (P : Program) (w : World) (K : Frag) (mg : Str → Option Value) (base : Heap) (k : Nat) (f : Addr) (ps : List Str) (dsp : DSp) : Prop :=
  ∃ fd, FnOk P w K mg base CX0 k f fd ps (toSp K ps.length dsp) ∧ L2.Binds K fd ps [] ∧ keepIn K (.ref f) = true
theorem Has.toA {P : Program} {w : World} {K : Frag} {mg : Str → Option Value} {base : Heap} {k : Nat} {nm : Str} {ps : List Str} {dsp : DSp} (h : Has P w K mg base k nm ps dsp) : ∃ f, HasA P w K mg base k f ps dsp ∧ mg nm = some (.ref f) := by
  obtain ⟨f, fd, a, b, c, m, _⟩ := h
  exact ⟨f, ⟨fd, a, b, c⟩, m⟩
section
variable {X : Cx} {k i : Nat} {f : Addr} {ps : List Str} {dsp : DSp} {x : Str} {e : Expr} {es : List Expr} {ts : TDA} {p pos : Pos}
def dCallL (i : Nat) (f : Addr) (n : Nat) (dsp : DSp) (t : TDA) : TD := fun δ G Q => δ[i]? = some (some (.ref f)) ∧ t δ G fun ds G1 => ds.length = n ∧ dsp ds G1 Q
theorem Sl.get_ref {K : Frag} {H : Hp} : ∀ {σ : St} {δ : DSt} {i : Nat}, Sl K H σ δ → δ[i]? = some (some (.ref f)) → σ[i]? = some (some (.ref f))
  | _, _, 0, .cons r _, e => by cases e; cases r; rfl
  | _, _, 0, .non _, e => by cases e
  | _, _, i + 1, .cons _ t, e => Sl.get_ref (i := i) t e
  | _, _, i + 1, .non t, e => Sl.get_ref (i := i) t e
  | _, _, _, .nil, e => by cases e
theorem de_callL (h : HasA X.prog X.w X.K X.mg X.base k f ps dsp) (hr : Room k X.A) (hN : X.N[i]? = some x) (hv : Vis X.env.scope x) (ha : DA X (e :: es) ts)
    (hdb : (x == ("__debug__" : Str)) = false := by decide) (hcd : (x == ("__classdict__" : Str)) = false := by decide)
    (he : starEach (e :: es) X.env = (false, eval e X.env) :: starEach es X.env := by rfl) (hpl : (backTo pos (starEach es X.env)).any (·.1) = false := by rfl) :
    DE X (.Call (.Name x p) (e :: es) [] pos) (dCallL i f ps.length dsp ts) := by
  obtain ⟨fd, F, b, kp⟩ := h
  refine PE_mono (pe_callL F hr hN hv kp b .nil (pass0 (X := X)) ha hdb hcd he hpl) fun σ H Q ⟨δ, G, R, sl, w, ⟨hs, h⟩, f⟩ => ⟨Sl.get_ref sl hs, δ, G, _, sl, w, h, fun ds G1 vs H1 h1 t1 w1 r1 => ?_⟩
  show toSp X.K ps.length dsp (vs ++ []) H1 Q E0
  rw [List.append_nil]
  exact ⟨ds, G1, R, r1, w1, h1.1, h1.2, f.step t1⟩
theorem w_callL {δ : DSt} {G : DG} {Q : DK} {n : Nat} (hs : δ[i]? = some (some (.ref f))) (h : ts δ G fun ds G1 => ds.length = n ∧ dsp ds G1 Q) : dCallL i f n dsp ts δ G Q := ⟨hs, h⟩
/-- x or y, x a tuple -/
def dOrT (ta tb : TD) : TD := fun δ G Q => ta δ G fun x G1 => ∃ ds, x = .tup ds ∧ if (!ds.isEmpty) = true then Q (.tup ds) G1 else tb δ G1 Q
theorem w_orT {ta tb : TD} {δ : DSt} {G : DG} {Q : DK} (h : ta δ G fun x G1 => ∃ ds, x = .tup ds ∧ if (!ds.isEmpty) = true then Q (.tup ds) G1 else tb δ G1 Q) : dOrT ta tb δ G Q := h
end
end DD
/-! promises of two outcomes over data: a value, or an error of a class -/
namespace DD
open PySem PySem.W L2 SX Cm
abbrev DXk := Value → DG → Prop
def FinX (K : Frag) (H : Hp) (RX : DXk) (E : XK) : Prop := ∀ cls G H', RX cls G → TKs K H H' → Wd K H' G → E cls none H'
theorem FinX.step {K : Frag} {H H1 : Hp} {RX : DXk} {E : XK} (f : FinX K H RX E) (t : TKs K H H1) : FinX K H1 RX E := fun c G H' r t' w => f c G H' r (t.trans t') w
theorem inv_tks {X : Cx} {pins : List (Addr × Obj)} {σ : L2.St} {H : Hp} {s : Shared} (I : Inv X pins σ H s) : TKs X.K X.H_0 H := fun a xs h => by
  rcases h with (h | ⟨o, h⟩) | h
  · exact .inl (.inl (I.base.tups _ _ h))
  · exact .inl (.inr ⟨o, I.base.frzs _ _ _ h⟩)
  · exact .inr h
abbrev DSpX := List DV → DG → DK → DXk → Prop
def toSpX (K : Frag) (n : Nat) (dsp : DSpX) : Sp := fun vs H Q E => ∃ ds G R RX, RVs K H vs ds ∧ Wd K H G ∧ ds.length = n ∧ dsp ds G R RX ∧ Fin K H R Q ∧ FinX K H RX E
/-- less is known of the store where an error is let out -/
def LessX (RX : DXk) : DXk := fun c G => ∃ G', Sub G' G ∧ RX c G'
theorem LessX.of {RX : DXk} {c : Value} {G : DG} (h : RX c G) : LessX RX c G := ⟨G, Sub.refl G, h⟩
theorem FinX.less {K : Frag} {H : Hp} {RX : DXk} {E : XK} (f : FinX K H RX E) : FinX K H (LessX RX) E := fun c G H' ⟨G', s, r⟩ t w => f c G' H' r t (w.sub s)
/-- the def nm keeps a promise of two outcomes, by level k -/
def HasX (P : Program) (w : World) (K : Frag) (mg : Str → Option Value) (base : Heap) (k : Nat) (nm : Str) (ps : List Str) (dsp : DSpX) : Prop :=
  ∃ f fd, FnOk P w K mg base (L2.CX P w) k f fd ps (toSpX K ps.length dsp) ∧ L2.Binds K fd ps [] ∧ keepIn K (.ref f) = true ∧ mg nm = some (.ref f) ∧ ∃ oc od osl, K.lookup f = some ⟨oc, od, .func fd, osl⟩
/-- the def at f keeps a promise of two outcomes -/
def HasAX (P : Program) (w : World) (K : Frag) (mg : Str → Option Value) (base : Heap) (k : Nat) (f : Addr) (ps : List Str) (dsp : DSpX) : Prop :=
  ∃ fd, FnOk P w K mg base (L2.CX P w) k f fd ps (toSpX K ps.length dsp) ∧ L2.Binds K fd ps [] ∧ keepIn K (.ref f) = true
theorem HasX.toA {P : Program} {w : World} {K : Frag} {mg : Str → Option Value} {base : Heap} {k : Nat} {nm : Str} {ps : List Str} {dsp : DSpX} (h : HasX P w K mg base k nm ps dsp) : ∃ f, HasAX P w K mg base k f ps dsp ∧ mg nm = some (.ref f) := by
  obtain ⟨f, fd, a, b, c, m, _⟩ := h
  exact ⟨f, ⟨fd, a, b, c⟩, m⟩
/-! ### defs -/
section
variable {P : Program} {w : World} {K : Frag} {mg : Str → Option Value} {base : Heap}
theorem hasx_mk {nm : Str} {st : Stmt} {f : Addr} {fd : FuncData} {N ps : List Str} {k : Nat} {dsp : DSpX} (F : Fun K nm nm st f fd) (b : L2.Binds K fd ps []) (m : mg nm = some (.ref f)) (S : FnScope N ps (defScope st))
    (body : ∀ (cdv : Value) (A : Around) (outer : List Env) (s : Shared) (H : Hp) (E : XK), Room k (A.deeper (PyProof.Rows.envOfC nm (defScope st) s.heap.objs.size f cdv)) → ∀ ds G R RX, ds.length = ps.length → FinX K H (LessX RX) E → dsp ds G R RX →
      ∃ t, DSs (cxOf (L2.CX P w) P w K mg base N nm (defScope st) f cdv A outer s H E) (defBody st) t ∧ t { nx := fun _ G => Less R .non G, rt := Less R } (dstart N ds) G) : HasX P w K mg base (k + 1) nm ps dsp := by
  refine ⟨f, fd, F.okX S (fun vs H Q E h => ?_) (fun cdv A outer s H vs Q E hr h => ?_), b, F.kp, m, F.look⟩
  · obtain ⟨ds, G, R, RX, r, w, l, _⟩ := h
    rw [r.len]; exact l
  · obtain ⟨ds, G, R, RX, r, wd, l, h, fin, fx⟩ := h
    obtain ⟨t, h1, h2⟩ := body cdv A outer s H E hr ds G R RX l fx.less h
    exact ⟨_, h1, _, _, G, sl_start r, wd, links_def fin, h2⟩
theorem atx_mk {nm : Str} {st : Stmt} {N ps : List Str} {k : Nat} {dsp : DSpX} (a : At K mg nm st ps) (S : FnScope N ps (defScope st))
    (body : ∀ (f : Addr) (cdv : Value) (A : Around) (outer : List Env) (s : Shared) (H : Hp) (E : XK), Room k (A.deeper (PyProof.Rows.envOfC nm (defScope st) s.heap.objs.size f cdv)) → ∀ ds G R RX, ds.length = ps.length → FinX K H (LessX RX) E → dsp ds G R RX →
      ∃ t, DSs (cxOf (L2.CX P w) P w K mg base N nm (defScope st) f cdv A outer s H E) (defBody st) t ∧ t { nx := fun _ G => Less R .non G, rt := Less R } (dstart N ds) G) : HasX P w K mg base (k + 1) nm ps dsp := by
  obtain ⟨f, fd, F, b, m⟩ := a
  exact hasx_mk F b m S (body f)
end
/-! ### a call that may let an error out, within a def that lets it out -/
section
variable {X : Cx} {k : Nat} {nm : Str} {ps : List Str} {dsp : DSpX} {e : Expr} {es : List Expr} {ts : TDA} {p pos : Pos} {E : XK} {RX : DXk}
def dCallX (n : Nat) (dsp : DSpX) (RX : DXk) (t : TDA) : TD := fun δ G Q => t δ G fun ds G1 => ds.length = n ∧ dsp ds G1 Q RX
theorem de_callX (h : HasX X.prog X.w X.K X.mg X.base k nm ps dsp) (hx : FinX X.K X.H_0 RX E) (tk : Takes X (fun cls d _ H => E cls d H)) (hr : Room k X.A) (hg : Gl X nm) (ha : DA X (e :: es) ts) (hdb : (nm == ("__debug__" : Str)) = false := by decide) (he : starEach (e :: es) X.env = (false, eval e X.env) :: starEach es X.env := by rfl) (hpl : (backTo pos (starEach es X.env)).any (·.1) = false := by rfl) :
    DE X (.Call (.Name nm p) (e :: es) [] pos) (dCallX ps.length dsp RX ts) := by
  obtain ⟨f, fd, F, b, kp, m, _⟩ := h
  refine ⟨fun pins s σ H Q I ⟨δ, G, R, sl, w, h, fq⟩ => ?_⟩
  refine wpAny_Call_Name_kw (ld_glob I hg m ?_ hdb)
  refine PySem.W.callWith_K (h₀ := X.base) I.ok.mod.kin kp (thn (ha.run pos pins s σ H (fun vs H1 => ∃ ds G1, RVs X.K H1 vs ds ∧ Wd X.K H1 G1 ∧ TKs X.K H H1 ∧ ds.length = ps.length ∧ dsp ds G1 R RX) I ⟨δ, G, _, sl, w, h, fun ds G1 vs H1 h1 t1 w1 r1 => ⟨ds, G1, r1, w1, t1, h1.1, h1.2⟩⟩) fun us s1 ⟨vs, H1, I1, r, ds, G1, r1, w1, t1, l1, h1⟩ => ⟨I1.kIn, ?_⟩) he hpl
  refine run_fn F hr b .nil (passes_call (E := E) tk fun _ _ _ _ h => h) I1 r ?_
  rw [List.append_nil]
  exact ⟨ds, G1, R, RX, r1, w1, l1, h1, fq.step t1, hx.step (inv_tks I1)⟩
theorem w_callX {n : Nat} {δ : DSt} {G : DG} {Q : DK} (h : ts δ G fun ds G1 => ds.length = n ∧ dsp ds G1 Q RX) : dCallX n dsp RX ts δ G Q := h
/-- raise C(m) -/
def dRaise (c : Value) (RX : DXk) : TDS := fun _ _ G => RX c G
theorem ds_raise {x m : Str} {C : Addr} {j : Nat} {p p2 pos pos2 : Pos} (hc : X.calm = true) (hx : FinX X.K X.H_0 RX E) (tk : Takes X (fun cls d _ H => E cls d H)) {bmB : List Value} {B newId initId : String} (F : ExcBaseFacts B newId initId bmB) (q : PySem.W.excIn X.K C bmB newId = true) (gC : X.mg x = some (.ref C)) (kC : PySem.W.keepIn X.K (.ref C) = true) (r : Raises X (.ref C)) (hg : Gl X x) (hdb : (x == ("__debug__" : Str)) = false := by decide) :
    DS X (.Raise (some (.Call (.Name x p) [.Constant (.str m) j p2] [] pos)) none pos2) (dRaise (.ref C) RX) := by
  have h := ps_raise (pos := pos2) hc tk (pmk_own (m := m) (j := j) (p := p) (p2 := p2) (pos := pos) F q gC kC r hg hdb)
  refine ⟨fun pins s σ H D I ⟨D', δ, G, sl, w, l, h1⟩ => h.run pins s σ H D I ?_⟩
  exact hx _ G H h1 (inv_tks I) w
theorem w_raise {c : Value} {D : DEnds} {δ : DSt} {G : DG} (h : RX c G) : dRaise c RX D δ G := h
end
/-- a class of errors whose makers are the built-in one's -/
structure ErrC (K : Frag) (mg : Str → Option Value) (x : Str) (C : Addr) : Prop where
  gP : mg x = some (.ref C)
  xP : excIn K C [.type "ValueError", .type "Exception", .type "BaseException", .type "object"] "ValueError.__new__" = true
  kP : keepIn K (.ref C) = true
  bP : subIn K (.ref C) (.type "BaseException") = some true
  tP : typeIn K (.ref C) = some (.type "type")
section
variable {X : Cx} {E : XK} {RX : DXk}
theorem ds_raiseC {x m : Str} {C : Addr} {j : Nat} {p p2 pos pos2 : Pos} (c : ErrC X.K X.mg x C) (hc : X.calm = true) (hx : FinX X.K X.H_0 RX E) (tk : Takes X (fun cls d _ H => E cls d H)) (hg : Gl X x) (hdb : (x == ("__debug__" : Str)) = false := by decide) :
    DS X (.Raise (some (.Call (.Name x p) [.Constant (.str m) j p2] [] pos)) none pos2) (dRaise (.ref C) RX) :=
  ds_raise hc hx tk PySem.F.excBase_ValueError c.xP c.gP c.kP (raises_own c.bP c.tP) hg hdb
end
/-! ### try -/
abbrev TDX := DSt → DG → DK → DXk → Prop
abbrev TDAX := DSt → DG → (List DV → DG → Prop) → DXk → Prop
def FinW (K : Frag) (H : Hp) (RX : DXk) (W : WX) (σ : L2.St) : Prop := ∀ cls G H', RX cls G → TKs K H H' → Wd K H' G → W cls none σ H'
theorem FinW.step {K : Frag} {H H1 : Hp} {RX : DXk} {W : WX} {σ : L2.St} (f : FinW K H RX W σ) (t : TKs K H H1) : FinW K H1 RX W σ := fun c G H' r t' w => f c G H' r (t.trans t') w
def upE (K : Frag) (W : WX) (t : TDX) : TE := fun σ H Q => ∃ δ G R RX, Sl K H σ δ ∧ Wd K H G ∧ t δ G R RX ∧ Fin K H R Q ∧ FinW K H RX W σ
/-- an expression within a try -/
def DEX (X : Cx) (e : Expr) (t : TDX) : Prop := ∀ (W : WX) (pn : List (Addr × Obj)) (xe : Value → Shared → Prop), Takes (X.tr pn xe) W → PE (X.tr pn xe) e (upE X.K W t)
section
variable {X : Cx} {k : Nat} {nm : Str} {ps : List Str} {dsp : DSpX} {e : Expr} {es : List Expr} {ts : TDA} {p pos : Pos}
def xCall (n : Nat) (dsp : DSpX) (t : TDA) : TDX := fun δ G Q RX => t δ G fun ds G1 => ds.length = n ∧ dsp ds G1 Q RX
theorem dex_call (h : HasX X.prog X.w X.K X.mg X.base k nm ps dsp) (hr : Room k X.A) (hg : Gl X nm) (ha : ∀ pn xe, DA (X.tr pn xe) (e :: es) ts) (hdb : (nm == ("__debug__" : Str)) = false := by decide) (he : starEach (e :: es) X.env = (false, eval e X.env) :: starEach es X.env := by rfl) (hpl : (backTo pos (starEach es X.env)).any (·.1) = false := by rfl) :
    DEX X (.Call (.Name nm p) (e :: es) [] pos) (xCall ps.length dsp ts) := by
  obtain ⟨f, fd, F, b, kp, m, _⟩ := h
  intro W pn xe tk
  refine PE_mono (pe_callS (X := X.tr pn xe) F hr hg m kp b (fun σ => passAt tk σ) (ha pn xe) hdb he hpl) fun σ H Q ⟨δ, G, R, RX, sl, w, h, f, fx⟩ => ⟨δ, G, _, sl, w, h, fun ds G1 vs H1 h1 t1 w1 r1 => ?_⟩
  exact ⟨ds, G1, R, RX, r1, w1, h1.1, h1.2, f.step t1, fun c G' H' r t w => fx c G' H' r (t1.trans t) w⟩
/-- an expression that lets no error out -/
def xE (t : TD) : TDX := fun δ G Q _ => t δ G Q
def xNil : TDAX := fun δ G Q _ => Q [] G
def xCons (t : TDX) (u : TDAX) : TDAX := fun δ G Q RX => t δ G (fun d G1 => u δ G1 (fun ds G2 => Q (d :: ds) G2) RX) RX
/-- [x, ..] -/
def xLst (t : TDAX) : TDX := fun δ G Q RX => t δ G (fun ds G1 => ds.length ≤ sizeLine ∧ ∀ p, G1 p = none → Q (.ref p) (dupd G1 p (.lst ds))) RX
/-- (x, ..) -/
def xTup (t : TDAX) : TDX := fun δ G Q RX => t δ G (fun ds G1 => ds.length ≤ sizeLine ∧ Q (.tup ds) G1) RX
end
/-! a call of a local name that holds a def -/
/-! statements within a try -/
abbrev TDSX := DEnds → DSt → DG → DXk → Prop
def upSX (K : Frag) (W : WX) (t : TDSX) : TS := fun D σ H => ∃ D' δ G RX, Sl K H σ δ ∧ Wd K H G ∧ Links K H D' D ∧ t D' δ G RX ∧ FinW K H RX W σ
def DSsX (X : Cx) (b : List Stmt) (t : TDSX) : Prop := ∀ (W : WX) (pn : List (Addr × Obj)) (xe : Value → Shared → Prop), Takes (X.tr pn xe) W → PassesOwn (model X.prog X.w) X.A X.env xe → PSs (X.tr pn xe) b (upSX X.K W t)
section
variable {X : Cx} {e : Expr} {te : TDX}
def xSet (i : Nat) (te : TDX) : TDSX := fun D δ G RX => te δ G (fun d G1 => D.nx (δ.set i (some d)) G1) RX
theorem dssx_set {i : Nat} {x : Str} {pos' pos : Pos} (hN : X.N.Nodup) (hi : X.N[i]? = some x) (hx : Loc X.env.scope x) (he : DEX X e te) (hs : swapsWith e (some (.Name x pos')) pos.line X.env = pure false := by rfl) (hf : X.fn x = true ∨ X.env.scope.names.lookup x = some .local := by first | exact .inl rfl | exact .inr rfl | assumption) : DSsX X [.Assign [.Name x pos'] e pos] (xSet i te) := fun W pn xe tk po =>
  PSs_mono (pss_one (ps_set (X := X.tr pn xe) hN hi hx (he W pn xe tk) hs hf)) fun D σ H ⟨D', δ, G, RX, sl, w, l, h, fx⟩ => ⟨δ, G, _, RX, sl, w, h, fun d G1 v H1 q t1 w1 r1 => l.nx _ _ G1 H1 q t1 w1 ((sl.mono t1).set r1 i), fx⟩
def xExpr (te : TDX) : TDSX := fun D δ G RX => te δ G (fun _ G1 => D.nx δ G1) RX
/-- try: body; except c as n: suite (slot i is n's). The error stands in the store behind the suite. -/
def dTry (K : Frag) (c : Value) (i : Nat) (tb : TDSX) (ts : Addr → Value → TDS) : TDS := fun D δ G => tb D δ G fun cls G1 => exmOne K cls c = some true ∧ ∀ a, G1 a = none →
  ts a cls { nx := fun δ' G2 => G2 a = none → D.nx (δ'.set i none) (dupd G2 a (.err cls)), rt := D.rt, bk := fun δ' G2 => D.bk (δ'.set i none) G2, ct := fun δ' G2 => D.ct (δ'.set i none) G2 } (δ.set i (some (.ref a))) G1
theorem ds_try {x n : Str} {c : Value} {i : Nat} {body suite : List Stmt} {b₀ : Stmt} {np pos pos' : Pos} {tb : TDSX} {ts : Addr → Value → TDS} (hs : X.stack = X.env :: X.outer) (hf : X.env.frame = some X.env.locals) (hN : X.N.Nodup) (hi : X.N[i]? = some n) (hln : X.env.kindOf n = some .local) (hc : Names X x c)
    (hb : DSsX X body tb) (hsu : ∀ (a : Addr) (oe : Obj) (cls : Value) (d : Option Addr) (pn : List (Addr × Obj)), Zc cls d oe → (∃ vs, oe.data = .fields vs) → d = none → DSs (X.suite a ((a, oe) :: pn)) (b₀ :: suite) (ts a cls)) :
    DS X (.Try body [.ExceptHandler (some (.Name x np)) (some n) (b₀ :: suite) pos'] [] [] pos) (dTry X.K c i tb ts) := by
  refine PS_mono (ps_try_hold (Wout := fun _ _ _ _ => False) (tb := fun W => upSX X.K W tb) (ts := fun a cls d D σ H => d = none ∧ upS X.K (ts a cls) D σ H) hs hf hN hi hln hc takes0 (fun W pn xe tk po => hb W pn xe tk po) fun a oe cls d pn hz hv => ?_) fun D σ H ⟨D', δ, G, sl, w, l, h⟩ => ?_
  · refine ⟨fun pins s σ H D I ⟨ed, h⟩ => (hsu a oe cls d pn hz hv ed).run pins s σ H D I h⟩
  · refine ⟨D', δ, G, _, sl, w, l, h, fun cls G1 H1 ⟨he, h1⟩ t1 w1 => ⟨true, he, fun _ a na => ⟨rfl, _, _, G1, (sl.mono t1).set (.ref a) i, w1, ⟨?_, ?_, ?_, ?_⟩, h1 a (w1.free na)⟩, fun z => nomatch z⟩⟩
    · intro σ2 δ2 G2 H2 q t2 w2 sl2 na2
      have s' := same_new na2 (eOb a cls none)
      exact l.nx _ _ _ _ (q (w2.free na2)) ((t1.trans t2).trans (TKs.of s')) (w2.new na2 fun O => upd_same) ((sl2.unset i).mono (TKs.of s'))
    · intro d2 G2 v2 H2 q t2 w2 r2
      exact l.rt _ _ _ _ q (t1.trans t2) w2 r2
    · intro σ2 δ2 G2 H2 q t2 w2 sl2
      exact l.bk _ _ _ _ q (t1.trans t2) w2 (sl2.unset i)
    · intro σ2 δ2 G2 H2 q t2 w2 sl2
      exact l.ct _ _ _ _ q (t1.trans t2) w2 (sl2.unset i)
end
/-! ### isinstance of an error: in its suite, and behind it -/
section
variable {X : Cx}
def clsOf : DV → Option Value
  | .ref a => some (.ref a)
  | .ty n => some (.type n)
  | _ => none
theorem clsOf_rel {K : Frag} {H : Hp} {v : V} {d : DV} {c : Value} (r : RV K H v d) (e : clsOf d = some c) : ∀ u, RelV v u → u = c := fun u ru => by
  cases r with
  | ref a => cases e; exact ru
  | ty n => cases e; exact ru
  | _ => cases e
def bIsE (K : Frag) (a : Addr) (cls : Value) : DC := fun ds G Q => ∃ D d c b, cls = .ref D ∧ ExcC K D ∧ ds = [.ref a, d] ∧ clsOf d = some c ∧ kitOne K (.ref D) c = some b ∧ Q (.bl b) G
theorem cd_isE {a : Addr} {oe : Obj} {cls : Value} {d : Option Addr} {pn : List (Addr × Obj)} (hz : Zc cls d oe) (hv : ∃ vs, oe.data = .fields vs) (hd : d = none) : CallD (X.suite a ((a, oe) :: pn)) (.builtin "isinstance") (bIsE X.K a cls) := by
  refine ⟨fun xs H Q => ∃ D, ExcC X.K D ∧ rIsEc X.K D a cls d xs H Q, fun pins s σ H xs us Q I r ⟨D, C, h⟩ => call_isEc C hz hv pins s σ H xs us Q I r h, fun ds vs H G R Q r w ⟨D, dd, c, b, ec, C, e, hc, hk, q⟩ f => ?_⟩
  subst e
  cases r with
  | cons r1 r2 =>
    cases r2 with
    | cons r2 r3 =>
      cases r3
      cases r1
      exact ⟨D, C, ec, hd, _, c, b, rfl, clsOf_rel r2 hc, hk, f _ G _ H q (TKs.refl H) w (.bl b)⟩
end
section
variable {K : Frag} {c : Value} {i : Nat} {tb : TDSX} {ts : Addr → Value → TDS} {D : DEnds} {δ : DSt} {G : DG} {RX : DXk} {Q : DK} {te : TDX} {t : TD} {u : TDAX} {QA : List DV → DG → Prop} {tda : TDA} {n : Nat} {dsp : DSpX}
theorem w_try (h : tb D δ G fun cls G1 => exmOne K cls c = some true ∧ ∀ a, G1 a = none →
  ts a cls { nx := fun δ' G2 => G2 a = none → D.nx (δ'.set i none) (dupd G2 a (.err cls)), rt := D.rt, bk := fun δ' G2 => D.bk (δ'.set i none) G2, ct := fun δ' G2 => D.ct (δ'.set i none) G2 } (δ.set i (some (.ref a))) G1) : dTry K c i tb ts D δ G := h
theorem w_xSet (h : te δ G (fun d G1 => D.nx (δ.set i (some d)) G1) RX) : xSet i te D δ G RX := h
theorem w_xExpr (h : te δ G (fun _ G1 => D.nx δ G1) RX) : xExpr te D δ G RX := h
theorem w_xLst (h : u δ G (fun ds G1 => ds.length ≤ sizeLine ∧ ∀ p, G1 p = none → Q (.ref p) (dupd G1 p (.lst ds))) RX) : xLst u δ G Q RX := h
theorem w_xTup (h : u δ G (fun ds G1 => ds.length ≤ sizeLine ∧ Q (.tup ds) G1) RX) : xTup u δ G Q RX := h
theorem w_xCons (h : te δ G (fun d G1 => u δ G1 (fun ds G2 => QA (d :: ds) G2) RX) RX) : xCons te u δ G QA RX := h
theorem w_xNil (h : QA [] G) : xNil δ G QA RX := h
theorem w_xE (h : t δ G Q) : xE t δ G Q RX := h
theorem w_xCall (h : tda δ G fun ds G1 => ds.length = n ∧ dsp ds G1 Q RX) : xCall n dsp tda δ G Q RX := h
theorem w_isE {a C : Addr} {d : DV} {v : Value} {b : Bool} (x : ExcC K C) (hc : clsOf d = some v) (hk : kitOne K (.ref C) v = some b) (h : Q (.bl b) G) : bIsE K a (.ref C) [.ref a, d] G Q := ⟨C, d, v, b, rfl, x, rfl, hc, hk, h⟩
end
end DD
/-! methods of two outcomes over data -/
namespace DD
open PySem PySem.W L2 SX Cm
section
variable {X : Cx} {k : Nat} {C : Addr} {m nm : Str} {ps : List Str} {dsp : DSpX} {o e : Expr} {es : List Expr} {to : TD} {ts : TDA} {p apos pos : Pos} {E : XK} {RX : DXk}
theorem pe_inv {e : Expr} {t : TE} (h : PE X e t) : PE X e (fun σ H Q => TKs X.K X.H_0 H → t σ H Q) := ⟨fun pins s σ H Q I q => h.run pins s σ H Q I (q (inv_tks I))⟩
def dMethX (C : Addr) (m : Str) (n : Nat) (dsp : DSpX) (RX : DXk) (to : TD) (ts : TDA) : TD := fun δ G Q => to δ G fun x G1 => ∃ a fs, x = .ref a ∧ G1 a = some (.obj C fs) ∧ fs.lookup m = none ∧ ts δ G1 fun ds G2 => (x :: ds).length = n ∧ dsp (x :: ds) G2 Q RX
theorem w_methX {n : Nat} {δ : DSt} {G : DG} {Q : DK} (h : to δ G fun x G1 => ∃ a fs, x = .ref a ∧ G1 a = some (.obj C fs) ∧ fs.lookup m = none ∧ ts δ G1 fun ds G2 => (x :: ds).length = n ∧ dsp (x :: ds) G2 Q RX) : dMethX C m n dsp RX to ts δ G Q := h
end
end DD
set_option maxHeartbeats 1000000
namespace K64
open PySem PySem.W L2 SX Cm DD
local macro_rules | `(tactic| walk_at "d1") => `(tactic| first | (with_reducible refine w_go ?_) | ((with_reducible show dVar _ _ _ _); refine w_var rfl ?_) | (with_reducible refine w_exI ?_) | (with_reducible refine w_exB ?_) | (with_reducible refine w_exT ?_) | (with_reducible refine w_exS ?_) | (with_reducible refine w_parE ?_) | (with_reducible refine ly1 ?_) | (with_reducible refine ly2 ?_) | (with_reducible refine lt1' ?_) | (with_reducible refine lt2' ?_) | (with_reducible refine wx_enumT ?_) | (with_reducible refine w_callX ?_) | (with_reducible refine w_methX ?_) | (with_reducible refine w_raise ?_) | (with_reducible refine w_try ?_) | (with_reducible refine w_xSet ?_) | (with_reducible refine w_xExpr ?_) | (with_reducible refine w_xLst ?_) | (with_reducible refine w_xTup ?_) | (with_reducible refine w_xCons ?_) | (with_reducible refine w_xNil ?_) | (with_reducible refine w_xE ?_) | (with_reducible refine w_xCall ?_) | (with_reducible refine w_call0 ?_) | (with_reducible refine w_asgL ?_) | (with_reducible refine w_tupPd ?_) | (with_reducible refine wi_zip ?_) | (with_reducible refine w_delT ?_) | (with_reducible refine w_dc ?_) | (with_reducible refine w_revL ?_) | (with_reducible refine wi_revT ?_) | (with_reducible refine w_lstZip ?_) | (with_reducible refine w_chain ?_) | (with_reducible refine w_orT ?_) | ((with_reducible show gT _ _ _ _ _ _); refine g_T ?_ rfl) | ((with_reducible show ∃ p, DV.ref _ = _ ∧ (∃ kvs, _) ∧ _); refine wx_get (by walk_at "gq") ?_) | ((with_reducible show ∃ kvs z, _ = _ ∧ _ = some (DO.dct _) ∧ _); refine wx_get2 (by walk_at "gq") ?_) | ((with_reducible show ∃ p kvs z, _ = _ ∧ _ = _ ∧ _ = some (DO.dct _) ∧ _); refine wx_in (by walk_at "gq") ?_) | ((with_reducible show List.length _ = _ ∧ _); refine w_len ?_ rfl) | ((with_reducible show List.length _ ≤ sizeLine ∧ _); refine w_sz ?_ (szl rfl)) | ((with_reducible show bIx _ (.int _) _ _); first | refine w_ix0 ?_ | refine w_ix1 ?_ | refine w_ix2 ?_ | refine w_ix3 ?_) | ((with_reducible show bIsi [_, _] _ _); first | refine w_isi (by decide) (a := "tuple") rfl rfl ?_ | refine w_isi (by decide) (a := "str") rfl rfl ?_ | refine w_isi (by decide) (a := "int") rfl rfl ?_ | refine w_isi (by decide) (a := "bool") rfl rfl ?_ | refine w_isi (by decide) (a := "NoneType") rfl rfl ?_) | ((with_reducible show ∃ ds, _ = DV.tup ds ∧ _); refine w_exT ?_) | ((with_reducible show ∃ z, _ = DV.str z ∧ _); refine w_exS ?_) | ((with_reducible show ∃ ds, [_] = [DV.tup ds] ∧ _); refine wx_enumT ?_) | ((with_reducible show bSl _ _ _ _ _); refine w_slT ?_) | ((with_reducible show bTuple [_] _ _); refine w_tupT ?_) | ((with_reducible show bLen [_] _ _); refine w_lenT ?_) | ((with_reducible show bTru _ _ _); first | refine w_truT ?_ | refine w_truN ?_ | refine w_truB ?_ | refine w_truI ?_) | ((with_reducible show bEq _ _ _ _ _); first | refine w_eqSS ?_ | refine w_eqII ?_ | refine w_neSS ?_ | refine w_neII ?_ | refine w_eqT0 ?_) | ((with_reducible show bInt _ _ (.int _) (.int _) _ _); refine w_int (by first | decide | exact ⟨by decide, by decide, by decide⟩ | exact .inl ⟨by decide, by decide⟩ | exact .inr ⟨by decide, by decide⟩) ?_) | ((with_reducible show if _ = true then _ else _); first | refine w_it (by first | rfl | decide +kernel) ?_ | refine w_if0 (by first | rfl | decide +kernel) ?_) | ((with_reducible show rcv "list" (.ref _) _ ∧ _); refine w_rcvL (by walk_at "gq") ?_) | ((with_reducible show bTuple [.ref _] _ _); refine w_tupL (by walk_at "gq") ?_) | ((with_reducible show bLen [.ref _] _ _); refine w_lenL (by walk_at "gq") ?_) | ((with_reducible show bTru (.ref _) _ _); refine w_truL (by walk_at "gq") ?_) | ((with_reducible show ∃ _ _, DV.ref _ = _ ∧ Ls _ _ _ ∧ _); refine wx_lst (by walk_at "gq") ?_) | ((with_reducible show ∃ _ _, [DV.ref _] = _ ∧ Ls _ _ _ ∧ _); refine wx_lstA (by walk_at "gq") ?_))
local macro_rules | `(tactic| walk_at "dd") => `(tactic| repeat (walk_at "d1"))
local macro_rules | `(tactic| walk_at "gq") => `(tactic| first | assumption | exact dupd_same | exact sub_get (by assumption) (by walk_at "gq") | exact upd_get (by assumption) (by walk_at "gq") (by walk_at "gn") | exact subx_get (by assumption) (by walk_at "gq") (by walk_at "gn") | (refine (dupd_ne ?_).trans ?_; (focus walk_at "gn"); walk_at "gq"))
local macro_rules | `(tactic| walk_at "gs") => `(tactic| first | assumption | exact Sub.refl _ | exact sub_tr (by assumption) (by walk_at "gs") | exact sub_up (by assumption) (by walk_at "gs") (by walk_at "g0") | exact sub_ux (by assumption) (by walk_at "gs") (by walk_at "g0") | (refine Sub.new ?_ ?_; (focus walk_at "gs"); walk_at "g0"))
local macro_rules | `(tactic| walk_at "gk") => `(tactic| first | assumption | exact db_sub (by assumption) (by walk_at "gk") | exact db_upd (by assumption) (by walk_at "gk") ⟨_, by walk_at "gq"⟩ | exact db_updD (by assumption) (by walk_at "gk") ⟨_, by walk_at "gq"⟩)
local macro_rules | `(tactic| walk_at "gu") => `(tactic| first | assumption | exact Upd.refl _ _ | exact upd_in (by assumption) (by walk_at "gu"))
local macro_rules | `(tactic| walk_at "gx") => `(tactic| first | assumption | exact SubX.refl _ _ | exact subx_sub (by assumption) (by walk_at "gx") | exact subx_upd (by assumption) (by walk_at "gx") | exact subx_tr (by assumption) (by walk_at "gx"))
local macro_rules | `(tactic| walk_at "gn") => `(tactic| first | assumption | exact Ne.symm (by assumption) | exact ne_ns (by assumption) ⟨_, by walk_at "gq"⟩ | exact ne_sn (by assumption) ⟨_, by walk_at "gq"⟩)
local macro_rules | `(tactic| walk_at "g0") => `(tactic| first | assumption | exact nn_ (by assumption) (by walk_at "gs"))
/-- the sort of a thing, and what it holds -/
def nmT : Th → Str
  | .num _ => "number"
  | .row _ => "row"
  | .lst _ => "list"
def inT : Th → DV
  | .num n => .int n
  | .row ws => .tup (eWs ws)
  | .lst ts => .tup (eTs ts)
theorem eT_eq : ∀ t, eT t = .tup [.str (nmT t), inT t]
  | .num _ => rfl
  | .row _ => rfl
  | .lst _ => rfl
/-- what is handed to a word for a thing -/
def hldD (s : Str) (t : Th) : DV := if s = "any" then eT t else inT t
def hlds (ss : List Str) (ts : List Th) : List DV := (ss.zip ts).map fun p => hldD p.1 p.2
/-- a thing at the top is small enough to reckon with -/
def Top (t : Th) : Prop := ∀ n, t = .num n → NumOk n
/-- what the words that codes have make -/
def numF (z : Str) (a b : Int) : Option Int :=
  if z = "plus" then some (a + b) else if z = "minus" then some (a - b) else if z = "times" then some (a * b) else
  if z = "less" then some (if decide (a < b) = true then 1 else 0) else if z = "same" then some (if decide (a = b) = true then 1 else 0) else none
def opT (z : Str) : List Th → Option Th
  | [.num a, .num b] => (numF z a b).map fun n => .num (n % 1000000000000)
  | [.lst ts, x] => if z = "put" then some (.lst (ts ++ [x])) else none
  | [.row p, .row q] => if z = "join" then some (.row (p ++ q)) else none
  | [x] => if z = "wrap" then some (.row [.push x]) else none
  | _ => none
theorem opT_num (z : Str) (a b : Int) : opT z [.num a, .num b] = (numF z a b).map fun n => .num (n % 1000000000000) := rfl
theorem opT_lst (z : Str) (p : List Th) (y : Th) : opT z [.lst p, y] = if z = "put" then some (.lst (p ++ [y])) else none := by cases y <;> rfl
theorem opT_row (z : Str) (p q : List Wo) : opT z [.row p, .row q] = if z = "join" then some (.row (p ++ q)) else none := rfl
theorem opT_one (z : Str) (x : Th) : opT z [x] = if z = "wrap" then some (.row [.push x]) else none := by cases x <;> rfl
theorem numF_put (a b : Int) : numF "put" a b = none := by unfold numF; rw [if_neg (by decide +kernel), if_neg (by decide +kernel), if_neg (by decide +kernel), if_neg (by decide +kernel), if_neg (by decide +kernel)]
theorem numF_join (a b : Int) : numF "join" a b = none := by unfold numF; rw [if_neg (by decide +kernel), if_neg (by decide +kernel), if_neg (by decide +kernel), if_neg (by decide +kernel), if_neg (by decide +kernel)]
def NUMS : List Str := ["plus", "minus", "times", "less", "same"]
theorem mak_in {z : Str} (h : z ∈ MAK) : z ∈ NUMS ∨ z = "put" ∨ z = "join" ∨ z = "wrap" := by
  simp only [MAK, NUMS, List.mem_cons, List.not_mem_nil, or_false] at h ⊢
  rcases h with h | h | h | h | h | h | h | h
  · exact .inl (.inl h)
  · exact .inl (.inr (.inl h))
  · exact .inl (.inr (.inr (.inl h)))
  · exact .inl (.inr (.inr (.inr (.inl h))))
  · exact .inl (.inr (.inr (.inr (.inr h))))
  · exact .inr (.inl h)
  · exact .inr (.inr (.inl h))
  · exact .inr (.inr (.inr h))
theorem nums_srt : ∀ z ∈ NUMS, srt z = [("number" : Str), ("number" : Str)] ∧ (numF z 0 0).isSome = true ∧ z ≠ "put" ∧ z ≠ "join" ∧ z ≠ "wrap" := by decide +kernel
theorem put_srt : srt "put" = [("list" : Str), ("any" : Str)] := by decide +kernel
theorem join_srt : srt "join" = [("row" : Str), ("row" : Str)] := by decide +kernel
theorem wrap_srt : srt "wrap" = [("any" : Str)] := by decide +kernel
theorem numF_some {z : Str} (h : (numF z 0 0).isSome = true) (a b : Int) : ∃ n, numF z a b = some n := by
  unfold numF at h ⊢
  split
  · exact ⟨_, rfl⟩
  · split
    · exact ⟨_, rfl⟩
    · split
      · exact ⟨_, rfl⟩
      · split
        · exact ⟨_, rfl⟩
        · split
          · exact ⟨_, rfl⟩
          · rename_i h1 h2 h3 h4 h5
            rw [if_neg h1, if_neg h2, if_neg h3, if_neg h4, if_neg h5] at h
            cases h
theorem two_of {α : Type} {xs : List α} (h : xs.length = 2) : ∃ a b, xs = [a, b] := by
  match xs, h with
  | [a, b], _ => exact ⟨a, b, rfl⟩
theorem one_of {α : Type} {xs : List α} (h : xs.length = 1) : ∃ a, xs = [a] := by
  match xs, h with
  | [a], _ => exact ⟨a, rfl⟩
/-- either all the things are of the sorts that the word takes, or one is not -/
theorem op_know {z : Str} {ts : List Th} (hz : z ∈ MAK) (hl : ts.length = (srt z).length) :
    ((∃ t, opT z ts = some t) ∧ ∀ (i : Nat) (s : Str) (t : Th), (srt z)[i]? = some s → ts[i]? = some t → s = "any" ∨ s = nmT t) ∨
    (opT z ts = none ∧ ∃ (i : Nat) (s : Str) (t : Th), (srt z)[i]? = some s ∧ ts[i]? = some t ∧ s ≠ "any" ∧ s ≠ nmT t) := by
  have nn1 : ∀ ws, ("number" : Str) ≠ nmT (.row ws) := fun _ => by show ("number" : Str) ≠ "row"; decide +kernel
  have nn2 : ∀ ws, ("number" : Str) ≠ nmT (.lst ws) := fun _ => by show ("number" : Str) ≠ "list"; decide +kernel
  have rn1 : ∀ n, ("row" : Str) ≠ nmT (.num n) := fun _ => by show ("row" : Str) ≠ "number"; decide +kernel
  have rn2 : ∀ ws, ("row" : Str) ≠ nmT (.lst ws) := fun _ => by show ("row" : Str) ≠ "list"; decide +kernel
  have ln1 : ∀ n, ("list" : Str) ≠ nmT (.num n) := fun _ => by show ("list" : Str) ≠ "number"; decide +kernel
  have ln2 : ∀ ws, ("list" : Str) ≠ nmT (.row ws) := fun _ => by show ("list" : Str) ≠ "row"; decide +kernel
  have na : ("number" : Str) ≠ "any" := by decide +kernel
  have ra : ("row" : Str) ≠ "any" := by decide +kernel
  have la : ("list" : Str) ≠ "any" := by decide +kernel
  rcases mak_in hz with h | rfl | rfl | rfl
  · obtain ⟨e, hs, n1, n2, n3⟩ := nums_srt z h
    rw [e] at hl ⊢
    obtain ⟨x, y, rfl⟩ := two_of hl
    cases x with
    | num a =>
      cases y with
      | num b =>
        obtain ⟨n, hn⟩ := numF_some hs a b
        refine .inl ⟨⟨_, by rw [opT_num, hn]; rfl⟩, fun i s t h1 h2 => ?_⟩
        match i, h1, h2 with
        | 0, h1, h2 => cases h1; cases h2; exact .inr rfl
        | 1, h1, h2 => cases h1; cases h2; exact .inr rfl
      | row q => exact .inr ⟨rfl, 1, _, _, rfl, rfl, na, nn1 _⟩
      | lst q => exact .inr ⟨rfl, 1, _, _, rfl, rfl, na, nn2 _⟩
    | row p => exact .inr ⟨(match y with | .row q => by rw [opT_row, if_neg n2] | .num _ => rfl | .lst _ => rfl), 0, _, _, rfl, rfl, na, nn1 _⟩
    | lst p => exact .inr ⟨by rw [opT_lst, if_neg n1], 0, _, _, rfl, rfl, na, nn2 _⟩
  · rw [put_srt] at hl ⊢
    obtain ⟨x, y, rfl⟩ := two_of hl
    cases x with
    | num a => exact .inr ⟨(match y with | .num b => by rw [opT_num, numF_put]; rfl | .row _ => rfl | .lst _ => rfl), 0, _, _, rfl, rfl, la, ln1 _⟩
    | row p => exact .inr ⟨(match y with | .row q => by rw [opT_row, if_neg (by decide +kernel)] | .num _ => rfl | .lst _ => rfl), 0, _, _, rfl, rfl, la, ln2 _⟩
    | lst p =>
      refine .inl ⟨⟨_, by rw [opT_lst, if_pos rfl]⟩, fun i s t h1 h2 => ?_⟩
      match i, h1, h2 with
      | 0, h1, h2 => cases h1; cases h2; exact .inr rfl
      | 1, h1, h2 => cases h1; exact .inl rfl
  · rw [join_srt] at hl ⊢
    obtain ⟨x, y, rfl⟩ := two_of hl
    cases x with
    | num a => exact .inr ⟨(match y with | .num b => by rw [opT_num, numF_join]; rfl | .row _ => rfl | .lst _ => rfl), 0, _, _, rfl, rfl, ra, rn1 _⟩
    | lst p => exact .inr ⟨by rw [opT_lst, if_neg (by decide +kernel)], 0, _, _, rfl, rfl, ra, rn2 _⟩
    | row p =>
      cases y with
      | num b => exact .inr ⟨rfl, 1, _, _, rfl, rfl, ra, rn1 _⟩
      | lst q => exact .inr ⟨rfl, 1, _, _, rfl, rfl, ra, rn2 _⟩
      | row q =>
        refine .inl ⟨⟨_, by rw [opT_row, if_pos rfl]⟩, fun i s t h1 h2 => ?_⟩
        match i, h1, h2 with
        | 0, h1, h2 => cases h1; cases h2; exact .inr rfl
        | 1, h1, h2 => cases h1; cases h2; exact .inr rfl
  · rw [wrap_srt] at hl ⊢
    obtain ⟨x, rfl⟩ := one_of hl
    refine .inl ⟨⟨.row [.push x], by rw [opT_one, if_pos rfl]⟩, fun i s t h1 h2 => ?_⟩
    match i, h1, h2 with
    | 0, h1, h2 => cases h1; exact .inl rfl
/-- how large what is made is -/
theorem op_sz {z : Str} {ts : List Th} {t : Th} (h : opT z ts = some t) : szT t ≤ 2 + szTs ts ∧ dpT t ≤ 1 + dpTs ts ∧ Top t := by
  unfold opT at h
  split at h
  · rename_i a b
    obtain ⟨n, _, rfl⟩ := Option.map_eq_some_iff.mp h
    refine ⟨by show 1 ≤ _; omega, Nat.zero_le _, fun m e => ?_⟩
    cases e
    exact ⟨by omega, by omega⟩
  · rename_i us x
    split at h
    · cases h
      refine ⟨?_, ?_, fun m e => nomatch e⟩
      · show 1 + szTs (us ++ [x]) ≤ 2 + (1 + szTs us + (szT x + 0)); rw [szTs_app]; show 1 + (szTs us + (szT x + 0)) ≤ _; omega
      · show 1 + dpTs (us ++ [x]) ≤ 1 + max (1 + dpTs us) (max (dpT x) 0); rw [dpTs_app]; show 1 + max (dpTs us) (max (dpT x) 0) ≤ _; omega
    · cases h
  · rename_i p q
    split at h
    · cases h
      refine ⟨?_, ?_, fun m e => nomatch e⟩
      · show 1 + szWs (p ++ q) ≤ 2 + (1 + szWs p + (1 + szWs q + 0)); rw [szWs_app]; omega
      · show 1 + dpWs (p ++ q) ≤ 1 + max (1 + dpWs p) (max (1 + dpWs q) 0); rw [dpWs_app]; omega
    · cases h
  · rename_i x
    split at h
    · cases h
      refine ⟨?_, ?_, fun m e => nomatch e⟩
      · show 1 + ((1 + szT x) + 0) ≤ 2 + (szT x + 0); omega
      · show 1 + max (dpT x) 0 ≤ 1 + max (dpT x) 0; omega
    · cases h
  · cases h
end K64
set_option maxHeartbeats 1000000
namespace K64
open PySem PySem.W L2 SX Cm DD
local macro_rules | `(tactic| walk_at "d1") => `(tactic| first | (with_reducible refine w_go ?_) | ((with_reducible show dVar _ _ _ _); refine w_var rfl ?_) | (with_reducible refine w_exI ?_) | (with_reducible refine w_exB ?_) | (with_reducible refine w_exT ?_) | (with_reducible refine w_exS ?_) | (with_reducible refine w_parE ?_) | (with_reducible refine ly1 ?_) | (with_reducible refine ly2 ?_) | (with_reducible refine lt1' ?_) | (with_reducible refine lt2' ?_) | (with_reducible refine wx_enumT ?_) | (with_reducible refine w_callX ?_) | (with_reducible refine w_methX ?_) | (with_reducible refine w_raise ?_) | (with_reducible refine w_try ?_) | (with_reducible refine w_xSet ?_) | (with_reducible refine w_xExpr ?_) | (with_reducible refine w_xLst ?_) | (with_reducible refine w_xTup ?_) | (with_reducible refine w_xCons ?_) | (with_reducible refine w_xNil ?_) | (with_reducible refine w_xE ?_) | (with_reducible refine w_xCall ?_) | (with_reducible refine w_call0 ?_) | (with_reducible refine w_asgL ?_) | (with_reducible refine w_tupPd ?_) | (with_reducible refine wi_zip ?_) | (with_reducible refine w_delT ?_) | (with_reducible refine w_dc ?_) | (with_reducible refine w_revL ?_) | (with_reducible refine wi_revT ?_) | (with_reducible refine w_lstZip ?_) | (with_reducible refine w_chain ?_) | (with_reducible refine w_orT ?_) | ((with_reducible show gT _ _ _ _ _ _); refine g_T ?_ rfl) | ((with_reducible show ∃ p, DV.ref _ = _ ∧ (∃ kvs, _) ∧ _); refine wx_get (by walk_at "gq") ?_) | ((with_reducible show ∃ kvs z, _ = _ ∧ _ = some (DO.dct _) ∧ _); refine wx_get2 (by walk_at "gq") ?_) | ((with_reducible show ∃ p kvs z, _ = _ ∧ _ = _ ∧ _ = some (DO.dct _) ∧ _); refine wx_in (by walk_at "gq") ?_) | ((with_reducible show List.length _ = _ ∧ _); refine w_len ?_ rfl) | ((with_reducible show List.length _ ≤ sizeLine ∧ _); refine w_sz ?_ (szl rfl)) | ((with_reducible show bIx _ (.int _) _ _); first | refine w_ix0 ?_ | refine w_ix1 ?_ | refine w_ix2 ?_ | refine w_ix3 ?_) | ((with_reducible show bIsi [_, _] _ _); first | refine w_isi (by decide) (a := "tuple") rfl rfl ?_ | refine w_isi (by decide) (a := "str") rfl rfl ?_ | refine w_isi (by decide) (a := "int") rfl rfl ?_ | refine w_isi (by decide) (a := "bool") rfl rfl ?_ | refine w_isi (by decide) (a := "NoneType") rfl rfl ?_) | ((with_reducible show ∃ ds, _ = DV.tup ds ∧ _); refine w_exT ?_) | ((with_reducible show ∃ z, _ = DV.str z ∧ _); refine w_exS ?_) | ((with_reducible show ∃ ds, [_] = [DV.tup ds] ∧ _); refine wx_enumT ?_) | ((with_reducible show bSl _ _ _ _ _); refine w_slT ?_) | ((with_reducible show bTuple [_] _ _); refine w_tupT ?_) | ((with_reducible show bLen [_] _ _); refine w_lenT ?_) | ((with_reducible show bTru _ _ _); first | refine w_truT ?_ | refine w_truN ?_ | refine w_truB ?_ | refine w_truI ?_) | ((with_reducible show bEq _ _ _ _ _); first | refine w_eqSS ?_ | refine w_eqII ?_ | refine w_neSS ?_ | refine w_neII ?_ | refine w_eqT0 ?_) | ((with_reducible show bInt _ _ (.int _) (.int _) _ _); refine w_int (by first | decide | exact ⟨by decide, by decide, by decide⟩ | exact .inl ⟨by decide, by decide⟩ | exact .inr ⟨by decide, by decide⟩) ?_) | ((with_reducible show if _ = true then _ else _); first | refine w_it (by first | rfl | decide +kernel) ?_ | refine w_if0 (by first | rfl | decide +kernel) ?_) | ((with_reducible show rcv "list" (.ref _) _ ∧ _); refine w_rcvL (by walk_at "gq") ?_) | ((with_reducible show bTuple [.ref _] _ _); refine w_tupL (by walk_at "gq") ?_) | ((with_reducible show bLen [.ref _] _ _); refine w_lenL (by walk_at "gq") ?_) | ((with_reducible show bTru (.ref _) _ _); refine w_truL (by walk_at "gq") ?_) | ((with_reducible show ∃ _ _, DV.ref _ = _ ∧ Ls _ _ _ ∧ _); refine wx_lst (by walk_at "gq") ?_) | ((with_reducible show ∃ _ _, [DV.ref _] = _ ∧ Ls _ _ _ ∧ _); refine wx_lstA (by walk_at "gq") ?_))
local macro_rules | `(tactic| walk_at "dd") => `(tactic| repeat (walk_at "d1"))
local macro_rules | `(tactic| walk_at "gq") => `(tactic| first | assumption | exact dupd_same | exact sub_get (by assumption) (by walk_at "gq") | exact upd_get (by assumption) (by walk_at "gq") (by walk_at "gn") | exact subx_get (by assumption) (by walk_at "gq") (by walk_at "gn") | (refine (dupd_ne ?_).trans ?_; (focus walk_at "gn"); walk_at "gq"))
local macro_rules | `(tactic| walk_at "gs") => `(tactic| first | assumption | exact Sub.refl _ | exact sub_tr (by assumption) (by walk_at "gs") | exact sub_up (by assumption) (by walk_at "gs") (by walk_at "g0") | exact sub_ux (by assumption) (by walk_at "gs") (by walk_at "g0") | (refine Sub.new ?_ ?_; (focus walk_at "gs"); walk_at "g0"))
local macro_rules | `(tactic| walk_at "gk") => `(tactic| first | assumption | exact db_sub (by assumption) (by walk_at "gk") | exact db_upd (by assumption) (by walk_at "gk") ⟨_, by walk_at "gq"⟩ | exact db_updD (by assumption) (by walk_at "gk") ⟨_, by walk_at "gq"⟩)
local macro_rules | `(tactic| walk_at "gu") => `(tactic| first | assumption | exact Upd.refl _ _ | exact upd_in (by assumption) (by walk_at "gu"))
local macro_rules | `(tactic| walk_at "gx") => `(tactic| first | assumption | exact SubX.refl _ _ | exact subx_sub (by assumption) (by walk_at "gx") | exact subx_upd (by assumption) (by walk_at "gx") | exact subx_tr (by assumption) (by walk_at "gx"))
local macro_rules | `(tactic| walk_at "gn") => `(tactic| first | assumption | exact Ne.symm (by assumption) | exact ne_ns (by assumption) ⟨_, by walk_at "gq"⟩ | exact ne_sn (by assumption) ⟨_, by walk_at "gq"⟩)
local macro_rules | `(tactic| walk_at "g0") => `(tactic| first | assumption | exact nn_ (by assumption) (by walk_at "gs"))
theorem numF_plus (a b : Int) : numF "plus" a b = some (a + b) := by unfold numF; rw [if_pos rfl]
theorem numF_minus (a b : Int) : numF "minus" a b = some (a - b) := by unfold numF; rw [if_neg (by decide +kernel), if_pos rfl]
theorem numF_times (a b : Int) : numF "times" a b = some (a * b) := by unfold numF; rw [if_neg (by decide +kernel), if_neg (by decide +kernel), if_pos rfl]
theorem numF_less (a b : Int) : numF "less" a b = some (if decide (a < b) = true then 1 else 0) := by unfold numF; rw [if_neg (by decide +kernel), if_neg (by decide +kernel), if_neg (by decide +kernel), if_pos rfl]
theorem numF_same (a b : Int) : numF "same" a b = some (if decide (a = b) = true then 1 else 0) := by unfold numF; rw [if_neg (by decide +kernel), if_neg (by decide +kernel), if_neg (by decide +kernel), if_neg (by decide +kernel), if_pos rfl]
theorem nums_inv {z : Str} {ts : List Th} {t : Th} (hz : z ∈ NUMS) (hl : ts.length = (srt z).length) (h : opT z ts = some t) : ∃ a b n, ts = [.num a, .num b] ∧ numF z a b = some n ∧ t = .num (n % 1000000000000) ∧ hlds (srt z) ts = [.int a, .int b] := by
  obtain ⟨e, hs, n1, n2, n3⟩ := nums_srt z hz
  rw [e] at hl ⊢
  obtain ⟨x, y, rfl⟩ := two_of hl
  cases x with
  | num a =>
    cases y with
    | num b =>
      rw [opT_num] at h
      obtain ⟨n, hn, rfl⟩ := Option.map_eq_some_iff.mp h
      refine ⟨a, b, n, rfl, hn, rfl, ?_⟩
      show [hldD "number" (.num a), hldD "number" (.num b)] = _
      unfold hldD
      rw [if_neg (by decide +kernel), if_neg (by decide +kernel)]; rfl
    | row q => cases h
    | lst q => cases h
  | row p =>
    cases y with
    | num b => cases h
    | row q => rw [opT_row, if_neg n2] at h; cases h
    | lst q => cases h
  | lst p => rw [opT_lst, if_neg n1] at h; cases h
theorem put_inv {ts : List Th} {t : Th} (hl : ts.length = (srt "put").length) (h : opT "put" ts = some t) : ∃ p x, ts = [.lst p, x] ∧ t = .lst (p ++ [x]) ∧ hlds (srt "put") ts = [.tup (eTs p), eT x] := by
  rw [put_srt] at hl ⊢
  obtain ⟨x, y, rfl⟩ := two_of hl
  cases x with
  | num a =>
    cases y with
    | num b => rw [opT_num, numF_put] at h; cases h
    | row q => cases h
    | lst q => cases h
  | row p =>
    cases y with
    | num b => cases h
    | row q => rw [opT_row, if_neg (by decide +kernel)] at h; cases h
    | lst q => cases h
  | lst p =>
    rw [opT_lst, if_pos rfl] at h
    cases h
    refine ⟨p, y, rfl, rfl, ?_⟩
    show [hldD "list" (.lst p), hldD "any" y] = _
    unfold hldD
    rw [if_neg (by decide +kernel), if_pos rfl]; rfl
theorem join_inv {ts : List Th} {t : Th} (hl : ts.length = (srt "join").length) (h : opT "join" ts = some t) : ∃ p q, ts = [.row p, .row q] ∧ t = .row (p ++ q) ∧ hlds (srt "join") ts = [.tup (eWs p), .tup (eWs q)] := by
  rw [join_srt] at hl ⊢
  obtain ⟨x, y, rfl⟩ := two_of hl
  cases x with
  | num a =>
    cases y with
    | num b => rw [opT_num, numF_join] at h; cases h
    | row q => cases h
    | lst q => cases h
  | row p =>
    cases y with
    | num b => cases h
    | row q =>
      rw [opT_row, if_pos rfl] at h
      cases h
      refine ⟨p, q, rfl, rfl, ?_⟩
      show [hldD "row" (.row p), hldD "row" (.row q)] = _
      unfold hldD
      rw [if_neg (by decide +kernel), if_neg (by decide +kernel)]; rfl
    | lst q => cases h
  | lst p => rw [opT_lst, if_neg (by decide +kernel)] at h; cases h
theorem wrap_inv {ts : List Th} {t : Th} (hl : ts.length = (srt "wrap").length) (h : opT "wrap" ts = some t) : ∃ x, ts = [x] ∧ t = .row [.push x] ∧ hlds (srt "wrap") ts = [eT x] := by
  rw [wrap_srt] at hl ⊢
  obtain ⟨x, rfl⟩ := one_of hl
  rw [opT_one, if_pos rfl] at h
  cases h
  refine ⟨x, rfl, rfl, ?_⟩
  show [hldD "any" x] = _
  unfold hldD
  rw [if_pos rfl]
section
variable {P : Program} {w : World} {K : Frag} {mg : Str → Option Value} {base : Heap}
def SP_to (N : Addr) : DSpX := fun ds G R RX => ∃ ts n, ds = [.tup (eTs ts), .int (n : Nat)] ∧ ts.length ≤ 1000 ∧ (n ≤ ts.length → R (.tup (eTs (ts.drop (ts.length - n)))) G) ∧ (ts.length < n → RX (.ref N) G)
def SP_ha (N : Addr) : DSpX := fun ds G R RX => ∃ s t, ds = [.str s, eT t] ∧ (s = "any" → R (eT t) G) ∧ (s ≠ "any" → s = nmT t → R (inT t) G) ∧ (s ≠ "any" → s ≠ nmT t → RX (.ref N) G)
def SP_nt : DSp := fun ds G R => ∃ n, ds = [.int n] ∧ R (.tup [.str "number", .int (n % 1000000000000)]) G
def SP_dm (z : Str) : DSp := fun ds G R => ∃ p ts t, ds = [.ref p] ∧ G p = some (.lst (hlds (srt z) ts)) ∧ ts.length = (srt z).length ∧ opT z ts = some t ∧ (∀ t ∈ ts, Top t) ∧ szTs ts ≤ 100000 ∧ R (.tup [.tup [eT t], .tup []]) G
abbrev N_p_top_of : List Str := ["stack", "many"]
abbrev A_p_top_of : List Str := ["stack", "many"]
theorem sc_p_top_of : FnScope N_p_top_of A_p_top_of (defScope s_p_top_of) := ⟨rfl, rfl, rfl, by decide +kernel, rfl, by decide +kernel, by decide +kernel⟩
theorem h_p_top_of (a : At K mg "top_of" s_p_top_of A_p_top_of) (B : BI mg) {e_NoStep : Addr} (x_NoStep : ErrC K mg "NoStep" e_NoStep) : HasX P w K mg base 1 "top_of" A_p_top_of (SP_to e_NoStep) := by
  refine atx_mk a sc_p_top_of fun f cdv A outer s H E hr ds G R RX hl hx h => ?_
  refine ⟨_, (dss_cons (ds_if (dt_cmp od_lt (de_callB cd_len B.len rfl (by decide +kernel) (da_cons (dv 0) da_nil)) (dv 1) (nomark _)) (dss_one (ds_raiseC x_NoStep rfl hx (takes_of rfl rfl rfl rfl) rfl)) dss_nil)
    (dss_one (ds_ret (de_slice (dv 0) (do_some (de_op od_sub (de_callB cd_len B.len rfl (by decide +kernel) (da_cons (dv 0) da_nil)) (dv 1))) do_none)))), ?_⟩
  obtain ⟨ts, n, rfl, l, q, qx⟩ := h
  walk_at "dd"
  rw [eTs_len]
  by_cases h : ts.length < n
  · refine w_it (decide_eq_true (by omega)) ?_
    walk_at "dd"
    exact LessX.of (qx h)
  · refine w_if0 (decide_eq_false (by omega)) ?_
    walk_at "dd"
    rw [eTs_len, show ((ts.length : Int) - (n : Nat)) = ((ts.length - n : Nat) : Int) from by omega, cutD_from, eTs_map, ← List.map_drop, ← eTs_map]
    exact Less.of (q (by omega))
abbrev N_p_held_as : List Str := ["sort", "thing"]
abbrev A_p_held_as : List Str := ["sort", "thing"]
theorem sc_p_held_as : FnScope N_p_held_as A_p_held_as (defScope s_p_held_as) := ⟨rfl, rfl, rfl, by decide +kernel, rfl, by decide +kernel, by decide +kernel⟩
theorem h_p_held_as (a : At K mg "held_as" s_p_held_as A_p_held_as) (B : BI mg) {e_NoStep : Addr} (x_NoStep : ErrC K mg "NoStep" e_NoStep) : HasX P w K mg base 1 "held_as" A_p_held_as (SP_ha e_NoStep) := by
  refine atx_mk a sc_p_held_as fun f cdv A outer s H E hr ds G R RX hl hx h => ?_
  refine ⟨_, (dss_cons (ds_if (dt_cmp (od_eq hr.units) (dv 0) de_str (nomark _)) (dss_one (ds_ret (dv 1))) dss_nil)
    (dss_cons (ds_if (dt_cmp (od_ne hr.units) (de_ix (dv 1) de_int) (dv 0) (nomark _)) (dss_one (ds_raiseC x_NoStep rfl hx (takes_of rfl rfl rfl rfl) rfl)) dss_nil)
    (dss_one (ds_ret (de_ix (dv 1) de_int))))), ?_⟩
  obtain ⟨s0, t, rfl, q1, q2, q3⟩ := h
  rw [eT_eq] at q1 ⊢
  walk_at "dd"
  by_cases h1 : s0 = "any"
  · refine w_it (decide_eq_true h1) ?_
    walk_at "dd"
    exact Less.of (q1 h1)
  refine w_if0 (decide_eq_false h1) ?_
  walk_at "dd"
  by_cases h2 : s0 = nmT t
  · refine w_if0 (by show (!decide (nmT t = s0)) = false; rw [decide_eq_true h2.symm]; rfl) ?_
    walk_at "dd"
    exact Less.of (q2 h1 h2)
  · refine w_it (by show (!decide (nmT t = s0)) = true; rw [decide_eq_false (fun e => h2 e.symm)]; rfl) ?_
    walk_at "dd"
    exact LessX.of (q3 h1 h2)
abbrev N_p_number_thing : List Str := ["n"]
abbrev A_p_number_thing : List Str := ["n"]
theorem sc_p_number_thing : FnScope N_p_number_thing A_p_number_thing (defScope s_p_number_thing) := ⟨rfl, rfl, rfl, by decide +kernel, rfl, by decide +kernel, by decide +kernel⟩
theorem h_p_number_thing (a : At K mg "number_thing" s_p_number_thing A_p_number_thing) (B : BI mg) (g_NUMBERS : ∃ t, mg "NUMBERS" = some (.int 1000000000000 t)) : Has P w K mg base 1 "number_thing" A_p_number_thing SP_nt := by
  refine at_mk a sc_p_number_thing fun f cdv A outer s H E hr ds G R hl h => ?_
  refine ⟨_, (dss_one (ds_ret (de_tup (da_cons de_str (da_cons (de_op od_mod (dv 0) (de_gint g_NUMBERS rfl)) da_nil))))), ?_⟩
  obtain ⟨n, rfl, q⟩ := h
  walk_at "dd"
  exact Less.of q
abbrev N_p_plus_does : List Str := ["held", "m", "n"]
abbrev A_p_plus_does : List Str := ["held"]
theorem sc_p_plus_does : FnScope N_p_plus_does A_p_plus_does (defScope s_p_plus_does) := ⟨rfl, rfl, rfl, by decide +kernel, rfl, by decide +kernel, by decide +kernel⟩
theorem h_p_plus_does (a : At K mg "plus_does" s_p_plus_does A_p_plus_does) (B : BI mg) (c_p_number_thing : Has P w K mg base 1 "number_thing" A_p_number_thing SP_nt) : Has P w K mg base 2 "plus_does" A_p_plus_does (SP_dm "plus") := by
  refine at_mk a sc_p_plus_does fun f cdv A outer s H E hr ds G R hl h => ?_
  refine ⟨_, (dss_cons (ds_asg (dv 0) (dg_lst rfl (dgs_cons (dg_name (i := 1) sc_p_plus_does.nd rfl (.inl rfl)) (dgs_cons (dg_name (i := 2) sc_p_plus_does.nd rfl (.inl rfl)) dgs_nil))))
    (dss_one (ds_ret (de_tup (da_cons (de_tup (da_cons (de_call c_p_number_thing (hr.mono (by omega)) rfl (da_cons (de_op od_add (dv 1) (dv 2)) da_nil)) da_nil)) (da_cons (de_tup da_nil) da_nil)))))), ?_⟩
  obtain ⟨p, ts, t, rfl, hp, hl', ho, tp, zs, q⟩ := h
  obtain ⟨a0, b0, n, rfl, hn, rfl, e⟩ := nums_inv (z := "plus") (by decide +kernel) hl' ho
  rw [e] at hp
  rw [numF_plus] at hn
  cases hn
  obtain ⟨a1, a2⟩ := tp _ (List.mem_cons_self ..) _ rfl
  obtain ⟨b1, b2⟩ := tp _ (List.mem_cons_of_mem _ (List.mem_cons_self ..)) _ rfl
  walk_at "dd"
  refine ⟨p, _, rfl, .inl hp, rfl, ?_⟩
  walk_at "dd"
  refine ⟨_, rfl, ?_⟩
  walk_at "dd"
  exact Less.of q
abbrev N_p_minus_does : List Str := ["held", "m", "n"]
abbrev A_p_minus_does : List Str := ["held"]
theorem sc_p_minus_does : FnScope N_p_minus_does A_p_minus_does (defScope s_p_minus_does) := ⟨rfl, rfl, rfl, by decide +kernel, rfl, by decide +kernel, by decide +kernel⟩
theorem h_p_minus_does (a : At K mg "minus_does" s_p_minus_does A_p_minus_does) (B : BI mg) (c_p_number_thing : Has P w K mg base 1 "number_thing" A_p_number_thing SP_nt) : Has P w K mg base 2 "minus_does" A_p_minus_does (SP_dm "minus") := by
  refine at_mk a sc_p_minus_does fun f cdv A outer s H E hr ds G R hl h => ?_
  refine ⟨_, (dss_cons (ds_asg (dv 0) (dg_lst rfl (dgs_cons (dg_name (i := 1) sc_p_minus_does.nd rfl (.inl rfl)) (dgs_cons (dg_name (i := 2) sc_p_minus_does.nd rfl (.inl rfl)) dgs_nil))))
    (dss_one (ds_ret (de_tup (da_cons (de_tup (da_cons (de_call c_p_number_thing (hr.mono (by omega)) rfl (da_cons (de_op od_sub (dv 1) (dv 2)) da_nil)) da_nil)) (da_cons (de_tup da_nil) da_nil)))))), ?_⟩
  obtain ⟨p, ts, t, rfl, hp, hl', ho, tp, zs, q⟩ := h
  obtain ⟨a0, b0, n, rfl, hn, rfl, e⟩ := nums_inv (z := "minus") (by decide +kernel) hl' ho
  rw [e] at hp
  rw [numF_minus] at hn
  cases hn
  obtain ⟨a1, a2⟩ := tp _ (List.mem_cons_self ..) _ rfl
  obtain ⟨b1, b2⟩ := tp _ (List.mem_cons_of_mem _ (List.mem_cons_self ..)) _ rfl
  walk_at "dd"
  refine ⟨p, _, rfl, .inl hp, rfl, ?_⟩
  walk_at "dd"
  refine ⟨_, rfl, ?_⟩
  walk_at "dd"
  exact Less.of q
abbrev N_p_times_does : List Str := ["held", "m", "n"]
abbrev A_p_times_does : List Str := ["held"]
theorem sc_p_times_does : FnScope N_p_times_does A_p_times_does (defScope s_p_times_does) := ⟨rfl, rfl, rfl, by decide +kernel, rfl, by decide +kernel, by decide +kernel⟩
theorem h_p_times_does (a : At K mg "times_does" s_p_times_does A_p_times_does) (B : BI mg) (c_p_number_thing : Has P w K mg base 1 "number_thing" A_p_number_thing SP_nt) : Has P w K mg base 2 "times_does" A_p_times_does (SP_dm "times") := by
  refine at_mk a sc_p_times_does fun f cdv A outer s H E hr ds G R hl h => ?_
  refine ⟨_, (dss_cons (ds_asg (dv 0) (dg_lst rfl (dgs_cons (dg_name (i := 1) sc_p_times_does.nd rfl (.inl rfl)) (dgs_cons (dg_name (i := 2) sc_p_times_does.nd rfl (.inl rfl)) dgs_nil))))
    (dss_one (ds_ret (de_tup (da_cons (de_tup (da_cons (de_call c_p_number_thing (hr.mono (by omega)) rfl (da_cons (de_op od_mul (dv 1) (dv 2)) da_nil)) da_nil)) (da_cons (de_tup da_nil) da_nil)))))), ?_⟩
  obtain ⟨p, ts, t, rfl, hp, hl', ho, tp, zs, q⟩ := h
  obtain ⟨a0, b0, n, rfl, hn, rfl, e⟩ := nums_inv (z := "times") (by decide +kernel) hl' ho
  rw [e] at hp
  rw [numF_times] at hn
  cases hn
  obtain ⟨a1, a2⟩ := tp _ (List.mem_cons_self ..) _ rfl
  obtain ⟨b1, b2⟩ := tp _ (List.mem_cons_of_mem _ (List.mem_cons_self ..)) _ rfl
  walk_at "dd"
  refine ⟨p, _, rfl, .inl hp, rfl, ?_⟩
  walk_at "dd"
  refine w_int (.inl ⟨by omega, by omega⟩) ?_
  walk_at "dd"
  refine ⟨_, rfl, ?_⟩
  walk_at "dd"
  exact Less.of q
abbrev N_p_less_does : List Str := ["held", "m", "n"]
abbrev A_p_less_does : List Str := ["held"]
theorem sc_p_less_does : FnScope N_p_less_does A_p_less_does (defScope s_p_less_does) := ⟨rfl, rfl, rfl, by decide +kernel, rfl, by decide +kernel, by decide +kernel⟩
theorem h_p_less_does (a : At K mg "less_does" s_p_less_does A_p_less_does) (B : BI mg) (c_p_number_thing : Has P w K mg base 1 "number_thing" A_p_number_thing SP_nt) : Has P w K mg base 2 "less_does" A_p_less_does (SP_dm "less") := by
  refine at_mk a sc_p_less_does fun f cdv A outer s H E hr ds G R hl h => ?_
  refine ⟨_, (dss_cons (ds_asg (dv 0) (dg_lst rfl (dgs_cons (dg_name (i := 1) sc_p_less_does.nd rfl (.inl rfl)) (dgs_cons (dg_name (i := 2) sc_p_less_does.nd rfl (.inl rfl)) dgs_nil))))
    (dss_one (ds_ret (de_tup (da_cons (de_tup (da_cons (de_call c_p_number_thing (hr.mono (by omega)) rfl (da_cons (de_if (dt_cmp od_lt (dv 1) (dv 2) (nomark _)) de_int de_int) da_nil)) da_nil)) (da_cons (de_tup da_nil) da_nil)))))), ?_⟩
  obtain ⟨p, ts, t, rfl, hp, hl', ho, tp, zs, q⟩ := h
  obtain ⟨a0, b0, n, rfl, hn, rfl, e⟩ := nums_inv (z := "less") (by decide +kernel) hl' ho
  rw [e] at hp
  rw [numF_less] at hn
  cases hn
  obtain ⟨a1, a2⟩ := tp _ (List.mem_cons_self ..) _ rfl
  obtain ⟨b1, b2⟩ := tp _ (List.mem_cons_of_mem _ (List.mem_cons_self ..)) _ rfl
  walk_at "dd"
  refine ⟨p, _, rfl, .inl hp, rfl, ?_⟩
  walk_at "dd"
  refine w_iteD (fun hc => ?_) (fun hc => ?_)
  · walk_at "dd"
    refine ⟨_, rfl, ?_⟩
    walk_at "dd"
    rw [decide_eq_true hc, if_pos rfl] at q
    exact Less.of q
  · walk_at "dd"
    refine ⟨_, rfl, ?_⟩
    walk_at "dd"
    rw [decide_eq_false hc, if_neg Bool.false_ne_true] at q
    exact Less.of q
abbrev N_p_same_does : List Str := ["held", "m", "n"]
abbrev A_p_same_does : List Str := ["held"]
theorem sc_p_same_does : FnScope N_p_same_does A_p_same_does (defScope s_p_same_does) := ⟨rfl, rfl, rfl, by decide +kernel, rfl, by decide +kernel, by decide +kernel⟩
theorem h_p_same_does (a : At K mg "same_does" s_p_same_does A_p_same_does) (B : BI mg) (c_p_number_thing : Has P w K mg base 1 "number_thing" A_p_number_thing SP_nt) : Has P w K mg base 2 "same_does" A_p_same_does (SP_dm "same") := by
  refine at_mk a sc_p_same_does fun f cdv A outer s H E hr ds G R hl h => ?_
  refine ⟨_, (dss_cons (ds_asg (dv 0) (dg_lst rfl (dgs_cons (dg_name (i := 1) sc_p_same_does.nd rfl (.inl rfl)) (dgs_cons (dg_name (i := 2) sc_p_same_does.nd rfl (.inl rfl)) dgs_nil))))
    (dss_one (ds_ret (de_tup (da_cons (de_tup (da_cons (de_call c_p_number_thing (hr.mono (by omega)) rfl (da_cons (de_if (dt_cmp (od_eq hr.units) (dv 1) (dv 2) (nomark _)) de_int de_int) da_nil)) da_nil)) (da_cons (de_tup da_nil) da_nil)))))), ?_⟩
  obtain ⟨p, ts, t, rfl, hp, hl', ho, tp, zs, q⟩ := h
  obtain ⟨a0, b0, n, rfl, hn, rfl, e⟩ := nums_inv (z := "same") (by decide +kernel) hl' ho
  rw [e] at hp
  rw [numF_same] at hn
  cases hn
  obtain ⟨a1, a2⟩ := tp _ (List.mem_cons_self ..) _ rfl
  obtain ⟨b1, b2⟩ := tp _ (List.mem_cons_of_mem _ (List.mem_cons_self ..)) _ rfl
  walk_at "dd"
  refine ⟨p, _, rfl, .inl hp, rfl, ?_⟩
  walk_at "dd"
  refine w_iteD (fun hc => ?_) (fun hc => ?_)
  · walk_at "dd"
    refine ⟨_, rfl, ?_⟩
    walk_at "dd"
    rw [decide_eq_true hc, if_pos rfl] at q
    exact Less.of q
  · walk_at "dd"
    refine ⟨_, rfl, ?_⟩
    walk_at "dd"
    rw [decide_eq_false hc, if_neg Bool.false_ne_true] at q
    exact Less.of q
abbrev N_p_put_does : List Str := ["held", "things", "x"]
abbrev A_p_put_does : List Str := ["held"]
theorem sc_p_put_does : FnScope N_p_put_does A_p_put_does (defScope s_p_put_does) := ⟨rfl, rfl, rfl, by decide +kernel, rfl, by decide +kernel, by decide +kernel⟩
theorem h_p_put_does (a : At K mg "put_does" s_p_put_does A_p_put_does) (B : BI mg) : Has P w K mg base 2 "put_does" A_p_put_does (SP_dm "put") := by
  refine at_mk a sc_p_put_does fun f cdv A outer s H E hr ds G R hl h => ?_
  refine ⟨_, (dss_cons (ds_asg (dv 0) (dg_lst rfl (dgs_cons (dg_name (i := 1) sc_p_put_does.nd rfl (.inl rfl)) (dgs_cons (dg_name (i := 2) sc_p_put_does.nd rfl (.inl rfl)) dgs_nil))))
    (dss_one (ds_ret (de_tup (da_cons (de_tup (da_cons (de_tup (da_cons de_str (da_cons (de_op od_add (dv 1) (de_tup (da_cons (dv 2) da_nil))) da_nil))) da_nil)) (da_cons (de_tup da_nil) da_nil)))))), ?_⟩
  obtain ⟨p, ts, t, rfl, hp, hl', ho, tp, zs, q⟩ := h
  obtain ⟨us, x, rfl, rfl, e⟩ := put_inv hl' ho
  rw [e] at hp
  have zl := szTs_len us
  have zs' : (1 + szTs us) + (szT x + 0) ≤ 100000 := zs
  walk_at "dd"
  refine ⟨p, _, rfl, .inl hp, rfl, ?_⟩
  walk_at "dd"
  refine w_addT (mid (by rw [eTs_len]; show us.length + 1 ≤ 1000000; omega)) ?_
  walk_at "dd"
  have e2 : eT (.lst (us ++ [x])) = .tup [.str "list", .tup (eTs us ++ [eT x])] := by
    show DV.tup [.str "list", .tup (eTs (us ++ [x]))] = _
    rw [eTs_map, eTs_map, List.map_append]; rfl
  rw [e2] at q
  exact Less.of q
abbrev N_p_join_does : List Str := ["held", "p", "q"]
abbrev A_p_join_does : List Str := ["held"]
theorem sc_p_join_does : FnScope N_p_join_does A_p_join_does (defScope s_p_join_does) := ⟨rfl, rfl, rfl, by decide +kernel, rfl, by decide +kernel, by decide +kernel⟩
theorem h_p_join_does (a : At K mg "join_does" s_p_join_does A_p_join_does) (B : BI mg) : Has P w K mg base 2 "join_does" A_p_join_does (SP_dm "join") := by
  refine at_mk a sc_p_join_does fun f cdv A outer s H E hr ds G R hl h => ?_
  refine ⟨_, (dss_cons (ds_asg (dv 0) (dg_lst rfl (dgs_cons (dg_name (i := 1) sc_p_join_does.nd rfl (.inl rfl)) (dgs_cons (dg_name (i := 2) sc_p_join_does.nd rfl (.inl rfl)) dgs_nil))))
    (dss_one (ds_ret (de_tup (da_cons (de_tup (da_cons (de_tup (da_cons de_str (da_cons (de_op od_add (dv 1) (dv 2)) da_nil))) da_nil)) (da_cons (de_tup da_nil) da_nil)))))), ?_⟩
  obtain ⟨p, ts, t, rfl, hp, hl', ho, tp, zs, q⟩ := h
  obtain ⟨us, vs, rfl, rfl, e⟩ := join_inv hl' ho
  rw [e] at hp
  have zl := szWs_len us
  have zl2 := szWs_len vs
  have zs' : (1 + szWs us) + ((1 + szWs vs) + 0) ≤ 100000 := zs
  walk_at "dd"
  refine ⟨p, _, rfl, .inl hp, rfl, ?_⟩
  walk_at "dd"
  refine w_addT (mid (by rw [eWs_len, eWs_len]; omega)) ?_
  walk_at "dd"
  have e2 : eT (.row (us ++ vs)) = .tup [.str "row", .tup (eWs us ++ eWs vs)] := by
    show DV.tup [.str "row", .tup (eWs (us ++ vs))] = _
    rw [eWs_map, eWs_map, eWs_map, List.map_append]
  rw [e2] at q
  exact Less.of q
abbrev N_p_wrap_does : List Str := ["held"]
abbrev A_p_wrap_does : List Str := ["held"]
theorem sc_p_wrap_does : FnScope N_p_wrap_does A_p_wrap_does (defScope s_p_wrap_does) := ⟨rfl, rfl, rfl, by decide +kernel, rfl, by decide +kernel, by decide +kernel⟩
theorem h_p_wrap_does (a : At K mg "wrap_does" s_p_wrap_does A_p_wrap_does) (B : BI mg) : Has P w K mg base 2 "wrap_does" A_p_wrap_does (SP_dm "wrap") := by
  refine at_mk a sc_p_wrap_does fun f cdv A outer s H E hr ds G R hl h => ?_
  refine ⟨_, (dss_one (ds_ret (de_tup (da_cons (de_tup (da_cons (de_tup (da_cons de_str (da_cons (de_tup (da_cons (de_tup (da_cons de_str (da_cons (de_ix (dv 0) de_int) da_nil))) da_nil)) da_nil))) da_nil)) (da_cons (de_tup da_nil) da_nil))))), ?_⟩
  obtain ⟨p, ts, t, rfl, hp, hl', ho, tp, zs, q⟩ := h
  obtain ⟨x, rfl, rfl, e⟩ := wrap_inv hl' ho
  rw [e] at hp
  walk_at "dd"
  refine w_ixL hp (atI_nat (j := 0) rfl) ?_
  walk_at "dd"
  exact Less.of q
end
end K64
/-! the items of a module's dict with text keys: texts, tuples of texts, defs -/
namespace DD
open PySem PySem.W L2 SX Cm
/-- the dict at d holds r for the text z -/
def ItK (K : Frag) (w : World) (d : Addr) (z : Str) (r : DV) : Prop := ∃ v, KDct K w d z v ∧ ∀ H, RV K H v r
theorem itK_ref {K : Frag} {w : World} {d f : Addr} {es : Array DictEntry} {n : Nat} {z : Str} (l : K.lookup d = some ⟨.type "dict", none, .dict es n, #[]⟩) (lit : KeysLit w.params es.toList) (h : nsIn K d z = some (some (.ref f))) : ItK K w d z (.ref f) :=
  ⟨.ref f, ⟨es, n, _, l, lit, h, rfl⟩, fun H => .ref f⟩
def txsV : List Value → Option (List Str)
  | [] => some []
  | .str x _ :: r => (txsV r).map fun l => x :: l
  | _ => none
theorem txsV_ok {K : Frag} : ∀ {us : List Value} {xs : List Str}, txsV us = some xs → Vals (xs.map V.str) us
  | [], xs, h => by cases h; exact .nil
  | u :: r, xs, h => by
    cases u with
    | str x t =>
      have h' : (txsV r).map (fun l => x :: l) = some xs := h
      cases e : txsV r with
      | none => rw [e] at h'; cases h'
      | some l => rw [e] at h'; cases h'; exact .cons ⟨_, rfl⟩ (txsV_ok (K := K) e)
    | _ => cases h
/-- what stands in the dict at d for z: a tuple of texts -/
def itTx (K : Frag) (d : Addr) (z : Str) : Option (List Str) := match nsIn K d z with
  | some (some (.ref t)) => match K.lookup t with
    | some ⟨.type c, _, .seq its _, _⟩ => if c = "tuple" ∧ its.size ≤ 1000 then txsV its.toList else none
    | _ => none
  | _ => none
theorem itK_tx {K : Frag} {w : World} {d : Addr} {es : Array DictEntry} {n : Nat} {z : Str} {xs : List Str} (l : K.lookup d = some ⟨.type "dict", none, .dict es n, #[]⟩) (lit : KeysLit w.params es.toList) (h : itTx K d z = some xs) : ItK K w d z (.tup (xs.map .str)) := by
  unfold itTx at h
  split at h
  · rename_i t e
    cases e2 : K.lookup t with
    | none => rw [e2] at h; cases h
    | some o =>
      rw [e2] at h
      obtain ⟨oc, od, dt, sl⟩ := o
      cases oc with
      | type c =>
        cases dt with
        | seq its n2 =>
          have h' : (if c = "tuple" ∧ its.size ≤ 1000 then txsV its.toList else none) = some xs := h
          by_cases hc : c = "tuple" ∧ its.size ≤ 1000
          · rw [if_pos hc] at h'
            obtain ⟨rfl, hz⟩ := hc
            refine ⟨.ref t, ⟨es, n, _, l, lit, e, rfl⟩, fun H => .tup (xs := xs.map V.str) (.inr ⟨_, its, n2, e2, rfl, rfl, Nat.le_of_lt (small1000 hz), txsV_ok (K := K) h'⟩) (RVs.strs' xs)⟩
          · rw [if_neg hc] at h'; cases h'
        | _ => cases h
      | _ => cases h
  · cases h
section
variable {X : Cx} {d : Addr}
def bIxI (K : Frag) (w : World) : D2 := fun x y G Q => ∃ d z r, x = .ref d ∧ y = .str z ∧ ItK K w d z r ∧ Q r G
theorem de_kit {e1 e2 : Expr} {ta tb : TD} {pos : Pos} (ha : DE X e1 ta) (hb : DE X e2 tb) (hs : PlainIx e2 := by exact fun _ _ => rfl) : DE X (.Subscript e1 e2 pos) (dOp (bIxI X.K X.w) ta tb) := by
  refine PE_mono (pe_ix (ix_kdict (X := X)) ha hb hs) fun σ H Q h => bin_up (r := rIxD X.K X.w) (fun x y vx vy H G R Q rx ry w h f => ?_) h
  obtain ⟨d, z, r, rfl, rfl, ⟨v, k, rv⟩, q⟩ := h
  cases rx
  cases ry
  exact ⟨d, z, v, rfl, rfl, k, f _ _ _ _ q (TKs.refl H) w (rv H)⟩
theorem w_kit {K : Frag} {w : World} {z : Str} {r : DV} {G : DG} {Q : DK} (e : ItK K w d z r) (h : Q r G) : bIxI K w (.ref d) (.str z) G Q := ⟨d, z, r, rfl, rfl, e, h⟩
end
end DD
/-! a def whose last parameter is None where it is left out; two outcomes; if within try -/
namespace DD
open PySem PySem.W L2 SX Cm
end DD
/-! list comprehensions out of whose elements an error may come -/
namespace L2
open PySem PySem.Spec PyProof.Rows
/-- behind a comprehension's block: the value is used, or the error goes on; ce: the block's own environment -/
def PostX (M : Model) (A : Around) (E : Value → Shared → Prop) (use : Option (Value → Sem Unit)) (Q : Value → Shared → Prop) (acc : Value) (ce : Env) : Result → Shared → Prop
  | .ok f, s' => compPost M A E use Q acc ce.locals (.ok f) s'
  | .error x, s' => ∃ m, s'.heap.Ns ce.locals m ∧ ∀ h', Heap.SameBut ce.locals s'.heap h' → wpAny M A (passOn "comprehension.variables-let-go" x ce : Sem Value) (fun _ _ => False) E { s' with heap := h' }
theorem comp_open {M : Model} {A : Around} {E : Value → Shared → Prop} {s : Shared} {env : Env} {e : Expr} {sc : Scope} {pos : Pos} {mk fst : Sem Value} {g : Comprehension} {gs : List Comprehension} {cl : List (Str × Addr)} {use : Option (Value → Sem Unit)} {Q : Value → Shared → Prop}
    (k1 : clausesOf e = g :: gs) (k2 : ∀ x, foldedSetIterable g.iter env x = pure x) (k3 : closureFor sc env = pure cl) (k4 : sc.kind = .function) (k5 : ∀ x ∈ sc.names, x.2 = .local → sc.names.lookup x.1 = some .local)
    (k : wpAny M A fst (fun x t1 => wpAny M A (pyIter x) (fun it t2 => wpAny M A mk (fun acc t3 => wpAny M A (newFunctionEnv sc env.globals cl [] env.qual none .none (some env)) (fun ce t4 =>
      codeAny M A (.compStart e 0 it acc { ce with scope := relabel sc env }) (PostX M A E use Q acc { ce with scope := relabel sc env }) t4) E t3) E t2) E t1) E s) :
    wpAny M A (comprehension e sc env pos mk false fst use) Q E s := by
  unfold comprehension
  rw [k3, k1]
  have id' : ∀ (a : Value) (t : Shared), E a t → E a t := fun _ _ z => z
  refine wpAny_bind (wpAny_mono k (fun x t1 q1 => ?_) id')
  refine wpAny_bind (wpAny_standAt (wpAny_bind (wpAny_of_eq (k2 x) ?_)))
  refine wpAny_bind (wpAny_holding (wpAny_mono q1 (fun it t2 q2 => ?_) id'))
  refine wpAny_standIf (wpAny_bind (wpAny_mono q2 (fun acc t3 q3 => ?_) id'))
  refine wpAny_bind (wpAny_pure (wpAny_bind (wpAny_mono q3 (fun ce t4 q4 => ?_) id')))
  dsimp only
  have loc : ∀ y : Str × NameKind, y ∈ (sc.names.filter fun y => (y.2 == .local || y.2 == .cell) && y.1 != (".0" : Str)) → y.2 = .local → Env.kindOf { ce with scope := relabel sc env } y.1 = some .local := fun y hy hl =>
    lookup_relabel_local (k5 y (List.mem_filter.mp hy).1 hl)
  have loc1 : ∀ y : Str × NameKind, y ∈ (sc.names.filter fun y => (y.2 == .local || y.2 == .cell) && y.1 != (".0" : Str)).reverse → y.2 = .local → Env.kindOf { ce with scope := relabel sc env } y.1 = some .local := fun y hy hl =>
    loc y (List.mem_reverse.mp hy) hl
  refine wpAny_holding (wpAny_bind (wpAny_attempt (wpAny_holding (wpAny_run (codeAny_mono q4 fun r s' hr => ?_)))))
  cases r with
  | error x =>
    obtain ⟨m, n1, n2⟩ := hr
    refine wpAny_bind (wpAny_holding (wpAny_comp_letGo (cenv := { ce with scope := relabel sc env }) k4 _ s' m loc1 n1 fun h' m' _ sb => ?_))
    exact wpAny_mono (n2 h' sb) (fun _ _ z => z.elim) id'
  | ok f =>
    cases use with
    | none =>
      obtain ⟨m, n1, n2⟩ := hr
      refine wpAny_bind (wpAny_holding (wpAny_comp_letGo (cenv := { ce with scope := relabel sc env }) k4 _ s' m loc1 n1 fun h' m' _ sb => ?_))
      exact wpAny_pure (n2 h' sb)
    | some u =>
      refine wpAny_bind (wpAny_rule (wpAny_bind (wpAny_holding (wpAny_mono hr (fun _ s'' q => ?_) id'))))
      obtain ⟨m, n1, n2⟩ := q
      refine wpAny_bind (wpAny_comp_letGo (cenv := { ce with scope := relabel sc env }) k4 _ s'' m (fun y hy hl => ?_) n1 fun h' m' _ sb => wpAny_pure (n2 h' sb))
      rcases List.mem_append.mp hy with z | z
      · exact loc1 y (List.mem_of_mem_drop z) hl
      · exact loc1 y (List.mem_of_mem_take z) hl
theorem ns_dict {h : Heap} {C : Addr} {m : Str → Option Value} (n : h.Ns C m) : ∃ o, h.get? C = some o ∧ ∀ vs, o.data ≠ .fields vs := by
  obtain ⟨o, es, ep, ho, hd, _⟩ := n
  exact ⟨o, ho, fun vs z => by rw [hd] at z; cases z⟩
theorem ns_up {h h' : Heap} {C : Addr} {m : Str → Option Value} (n : h.Ns C m) (u : h.UpToSlots h') : h'.Ns C m := by
  obtain ⟨o, es, ep, ho, hd, r⟩ := n
  obtain ⟨sl, e⟩ := u C o ho fun vs z => by rw [hd] at z; cases z
  exact ⟨_, es, ep, e, hd, r⟩
section
variable {X : Cx} {pins : List (Addr × Obj)} {σ : St} {H : Hp} {s s' : Shared} {E : XK}
/-- an error that a call in the block at C let out -/
theorem fly_on {ce : Env} {C : Addr} {m : Str → Option Value} {use : Option (Value → Sem Unit)} {Qf : Value → Shared → Prop} {acc u : Value} (hs : X.stack = X.env :: X.outer) (hf : X.env.frame = some X.env.locals) (tk : Takes X (fun cls d _ H => E cls d H)) (I : Inv X pins σ H s)
    (eL : ce.locals = C) (eF : ce.frame = X.env.frame) (hC : FpOk X [] H C) (hn : s.heap.Ns C m) (c : CX X.prog X.w X.stack H s E u s') :
    notedBy (model X.prog X.w) X.A ce (fun x t => PostX (model X.prog X.w) X.A X.xe use Qf acc ce (.error x) t) u s' := by
  obtain ⟨c0, c1, c2, c3, c4, c5⟩ := hC
  obtain ⟨a, B, H', cls, d, rfl, fl, hok, ub, na, os, ag, hE⟩ := id c
  obtain ⟨o, ho, hod⟩ := ns_dict hn
  have cF : C ∉ frs X.stack := fun z => (List.mem_cons.mp (I.stkSub C z)).elim c1 c2
  have n1 : s'.heap.Ns C m := by
    obtain ⟨o', es, ep, ho', r⟩ := hn
    exact ⟨o', es, ep, fl.1 _ _ (ub.keep C o' ho' c0 cF), r⟩
  have cx2 : CX X.prog X.w X.stack H s (fun cls d G => E cls d G ∧ G C = none) (.ref a) s' := ⟨a, B, H', cls, d, rfl, fl, hok, ub, na, os, ag, hE, ub.free C o ho c0⟩
  obtain ⟨a', B1, sI, pins1, σ1, H1, cls1, d1, ea, J, nb, up, sky, na1, os1, ag1, hE1, hC1⟩ := XE.of_call (W := fun cls d _ G => E cls d G ∧ G C = none) I (fun _ _ _ z => z) cx2
  cases ea
  have hfr : X.A.frames = some (X.env :: X.outer) := by rw [I.ok.frames, hs]
  -- what follows the note
  have behind : ∀ h1, HandSPX.HeldZ B1 X.stack a (Zc cls1 d1) X.env.locals h1 → s'.heap.UpToSlots h1 → PostX (model X.prog X.w) X.A X.xe use Qf acc ce (.error (.ref a)) { s' with heap := h1 } := fun h1 held up1 => by
    refine ⟨m, by rw [eL]; exact ns_up n1 up1, fun h2 sb => ?_⟩
    rw [eL] at sb
    obtain ⟨f1, f2, f3, oe, vs, T, oT, ts, t1, t2, t3, t4, t5, t6, t7, t8, t9⟩ := held
    obtain ⟨oC, hoC, hdC⟩ := ns_dict (ns_up n1 up1)
    have aC : a ≠ C := fun z => by rw [z] at t1; rw [hoC] at t1; cases t1; exact hdC _ t3
    have TC : T ≠ C := fun z => by rw [z] at t7; rw [hoC] at t7; cases t7; exact hdC _ t8
    have hB : ∀ b o, (PySem.W.hideAll B1 [C]).get? b = some o → b ≠ C ∧ B1.get? b = some o := fun b o e => by
      refine ⟨fun z => ?_, PySem.W.of_hideAll _ e⟩
      rw [z, PySem.W.hideAll_none [C] (List.mem_singleton.mpr rfl)] at e; cases e
    have none' : ∀ b, B1.get? b = none → (PySem.W.hideAll B1 [C]).get? b = none := fun b e => by
      cases q : (PySem.W.hideAll B1 [C]).get? b with
      | none => rfl
      | some o => rw [(hB b o q).2] at e; cases e
    have st2 : (PySem.W.hideAll B1 [C]).StaysIn h2 := fun b o e => (sb.2 b (hB b o e).1).trans (f1 b o (hB b o e).2)
    have ff2 : h2.FunFrames (PySem.W.hideAll B1 [C]) X.stack := by
      have gen : ∀ l : List Env, (∀ b ∈ l.filterMap (·.frame), b ≠ C) → h1.FunFrames B1 l → h2.FunFrames (PySem.W.hideAll B1 [C]) l := by
        intro l
        induction l with
        | nil => intro _ _; trivial
        | cons v r ih =>
          intro hne ⟨g1, ⟨L, o, g2, g3, g4, g5⟩, g6⟩
          have hm : ∀ b ∈ r.filterMap (·.frame), b ≠ C := fun b hb => hne b (by rw [List.filterMap_cons, g2]; exact List.mem_cons_of_mem _ hb)
          refine ⟨g1, ⟨L, o, g2, none' L g3, (sb.2 L (hne L ?_)).trans g4, g5⟩, ih hm g6⟩
          rw [List.filterMap_cons, g2]; exact List.mem_cons_self ..
      exact gen X.stack (fun b hb z => cF (by rw [← z]; exact hb)) f3
    have tr2 : HandSPX.TracedZ h2 (PySem.W.hideAll B1 [C]) a (Zc cls1 d1) (rawInt X.env.locals) := ⟨oe, vs, T, oT, ts, (sb.2 a aC).trans t1, t2, t3, t4, none' T t5, t6, (sb.2 T TC).trans t7, t8, t9⟩
    unfold PySem.passOn
    refine wpAny_bind (wpAny_field (s := { s' with heap := h2 }) ((sb.2 a aC).trans t1) t3 t4 ?_)
    rw [if_neg (by simp)]
    refine wpAny_bind (HandSPX.setFlight_anyZ (s := { s' with heap := h2 }) st2 ff2 tr2 fun h3 k1 k2 k3 k4 => wpAny_throw ?_)
    rw [eF, hf] at k3
    have J' : Inv X [] σ1 H1 { sI with heap := PySem.W.hideAll sI.heap [C] } :=
      (Inv.unpinned (pins := []) J).turned (it := C) (t' := sI.toks) (fun b o hb e => PySem.W.hideAll_get [C] e (fun z => hb (List.mem_singleton.mp z))) hC1 c1 c3 c4 c5
    have hI : ∀ b o, (PySem.W.hideAll sI.heap [C]).get? b = some o → b ≠ C ∧ sI.heap.get? b = some o := fun b o e => by
      refine ⟨fun z => ?_, PySem.W.of_hideAll _ e⟩
      rw [z, PySem.W.hideAll_none [C] (List.mem_singleton.mpr rfl)] at e; cases e
    refine tk _ _ ⟨a, PySem.W.hideAll B1 [C], { sI with heap := PySem.W.hideAll sI.heap [C] }, [], σ1, H1, cls1, d1, rfl, J', fun b o e hb => ?_, fun b o e hnf => ?_, .inr (.inr ⟨k1, none' a f2, k2, k3⟩), na1, os1, ag1, hE1⟩
    · exact PySem.W.hideAll_get [C] (nb b o (hI b o e).2 hb) fun z => (hI b o e).1 (List.mem_singleton.mp z)
    · obtain ⟨bC, e1⟩ := hI b o e
      obtain ⟨sl1, e2⟩ := up b o e1 hnf
      obtain ⟨sl2, e3⟩ := up1 b _ e2 hnf
      obtain ⟨sl3, e4⟩ := k4 b _ ((sb.2 b bC).trans e3) hnf
      exact ⟨sl3, e4⟩
  have same : noteFrame (.ref a) ce = noteFrame (.ref a) X.env := by unfold noteFrame PySem.frameOf; rw [eF]
  show wpAny _ X.A (noteFrame (.ref a) ce) _ _ s'
  rw [same]
  rw [hs] at sky behind
  rcases sky with ⟨g1, g2, g3, oe, vs, g4, g5, g6, g7⟩ | fl1 | held
  · exact HandSPX.look_newZ Zc.steady hfr g3 hf g4 g1 g2 g6 g7 g5 behind
  · exact HandSPX.looks_onZ Zc.steady hfr hf fl1 behind
  · exact HandSPX.againZ hf held.2.2.2 (behind s'.heap held (Heap.UpToSlots.refl _))
end
end L2
namespace L2
open PySem PySem.Spec PyProof.Rows
open DD (inv_tks)
section
variable {X : Cx} {E : XK}
/-- what an element's expression is to keep, an error of E let out by a call in it -/
def ElX (X : Cx) (E : XK) (sc : Scope) (e : Expr) (t : TE) : Prop := ∀ (s : Shared) (H : Hp) (C : Addr) (cl : List (Str × Addr)) (fp : List Addr) (pn : List (Addr × Obj)) (xe : Value → Shared → Prop), Cm.TKs X.K X.H_0 H →
  Passes (CX X.prog X.w) ((X.blk s H sc (compEnvC sc cl C X.env) fp).tr pn xe) E → PE ((X.blk s H sc (compEnvC sc cl C X.env) fp).tr pn xe) e t
theorem lcx_core {pins : List (Addr × Obj)} {s : Shared} {σ : St} {H : Hp} {Q : VK} {elt tg iter : Expr} {ifs : List Expr} {sc : Scope} {own : List (Str × Nat)} {pos pos' : Pos} {wi : TI} {g : TG} {tt : TT} {te : TE} {use : Option (Value → Sem Unit)} {Qf : Value → Shared → Prop}
    (a1 : X.stack = X.env :: X.outer) (a2 : X.env.frame = some X.env.locals) (tk : Takes X (fun cls d _ H => E cls d H)) (hc : X.calm = true) (hN : X.N.Nodup) (I : Inv X pins σ H s) (hi : PI X tg iter wi) (ok : BlkOk X.N X.env.scope sc own)
    (hg : ∀ s H C cl fp, PG (X.blk s H sc (compEnvC sc cl C X.env) fp) tg g) (ht : ∀ s H C cl fp, PTs (X.blk s H sc (compEnvC sc cl C X.env) fp) ifs tt) (he : ElX X E sc elt te) (hs : ∀ x, foldedSetIterable iter X.env x = pure x)
    (h : tLc wi g tt te (own.map (·.2)) σ H Q) (hR : ∀ D C t m H', Inv X pins σ H' t → Q (.ref D) H' → t.heap.Ns C m → FpOk X pins H' C → compPost (model X.prog X.w) X.A X.xe use Qf (.ref D) C (.ok .next) t) :
    wpAny (model X.prog X.w) X.A (comprehension (.ListComp elt [⟨tg, iter, ifs, 0⟩] sc pos) sc X.env pos' (newList []) false (eval iter X.env) use) Qf X.xe s := by
  have clos : ∀ y ∈ sc.names, y.2 = .free → ∃ c, X.env.cells.lookup y.1 = some c := fun y hy e => I.ok.has _ (ok.free y hy e)
  refine comp_open (use := use) rfl hs (closure_ok clos) ok.kind (fun y hy e => by rw [ok.uniq y hy, e]) (thn (hi.run pins s σ H _ I h) fun xv s1 hx => thn hx fun itv s2 h2 => ?_)
  obtain ⟨it, fp, tn, J, H2, rfl, I2, T, st2, f2, q⟩ := h2
  refine wpAny_newObj_type (newEnv_comp ?_) (by show 0 ≤ sizeLine; decide)
  generalize hD : s2.heap.objs.size = D
  have nD : H2 D = none := I2.hok.fresh (Nat.le_of_eq hD)
  obtain ⟨W, ⟨m0, w0⟩, turn⟩ := q D nD
  -- the list that is to be filled
  generalize es3 : ({ s2 with heap := s2.heap.push { cls := .type "list", data := .seq ([] : List Value).toArray } } : Shared) = s3
  have eh3 : s3.heap = s2.heap.push { cls := .type "list", data := .seq ([] : List Value).toArray } := by rw [← es3]
  have I3 : Inv X pins σ (upd H2 D (.lst [])) s3 := by
    have at_ : (s2.heap.push { cls := .type "list", data := .seq ([] : List Value).toArray }).get? D = some { cls := .type "list", data := .seq ([] : List Value).toArray } := hD ▸ Heap.get?_push_size _ rfl
    rw [← es3]
    exact I2.laid (t' := s2.toks) (fun b o e => Heap.get?_push_of_some _ e) (Nat.le_of_eq hD) (show ObjOk X.prog X.w (upd H2 D (.lst [])) _ D (.lst []) from ⟨Nat.zero_le _, [], 0, .nil, at_⟩)
  have lt2 : ∀ b ∈ fp, b < s2.heap.objs.size := fun b hb => Heap.lt_size (T.obj _ _ st2 b hb).choose_spec.1
  have f3 : ∀ b ∈ fp, FpOk X pins (upd H2 D (.lst [])) b ∧ b < s3.heap.objs.size := fun b hb => by
    have l := lt2 b hb
    have f := f2 b hb
    refine ⟨⟨(upd_ne (hD ▸ Nat.ne_of_lt l)).trans f.1, f.2⟩, ?_⟩
    rw [eh3, Heap.size_push]; exact Nat.lt_succ_of_lt l
  have st3 : tn 0 s3.heap := T.keep _ _ _ st2 fun b _ o e => eh3 ▸ Heap.get?_push_of_some _ e
  have I4 := block_start I3 ok hN f3
  have pg := hg s3 (upd H2 D (.lst [])) s3.heap.objs.size (cellsFrom (s3.heap.objs.size + 1) sc.names (cloFrom X.env.cells sc.names [])) fp
  have pt := ht s3 (upd H2 D (.lst [])) s3.heap.objs.size (cellsFrom (s3.heap.objs.size + 1) sc.names (cloFrom X.env.cells sc.names [])) fp
  have pe := he s3 (upd H2 D (.lst [])) s3.heap.objs.size (cellsFrom (s3.heap.objs.size + 1) sc.names (cloFrom X.env.cells sc.names [])) fp
  have pe := fun pn xe => pe pn xe (inv_tks I3)
  have nf : ∀ b ∈ fp, (upd H2 D (.lst [])) b = none := fun b hb => (f3 b hb).1.1
  show codeAny _ _ (.compStart _ 0 _ _ (compEnvC sc (cellsFrom (s3.heap.objs.size + 1) sc.names (cloFrom X.env.cells sc.names [])) s3.heap.objs.size X.env))
    (PostX _ X.A X.xe use Qf (.ref D) (compEnvC sc (cellsFrom (s3.heap.objs.size + 1) sc.names (cloFrom X.env.cells sc.names [])) s3.heap.objs.size X.env)) _
  generalize ece : compEnvC sc (cellsFrom (s3.heap.objs.size + 1) sc.names (cloFrom X.env.cells sc.names [])) s3.heap.objs.size X.env = ce at I4 pg pt pe ⊢
  have cL : ce.locals = s3.heap.objs.size := by rw [← ece]; rfl
  have cF : ce.frame = X.env.frame := by rw [← ece]; rfl
  generalize eH3 : upd H2 D (.lst []) = H3 at I3 I4 pg pt pe w0 nf f3
  generalize es4 : ({ s3 with heap := pushCells (s3.heap.push { cls := .type "dict", data := .dict #[] }) sc.names } : Shared) = s4 at I4 ⊢
  have st4 : tn 0 s4.heap := T.keep _ _ _ st3 fun b _ o e => es4 ▸ pushCells_keeps _ _ _ _ (Heap.get?_push_of_some _ e)
  have back : ∀ {pn2 : List (Addr × Obj)} {xe2 : Value → Shared → Prop} {pins2 : List (Addr × Obj)} {σ2 : St} {G : Hp} {t : Shared}, Inv ((X.blk s3 H3 sc ce fp).tr pn2 xe2) pins2 σ2 G t → Inv X pins σ G t ∧ G s3.heap.objs.size = none ∧ ∃ m, t.heap.Ns s3.heap.objs.size m := fun {pn2 xe2 pins2 σ2 G t} K => by
    refine ⟨I3.call' (ch := fp) K.os K.base K.hok K.bare fun b hb => ?_, cL ▸ K.free, ?_⟩
    · have f := (f3 b hb).1
      exact ⟨f.2.2.2.1, f.2.1, f.2.2.2.2.1, f.2.2.2.2.2⟩
    · obtain ⟨m, n, _⟩ := K.loc
      have n : t.heap.Ns ce.locals m := n
      exact ⟨m, cL ▸ n⟩
  have still : ∀ {σ' : St} {G : Hp} {t : Shared}, Inv (X.blk s3 H3 sc ce fp) [] σ' G t → (∀ b ∈ fp, G b = none) → ∀ b ∈ fp, FpOk (X.blk s3 H3 sc ce fp) [] G b := fun {σ' G t} K n b hb =>
    ⟨n b hb, (K.ok.exf b hb).1, K.ok.exfs b hb, .inl hb, fun x c e => (K.ok.exf b hb).2 x c e, fun p hp => nomatch (show p ∈ ([] : List (Addr × Obj)) from hp)⟩
  have loop : codeAny (model X.prog X.w) X.A (.compLoop (.ListComp elt [⟨tg, iter, ifs, 0⟩] sc pos) 0 (.ref it) (.ref D) ce) (PostX (model X.prog X.w) X.A X.xe use Qf (.ref D) ce) s4 := by
    refine compLoop_any (fun n t => ∃ i G, Inv (X.blk s3 H3 sc ce fp) [] (wipe σ (own.map (·.2))) G t ∧ tn i t.heap ∧ (∀ b ∈ fp, G b = none) ∧ W i n G) ?_ m0 ⟨0, H3, I4, st4, nf, w0⟩
    rintro n s5 ⟨i, H5, I5, st5, n5, w5⟩
    rcases turn i n H5 w5 with ⟨stop, qq⟩ | ⟨go, Nx, hNx, step⟩
    · refine thnF (T.done (X.blk s3 H3 sc ce fp) rfl rfl rfl hc i [] s5 _ H5 (fun _ _ => False) I5 (still I5 n5) st5 stop) fun r s6 ⟨hr, I6⟩ => ?_
      subst hr
      obtain ⟨I7, nC, m, hn⟩ := back (pn2 := []) (xe2 := fun _ _ => False) I6
      have fin := hR D s3.heap.objs.size s6 m H5 I7 qq hn (I3.fpOk (Nat.le_refl _) nC)
      rw [← cL] at fin; exact fin
    · refine thnF (T.item (X.blk s3 H3 sc ce fp) rfl rfl rfl hc i [] s5 _ H5 (fun _ _ => False) I5 (still I5 n5) st5 go) fun r s6 ⟨u, hr, h6⟩ => ?_
      subst hr
      refine thnF h6 fun _ s7 ⟨x, H7, I7, r7, y7, st7, n7⟩ => ?_
      refine thnF (pg.run _ s7 _ H7 x u _ (I7.pinned (still I7 n7) (T.obj _ _ st7)) r7 (step x H7 y7)) fun _ s8 ⟨σ8, H8, I8, hw8, q8⟩ => ?_
      refine thnF (pt.run _ s8 σ8 H8 _ I8 q8) fun b s9 ⟨H9, I9, q9⟩ => ?_
      have fin : ∀ {t : Shared} {G : Hp}, Inv (X.blk s3 H3 sc ce fp) ([] ++ pinsAt fp s7.heap) σ8 G t → Nx G → ∃ m, m < n ∧ ∃ i G, Inv (X.blk s3 H3 sc ce fp) [] (wipe σ (own.map (·.2))) G t ∧ tn i t.heap ∧ (∀ b ∈ fp, G b = none) ∧ W i m G := fun {t G} K nx => by
        obtain ⟨m', hm, w'⟩ := hNx G nx
        have pinned : ∀ b ∈ fp, ∀ o, s7.heap.get? b = some o → t.heap.get? b = some o ∧ G b = none := fun b hb o e => by
          have z := K.pin (b, o) (List.mem_append_right _ (List.mem_append_right _ (mem_pinsAt hb e)))
          exact ⟨z.1, z.2.1⟩
        refine ⟨m', hm, i + 1, G, (K.unpinned (pins := [])).weak (by rw [← hw8, wipe_length]) (fun j v e => ?_), T.keep _ _ _ st7 fun b hb o e => (pinned b hb o e).1, fun b hb => ?_, w'⟩
        · rw [← hw8] at e; exact (wipe_some e).1
        · obtain ⟨o, e, _⟩ := T.obj _ _ st7 b hb
          exact (pinned b hb o e).2
      cases b with
      | false =>
        simp only [Bool.false_eq_true, if_false] at q9 ⊢
        exact fin I9 q9
      | true =>
        simp only [if_true] at q9 ⊢
        have px := pe ([] ++ ([] ++ pinsAt fp s7.heap)) (notedBy (model X.prog X.w) X.A ce fun e t => PostX (model X.prog X.w) X.A X.xe use Qf (.ref D) ce (.error e) t) fun pins2 σ2 G t e t' K c => by
          obtain ⟨K7, nC, m, hn⟩ := back K
          exact fly_on a1 a2 tk K7 cL cF ⟨nC, (I3.fpOk (Nat.le_refl _) nC).2.1, (I3.fpOk (Nat.le_refl _) nC).2.2.1, (I3.fpOk (Nat.le_refl _) nC).2.2.2.1, (I3.fpOk (Nat.le_refl _) nC).2.2.2.2.1, fun p hp => (I3.fpOk (Nat.le_refl _) nC).2.2.2.2.2 p (by rw [List.append_nil] at hp; exact List.mem_append_left _ hp)⟩ hn c
        refine wpAny_mono (px.run [] s9 σ8 H9 _ (I9.toTry _) q9) (fun z s10 ⟨yv, H10, I10, r10, acc, hD10, hz10, nx⟩ => ?_) fun _ _ z => z
        exact app_ok (X := X.blk s3 H3 sc ce fp) (Inv.ofTry (X := X.blk s3 H3 sc ce fp) I10 I9.ok) hD10 hz10 r10 fun s11 I11 => fin I11 nx
  exact codeAny_compStart_list loop (T.self X.A 0 _ _ _ st4 loop)
end
end L2
namespace L2
open PySem PySem.Spec PyProof.Rows
section
variable {X : Cx} {E : XK} {elt tg iter : Expr} {ifs : List Expr} {sc : Scope} {own : List (Str × Nat)} {pos : Pos} {wi : TI} {g : TG} {tt : TT} {te : TE}
theorem ps_setLcX {i : Nat} {y : Str} {py spos : Pos} (a1 : X.stack = X.env :: X.outer) (a2 : X.env.frame = some X.env.locals) (tk : Takes X (fun cls d _ H => E cls d H)) (hc : X.calm = true) (hN : X.N.Nodup) (hy : X.N[i]? = some y) (hyl : X.env.scope.names.lookup y = some .local)
    (hsw : swapsWith (.ListComp elt [⟨tg, iter, ifs, 0⟩] sc pos) (some (.Name y py)) spos.line X.env = pure true) (hi : PI X tg iter wi) (ok : BlkOk X.N X.env.scope sc own)
    (hg : ∀ s H C cl fp, PG (X.blk s H sc (compEnvC sc cl C X.env) fp) tg g) (ht : ∀ s H C cl fp, PTs (X.blk s H sc (compEnvC sc cl C X.env) fp) ifs tt) (he : ElX X E sc elt te) (hs : ∀ x, foldedSetIterable iter X.env x = pure x := by intro _; rfl) :
    PS X (.Assign [.Name y py] (.ListComp elt [⟨tg, iter, ifs, 0⟩] sc pos) spos) (tAsg (tLc wi g tt te (own.map (·.2))) (gName i)) := by
  refine ⟨fun pins s σ H D I h => ?_⟩
  rw [exec_Assign_Name_used _ _ _ _ hsw]
  refine wpAny_bind (wpAny_standAt (wpAny_bind ?_))
  show wpAny _ X.A (do let _ ← comprehension (.ListComp elt [⟨tg, iter, ifs, 0⟩] sc pos) sc X.env (firstIterPos [⟨tg, iter, ifs, 0⟩] pos) (newList []) false (eval iter X.env) (some (assign (.Name y py) X.env))) _ _ s
  refine wpAny_bind (thn (lcx_core (Qf := fun _ t => SP X pins D .next t) a1 a2 tk hc hN I hi ok hg ht he hs (Q := fun x G => gName i x σ G D.nx) h fun L C t m G J q hn f => ?_) fun _ t hq => wpAny_pure (wpAny_pure hq))
  refine wpAny_assign_Name (store_ok2 (v := V.ref L) J hN hy (.inl hyl) rfl (fun t2 J2 ⟨a, sb, ha⟩ => ?_) (.inr hyl))
  have ne : C ≠ a := ha.elim (fun z => z ▸ f.2.1) fun z => fun e => f.2.2.2.2.1 y a z e.symm
  exact ⟨m, hn.sameBut sb ne, fun h3 sb3 => ⟨_, G, J2.turned (t' := t2.toks) (fun b o hb e => (sb3.2 b hb).trans e) f.1 f.2.1 f.2.2.2.1 f.2.2.2.2.1 f.2.2.2.2.2, q⟩⟩
end
end L2
namespace DD
open PySem PySem.W L2 SX Cm
section
variable {X : Cx} {E : XK} {RX : DXk} {elt tg iter : Expr} {ifs : List Expr} {sc : Scope} {own : List (Str × Nat)} {pos : Pos} {ti : TDI} {g : TG} {ld : TL} {tt : TDT} {te : TD}
theorem ds_setLcX {i : Nat} {y : Str} {py spos : Pos} (lt : LT X.K (own.map (·.2)) g ld) (a1 : X.stack = X.env :: X.outer) (a2 : X.env.frame = some X.env.locals) (tk : Takes X (fun cls d _ H => E cls d H)) (hc : X.calm = true) (hN : X.N.Nodup) (hy : X.N[i]? = some y) (hyl : X.env.scope.names.lookup y = some .local)
    (hsw : swapsWith (.ListComp elt [⟨tg, iter, ifs, 0⟩] sc pos) (some (.Name y py)) spos.line X.env = pure true) (hi : DI X tg iter ti) (ok : BlkOk X.N X.env.scope sc own)
    (hg : ∀ s H C cl fp, PG (X.blk s H sc (compEnvC sc cl C X.env) fp) tg g) (ht : ∀ s H C cl fp, PTs (X.blk s H sc (compEnvC sc cl C X.env) fp) ifs (upT X.K tt)) (he : ElX X E sc elt (up X.K te)) (hs : ∀ x, foldedSetIterable iter X.env x = pure x := by intro _; rfl) :
    DS X (.Assign [.Name y py] (.ListComp elt [⟨tg, iter, ifs, 0⟩] sc pos) spos) (dAsg (dLc ti ld tt te (own.map (·.2))) (gN i)) := PS_mono (ps_setLcX a1 a2 tk hc hN hy hyl hsw hi ok hg ht he hs) fun D σ H ⟨D', δ, G, sl, w, l, h⟩ => by
  refine lc_up lt (Q := fun v H1 => gName i v σ H1 D.nx) ⟨δ, G, _, sl, w, h, fun d G1 v H1 q t1 w1 r1 => ?_⟩
  exact l.nx _ _ _ _ q t1 w1 ((sl.mono t1).set r1 i)
/-- a call within such an element -/
theorem de_callE {k : Nat} {nm : Str} {ps : List Str} {dsp : DSpX} {e : Expr} {es : List Expr} {ts : TDA} {p : Pos} (h : HasX X.prog X.w X.K X.mg X.base k nm ps dsp) (hx : FinX X.K X.H_0 RX E) (hp : Passes (L2.CX X.prog X.w) X E) (hr : Room k X.A) (hg : Gl X nm) (ha : DA X (e :: es) ts) (hdb : (nm == ("__debug__" : Str)) = false := by decide) (he : starEach (e :: es) X.env = (false, eval e X.env) :: starEach es X.env := by rfl) (hpl : (backTo pos (starEach es X.env)).any (·.1) = false := by rfl) :
    DE X (.Call (.Name nm p) (e :: es) [] pos) (dCallX ps.length dsp RX ts) := by
  obtain ⟨f, fd, F, b, kp, m, _⟩ := h
  refine ⟨fun pins s σ H Q I ⟨δ, G, R, sl, w, h, fq⟩ => wpAny_Call_Name_kw (ld_glob I hg m ?_ hdb)⟩
  refine PySem.W.callWith_K (h₀ := X.base) I.ok.mod.kin kp (thn (ha.run pos pins s σ H (fun vs H1 => ∃ ds G1, RVs X.K H1 vs ds ∧ Wd X.K H1 G1 ∧ TKs X.K H H1 ∧ ds.length = ps.length ∧ dsp ds G1 R RX) I ⟨δ, G, _, sl, w, h, fun ds G1 vs H1 h1 t1 w1 r1 => ⟨ds, G1, r1, w1, t1, h1.1, h1.2⟩⟩) fun us s1 ⟨vs, H1, I1, r, ds, G1, r1, w1, t1, l1, h1⟩ => ⟨I1.kIn, ?_⟩) he hpl
  refine run_fn F hr b .nil hp I1 r ?_
  rw [List.append_nil]
  exact ⟨ds, G1, R, RX, r1, w1, l1, h1, fq.step t1, hx.step (inv_tks I1)⟩
end
end DD
set_option maxHeartbeats 1000000
namespace K64
open PySem PySem.W L2 SX Cm DD
local macro_rules | `(tactic| walk_at "d1") => `(tactic| first | (with_reducible refine w_go ?_) | ((with_reducible show dVar _ _ _ _); refine w_var rfl ?_) | (with_reducible refine w_exI ?_) | (with_reducible refine w_exB ?_) | (with_reducible refine w_exT ?_) | (with_reducible refine w_exS ?_) | (with_reducible refine w_parE ?_) | (with_reducible refine ly1 ?_) | (with_reducible refine ly2 ?_) | (with_reducible refine lt1' ?_) | (with_reducible refine lt2' ?_) | (with_reducible refine wx_enumT ?_) | (with_reducible refine w_callX ?_) | (with_reducible refine w_methX ?_) | (with_reducible refine w_raise ?_) | (with_reducible refine w_try ?_) | (with_reducible refine w_xSet ?_) | (with_reducible refine w_xExpr ?_) | (with_reducible refine w_xLst ?_) | (with_reducible refine w_xTup ?_) | (with_reducible refine w_xCons ?_) | (with_reducible refine w_xNil ?_) | (with_reducible refine w_xE ?_) | (with_reducible refine w_xCall ?_) | (with_reducible refine w_call0 ?_) | (with_reducible refine w_asgL ?_) | (with_reducible refine w_tupPd ?_) | (with_reducible refine wi_zip ?_) | (with_reducible refine w_delT ?_) | (with_reducible refine w_dc ?_) | (with_reducible refine w_revL ?_) | (with_reducible refine wi_revT ?_) | (with_reducible refine w_lstZip ?_) | (with_reducible refine w_chain ?_) | (with_reducible refine w_orT ?_) | ((with_reducible show gT _ _ _ _ _ _); refine g_T ?_ rfl) | ((with_reducible show ∃ p, DV.ref _ = _ ∧ (∃ kvs, _) ∧ _); refine wx_get (by walk_at "gq") ?_) | ((with_reducible show ∃ kvs z, _ = _ ∧ _ = some (DO.dct _) ∧ _); refine wx_get2 (by walk_at "gq") ?_) | ((with_reducible show ∃ p kvs z, _ = _ ∧ _ = _ ∧ _ = some (DO.dct _) ∧ _); refine wx_in (by walk_at "gq") ?_) | ((with_reducible show List.length _ = _ ∧ _); refine w_len ?_ rfl) | ((with_reducible show List.length _ ≤ sizeLine ∧ _); refine w_sz ?_ (szl rfl)) | ((with_reducible show bIx _ (.int _) _ _); first | refine w_ix0 ?_ | refine w_ix1 ?_ | refine w_ix2 ?_ | refine w_ix3 ?_) | ((with_reducible show bIsi [_, _] _ _); first | refine w_isi (by decide) (a := "tuple") rfl rfl ?_ | refine w_isi (by decide) (a := "str") rfl rfl ?_ | refine w_isi (by decide) (a := "int") rfl rfl ?_ | refine w_isi (by decide) (a := "bool") rfl rfl ?_ | refine w_isi (by decide) (a := "NoneType") rfl rfl ?_) | ((with_reducible show ∃ ds, _ = DV.tup ds ∧ _); refine w_exT ?_) | ((with_reducible show ∃ z, _ = DV.str z ∧ _); refine w_exS ?_) | ((with_reducible show ∃ ds, [_] = [DV.tup ds] ∧ _); refine wx_enumT ?_) | ((with_reducible show bSl _ _ _ _ _); refine w_slT ?_) | ((with_reducible show bTuple [_] _ _); refine w_tupT ?_) | ((with_reducible show bLen [_] _ _); refine w_lenT ?_) | ((with_reducible show bTru _ _ _); first | refine w_truT ?_ | refine w_truN ?_ | refine w_truB ?_ | refine w_truI ?_) | ((with_reducible show bEq _ _ _ _ _); first | refine w_eqSS ?_ | refine w_eqII ?_ | refine w_neSS ?_ | refine w_neII ?_ | refine w_eqT0 ?_) | ((with_reducible show bInt _ _ (.int _) (.int _) _ _); refine w_int (by first | decide | exact ⟨by decide, by decide, by decide⟩ | exact .inl ⟨by decide, by decide⟩ | exact .inr ⟨by decide, by decide⟩) ?_) | ((with_reducible show if _ = true then _ else _); first | refine w_it (by first | rfl | decide +kernel) ?_ | refine w_if0 (by first | rfl | decide +kernel) ?_) | ((with_reducible show rcv "list" (.ref _) _ ∧ _); refine w_rcvL (by walk_at "gq") ?_) | ((with_reducible show bTuple [.ref _] _ _); refine w_tupL (by walk_at "gq") ?_) | ((with_reducible show bLen [.ref _] _ _); refine w_lenL (by walk_at "gq") ?_) | ((with_reducible show bTru (.ref _) _ _); refine w_truL (by walk_at "gq") ?_) | ((with_reducible show ∃ _ _, DV.ref _ = _ ∧ Ls _ _ _ ∧ _); refine wx_lst (by walk_at "gq") ?_) | ((with_reducible show ∃ _ _, [DV.ref _] = _ ∧ Ls _ _ _ ∧ _); refine wx_lstA (by walk_at "gq") ?_))
local macro_rules | `(tactic| walk_at "dd") => `(tactic| repeat (walk_at "d1"))
local macro_rules | `(tactic| walk_at "gq") => `(tactic| first | assumption | exact dupd_same | exact sub_get (by assumption) (by walk_at "gq") | exact upd_get (by assumption) (by walk_at "gq") (by walk_at "gn") | exact subx_get (by assumption) (by walk_at "gq") (by walk_at "gn") | (refine (dupd_ne ?_).trans ?_; (focus walk_at "gn"); walk_at "gq"))
local macro_rules | `(tactic| walk_at "gs") => `(tactic| first | assumption | exact Sub.refl _ | exact sub_tr (by assumption) (by walk_at "gs") | exact sub_up (by assumption) (by walk_at "gs") (by walk_at "g0") | exact sub_ux (by assumption) (by walk_at "gs") (by walk_at "g0") | (refine Sub.new ?_ ?_; (focus walk_at "gs"); walk_at "g0"))
local macro_rules | `(tactic| walk_at "gk") => `(tactic| first | assumption | exact db_sub (by assumption) (by walk_at "gk") | exact db_upd (by assumption) (by walk_at "gk") ⟨_, by walk_at "gq"⟩ | exact db_updD (by assumption) (by walk_at "gk") ⟨_, by walk_at "gq"⟩)
local macro_rules | `(tactic| walk_at "gu") => `(tactic| first | assumption | exact Upd.refl _ _ | exact upd_in (by assumption) (by walk_at "gu"))
local macro_rules | `(tactic| walk_at "gx") => `(tactic| first | assumption | exact SubX.refl _ _ | exact subx_sub (by assumption) (by walk_at "gx") | exact subx_upd (by assumption) (by walk_at "gx") | exact subx_tr (by assumption) (by walk_at "gx"))
local macro_rules | `(tactic| walk_at "gn") => `(tactic| first | assumption | exact Ne.symm (by assumption) | exact ne_ns (by assumption) ⟨_, by walk_at "gq"⟩ | exact ne_sn (by assumption) ⟨_, by walk_at "gq"⟩)
local macro_rules | `(tactic| walk_at "g0") => `(tactic| first | assumption | exact nn_ (by assumption) (by walk_at "gs"))
theorem zipD_inv {xs ys : List DV} {i : Nat} {d : DV} (h : (zipD xs ys)[i]? = some d) : ∃ x y, xs[i]? = some x ∧ ys[i]? = some y ∧ d = .tup [x, y] := by
  have hl : i < (zipD xs ys).length := (List.getElem?_eq_some_iff.mp h).1
  rw [zipD_len] at hl
  have e1 : xs[i]? = some (xs[i]'(by omega)) := List.getElem?_eq_getElem _
  have e2 : ys[i]? = some (ys[i]'(by omega)) := List.getElem?_eq_getElem _
  rw [zipD_get e1 e2] at h
  cases h
  exact ⟨_, _, e1, e2, rfl⟩
theorem hlds_get {ss : List Str} {ts : List Th} {i : Nat} {s : Str} {t : Th} (h1 : ss[i]? = some s) (h2 : ts[i]? = some t) : (hlds ss ts)[i]? = some (hldD s t) := by
  unfold hlds
  rw [List.getElem?_map, show (ss.zip ts)[i]? = some (s, t) from List.getElem?_zip_eq_some.mpr ⟨h1, h2⟩]; rfl
theorem hlds_len {ss : List Str} {ts : List Th} (h : ts.length = ss.length) : (hlds ss ts).length = ss.length := by
  unfold hlds
  rw [List.length_map, List.length_zip]; omega
section
variable {P : Program} {w : World} {K : Frag} {mg : Str → Option Value} {base : Heap}
def SP_eb (N : Addr) : DSpX := fun ds G R RX => ∃ z ts, ds = [.str z, .tup (eTs ts)] ∧ z ∈ MAK ∧ ts.length = (srt z).length ∧ (∀ t ∈ ts, Top t) ∧ szTs ts ≤ 100000 ∧ (∀ t, opT z ts = some t → R (.tup [.int ((srt z).length : Nat), .tup [eT t], .tup []]) G) ∧ (opT z ts = none → RX (.ref N) G)
abbrev N_p_effect_of_basic : List Str := ["word", "stack", "sorts", "sort", "thing", "held", "does", "left", "ahead"]
abbrev A_p_effect_of_basic : List Str := ["word", "stack"]
theorem sc_p_effect_of_basic : FnScope N_p_effect_of_basic A_p_effect_of_basic (defScope s_p_effect_of_basic) := ⟨rfl, rfl, rfl, by decide +kernel, rfl, by decide +kernel, by decide +kernel⟩
theorem h_p_effect_of_basic (a : At K mg "effect_of_basic" s_p_effect_of_basic A_p_effect_of_basic) {e_NoStep dS dD : Addr} (B : BI mg) (hS : ∀ z ∈ MAK, ItK K w dS z (.tup ((srt z).map .str))) (hD : ∀ z ∈ MAK, ∃ f, ItK K w dD z (.ref f) ∧ HasA P w K mg base 2 f ["held"] (SP_dm z)) (c_p_held_as : HasX P w K mg base 1 "held_as" A_p_held_as (SP_ha e_NoStep)) (c_p_top_of : HasX P w K mg base 1 "top_of" A_p_top_of (SP_to e_NoStep)) (g_SORTS_TAKEN : mg "SORTS_TAKEN" = some (.ref dS)) (g_DOES : mg "DOES" = some (.ref dD)) : HasX P w K mg base 3 "effect_of_basic" A_p_effect_of_basic (SP_eb e_NoStep) := by
  refine atx_mk a sc_p_effect_of_basic fun f cdv A outer s H E hr ds G R RX hl hx h => ?_
  obtain ⟨z, ts, rfl, hz, hl0, tp0, zs0, q1, q2⟩ := h
  obtain ⟨fz, hi, hA⟩ := hD z hz
  refine ⟨_, (dss_cons (ds_set (i := 2) sc_p_effect_of_basic.nd rfl (.inl rfl) (de_kit (de_gref g_SORTS_TAKEN rfl) (dv 0)))
    (dss_cons (ds_setLcX (i := 5) (own := [("sort", 3), ("thing", 4)]) (lt2 (i := 3) (j := 4) (by decide) (by decide)) rfl rfl (takes_of rfl rfl rfl rfl) rfl sc_p_effect_of_basic.nd rfl rfl (sw_true rfl rfl rfl (by decide +kernel)) (di_zip B.zip rfl (da_cons (dv 2) (da_cons (de_callX c_p_top_of hx (takes_of rfl rfl rfl rfl) (hr.mono (by omega)) rfl (da_cons (dv 1) (da_cons (de_callB cd_len B.len rfl (by decide +kernel) (da_cons (dv 2) da_nil)) da_nil))) da_nil))) (blkOk_by (own := [("sort", 3), ("thing", 4)]) (N := N_p_effect_of_basic) (sc := defScope s_p_effect_of_basic) (by decide +kernel)) (fun _ _ _ _ _ => pg_tup rfl (pgs_cons (pg_name (i := 3) sc_p_effect_of_basic.nd rfl (Or.inl rfl)) (pgs_cons (pg_name (i := 4) sc_p_effect_of_basic.nd rfl (Or.inl rfl)) pgs_nil))) (fun _ _ _ _ _ => dts_nil) (fun _ _ _ _ _ _ _ t0 hp => (de_callE c_p_held_as (hx.step t0) hp (hr.mono (by omega)) rfl (da_cons (dv 3) (da_cons (dv 4) da_nil)))))
    (dss_cons (ds_set (i := 6) sc_p_effect_of_basic.nd rfl (.inl rfl) (de_kit (de_gref g_DOES rfl) (dv 0)))
    (dss_cons (ds_asg (de_callL (i := 6) hA (hr.mono (by omega)) rfl (.inl rfl) (da_cons (dv 5) da_nil)) (dg_tup rfl (dgs_cons (dg_name (i := 7) sc_p_effect_of_basic.nd rfl (.inl rfl)) (dgs_cons (dg_name (i := 8) sc_p_effect_of_basic.nd rfl (.inl rfl)) dgs_nil))))
    (dss_one (ds_ret (de_tup (da_cons (de_callB cd_len B.len rfl (by decide +kernel) (da_cons (dv 2) da_nil)) (da_cons (dv 7) (da_cons (dv 8) da_nil)))))))))), ?_⟩
  have l3 := (mak_srt z hz).1
  have lts : ts.length ≤ 1000 := by omega
  walk_at "dd"
  refine w_kit (hS z hz) ?_
  walk_at "dd"
  refine ⟨ts, (srt z).length, (by rw [List.length_map]), lts, fun hn => ?_, fun hn => absurd hn (by omega)⟩
  refine .inl ⟨_, _, rfl, ?_⟩
  rw [show ts.length - (srt z).length = 0 from by omega, List.drop_zero]
  have lz : (zipD ((srt z).map .str) (eTs ts)).length = (srt z).length := by
    rw [zipD_len, List.length_map, eTs_len]; omega
  refine lcs_each (fun i y => ∀ s t, (srt z)[i]? = some s → ts[i]? = some t → (s = "any" ∨ s = nmT t) ∧ y = hldD s t) (fun _ _ => trivial) (by rw [lz]; omega) ?_ ?_
  · intro i d hd G' k1 k0 s' e1
    obtain ⟨x, y, hx, hy, rfl⟩ := zipD_inv hd
    rw [List.getElem?_map] at hx
    obtain ⟨s, hs, rfl⟩ := Option.map_eq_some_iff.mp hx
    rw [eTs_map, List.getElem?_map] at hy
    obtain ⟨t, ht, rfl⟩ := Option.map_eq_some_iff.mp hy
    walk_at "dd"
    refine ⟨s, t, rfl, fun h => e1 _ fun s2 t2 h1 h2 => ?_, fun h h' => e1 _ fun s2 t2 h1 h2 => ?_, fun h h' => ?_⟩
    · rw [hs] at h1; rw [ht] at h2; cases h1; cases h2
      exact ⟨.inl h, by rw [hldD, if_pos h]⟩
    · rw [hs] at h1; rw [ht] at h2; cases h1; cases h2
      exact ⟨.inr h', by rw [hldD, if_neg h]⟩
    · rcases op_know hz hl0 with ⟨_, ha⟩ | ⟨hno, _⟩
      · rcases ha i s t hs ht with h2 | h2
        · exact absurd h2 h
        · exact absurd h2 h'
      · exact ⟨G, s', q2 hno⟩
  intro p3 G3 acc n3 s3 h3 la he
  rw [lz] at la
  have hacc : acc = hlds (srt z) ts := by
    refine List.ext_getElem? fun i => ?_
    by_cases hi : i < acc.length
    · have e1 : (srt z)[i]? = some ((srt z)[i]'(by omega)) := List.getElem?_eq_getElem _
      have e2 : ts[i]? = some (ts[i]'(by omega)) := List.getElem?_eq_getElem _
      have e3 := List.getElem?_eq_getElem hi
      rw [hlds_get e1 e2, e3, (he i _ e3 _ _ e1 e2).2]
    · rw [List.getElem?_eq_none (by omega), List.getElem?_eq_none (by rw [hlds_len hl0]; omega)]
  rcases op_know hz hl0 with ⟨⟨t, ht⟩, _⟩ | ⟨_, i, s, t, h1, h2, h4, h5⟩
  · walk_at "dd"
    refine w_kit hi ?_
    walk_at "dd"
    refine w_callL rfl ?_
    walk_at "dd"
    refine ⟨p3, ts, t, rfl, by rw [← hacc]; exact h3, hl0, ht, tp0, zs0, ?_⟩
    walk_at "dd"
    rw [List.length_map]
    exact ⟨G, s3, q1 t ht⟩
  · exfalso
    have hi' : i < acc.length := by rw [la]; exact (List.getElem?_eq_some_iff.mp h1).1
    rcases (he i _ (List.getElem?_eq_getElem hi') s t h1 h2).1 with h | h
    · exact h4 h
    · exact h5 h
end
end K64
set_option maxHeartbeats 1000000
namespace K64
open PySem PySem.W L2 SX Cm DD
local macro_rules | `(tactic| walk_at "d1") => `(tactic| first | (with_reducible refine w_go ?_) | ((with_reducible show dVar _ _ _ _); refine w_var rfl ?_) | (with_reducible refine w_exI ?_) | (with_reducible refine w_exB ?_) | (with_reducible refine w_exT ?_) | (with_reducible refine w_exS ?_) | (with_reducible refine w_parE ?_) | (with_reducible refine ly1 ?_) | (with_reducible refine ly2 ?_) | (with_reducible refine lt1' ?_) | (with_reducible refine lt2' ?_) | (with_reducible refine wx_enumT ?_) | (with_reducible refine w_callX ?_) | (with_reducible refine w_methX ?_) | (with_reducible refine w_raise ?_) | (with_reducible refine w_try ?_) | (with_reducible refine w_xSet ?_) | (with_reducible refine w_xExpr ?_) | (with_reducible refine w_xLst ?_) | (with_reducible refine w_xTup ?_) | (with_reducible refine w_xCons ?_) | (with_reducible refine w_xNil ?_) | (with_reducible refine w_xE ?_) | (with_reducible refine w_xCall ?_) | (with_reducible refine w_call0 ?_) | (with_reducible refine w_asgL ?_) | (with_reducible refine w_tupPd ?_) | (with_reducible refine wi_zip ?_) | (with_reducible refine w_delT ?_) | (with_reducible refine w_dc ?_) | (with_reducible refine w_revL ?_) | (with_reducible refine wi_revT ?_) | (with_reducible refine w_lstZip ?_) | (with_reducible refine w_chain ?_) | (with_reducible refine w_orT ?_) | ((with_reducible show gT _ _ _ _ _ _); refine g_T ?_ rfl) | ((with_reducible show ∃ p, DV.ref _ = _ ∧ (∃ kvs, _) ∧ _); refine wx_get (by walk_at "gq") ?_) | ((with_reducible show ∃ kvs z, _ = _ ∧ _ = some (DO.dct _) ∧ _); refine wx_get2 (by walk_at "gq") ?_) | ((with_reducible show ∃ p kvs z, _ = _ ∧ _ = _ ∧ _ = some (DO.dct _) ∧ _); refine wx_in (by walk_at "gq") ?_) | ((with_reducible show List.length _ = _ ∧ _); refine w_len ?_ rfl) | ((with_reducible show List.length _ ≤ sizeLine ∧ _); refine w_sz ?_ (szl rfl)) | ((with_reducible show bIx _ (.int _) _ _); first | refine w_ix0 ?_ | refine w_ix1 ?_ | refine w_ix2 ?_ | refine w_ix3 ?_) | ((with_reducible show bIsi [_, _] _ _); first | refine w_isi (by decide) (a := "tuple") rfl rfl ?_ | refine w_isi (by decide) (a := "str") rfl rfl ?_ | refine w_isi (by decide) (a := "int") rfl rfl ?_ | refine w_isi (by decide) (a := "bool") rfl rfl ?_ | refine w_isi (by decide) (a := "NoneType") rfl rfl ?_) | ((with_reducible show ∃ ds, _ = DV.tup ds ∧ _); refine w_exT ?_) | ((with_reducible show ∃ z, _ = DV.str z ∧ _); refine w_exS ?_) | ((with_reducible show ∃ ds, [_] = [DV.tup ds] ∧ _); refine wx_enumT ?_) | ((with_reducible show bSl _ _ _ _ _); refine w_slT ?_) | ((with_reducible show bTuple [_] _ _); refine w_tupT ?_) | ((with_reducible show bLen [_] _ _); refine w_lenT ?_) | ((with_reducible show bTru _ _ _); first | refine w_truT ?_ | refine w_truN ?_ | refine w_truB ?_ | refine w_truI ?_) | ((with_reducible show bEq _ _ _ _ _); first | refine w_eqSS ?_ | refine w_eqII ?_ | refine w_neSS ?_ | refine w_neII ?_ | refine w_eqT0 ?_) | ((with_reducible show bInt _ _ (.int _) (.int _) _ _); refine w_int (by first | decide | exact ⟨by decide, by decide, by decide⟩ | exact .inl ⟨by decide, by decide⟩ | exact .inr ⟨by decide, by decide⟩) ?_) | ((with_reducible show if _ = true then _ else _); first | refine w_it (by first | rfl | decide +kernel) ?_ | refine w_if0 (by first | rfl | decide +kernel) ?_) | ((with_reducible show rcv "list" (.ref _) _ ∧ _); refine w_rcvL (by walk_at "gq") ?_) | ((with_reducible show bTuple [.ref _] _ _); refine w_tupL (by walk_at "gq") ?_) | ((with_reducible show bLen [.ref _] _ _); refine w_lenL (by walk_at "gq") ?_) | ((with_reducible show bTru (.ref _) _ _); refine w_truL (by walk_at "gq") ?_) | ((with_reducible show ∃ _ _, DV.ref _ = _ ∧ Ls _ _ _ ∧ _); refine wx_lst (by walk_at "gq") ?_) | ((with_reducible show ∃ _ _, [DV.ref _] = _ ∧ Ls _ _ _ ∧ _); refine wx_lstA (by walk_at "gq") ?_))
local macro_rules | `(tactic| walk_at "dd") => `(tactic| repeat (walk_at "d1"))
local macro_rules | `(tactic| walk_at "gq") => `(tactic| first | assumption | exact dupd_same | exact sub_get (by assumption) (by walk_at "gq") | exact upd_get (by assumption) (by walk_at "gq") (by walk_at "gn") | exact subx_get (by assumption) (by walk_at "gq") (by walk_at "gn") | (refine (dupd_ne ?_).trans ?_; (focus walk_at "gn"); walk_at "gq"))
local macro_rules | `(tactic| walk_at "gs") => `(tactic| first | assumption | exact Sub.refl _ | exact sub_tr (by assumption) (by walk_at "gs") | exact sub_up (by assumption) (by walk_at "gs") (by walk_at "g0") | exact sub_ux (by assumption) (by walk_at "gs") (by walk_at "g0") | (refine Sub.new ?_ ?_; (focus walk_at "gs"); walk_at "g0"))
local macro_rules | `(tactic| walk_at "gk") => `(tactic| first | assumption | exact db_sub (by assumption) (by walk_at "gk") | exact db_upd (by assumption) (by walk_at "gk") ⟨_, by walk_at "gq"⟩ | exact db_updD (by assumption) (by walk_at "gk") ⟨_, by walk_at "gq"⟩)
local macro_rules | `(tactic| walk_at "gu") => `(tactic| first | assumption | exact Upd.refl _ _ | exact upd_in (by assumption) (by walk_at "gu"))
local macro_rules | `(tactic| walk_at "gx") => `(tactic| first | assumption | exact SubX.refl _ _ | exact subx_sub (by assumption) (by walk_at "gx") | exact subx_upd (by assumption) (by walk_at "gx") | exact subx_tr (by assumption) (by walk_at "gx"))
local macro_rules | `(tactic| walk_at "gn") => `(tactic| first | assumption | exact Ne.symm (by assumption) | exact ne_ns (by assumption) ⟨_, by walk_at "gq"⟩ | exact ne_sn (by assumption) ⟨_, by walk_at "gq"⟩)
local macro_rules | `(tactic| walk_at "g0") => `(tactic| first | assumption | exact nn_ (by assumption) (by walk_at "gs"))
/-- what a code comes to: an error, something too great, or things -/
inductive Oc where
  | no
  | big
  | ok (ts : List Th)
def bigT (t : Th) : Bool := decide (300 < szT t) || decide (90 < dpT t)
def atT (fs : List Th) (i : Nat) : Th := (fs[i]?).getD (.num 0)
mutual
def toldC : Cd → List Th → Oc
  | .mk t ops us, ts => if ts.length = t then (match toldOs ops ts with | .ok fs => .ok (us.map (atT fs)) | .no => .no | .big => .big) else .no
def toldO : Op → List Th → Oc
  | .push t, _ => .ok [t]
  | .mk w cs, fs => match opT w (cs.map (atT fs)) with | some t => .ok [t] | none => .no
  | .ite c as a b, fs => match atT fs c with | .num n => if n = 0 then toldC b (as.map (atT fs)) else toldC a (as.map (atT fs)) | _ => .no
def toldOs : List Op → List Th → Oc
  | [], fs => .ok fs
  | o :: r, fs => match toldO o fs with | .ok m => if m.any bigT = true then .big else toldOs r (fs ++ m) | .no => .no | .big => .big
end
/-- a run of a code: its cells, the ops ahead, what it gives -/
structure Fr where
  cells : List Th
  todo : List Op
  outs : List Nat
def evF (f : Fr) : Oc := match toldOs f.todo f.cells with | .ok fs => .ok (f.outs.map (atT fs)) | .no => .no | .big => .big
/-- runs within one another, the innermost first -/
def evS : Fr → List Fr → Oc
  | f, [] => evF f
  | f, g :: r => match evF f with | .ok m => if m.any bigT = true then .big else evS { g with cells := g.cells ++ m } r | .no => .no | .big => .big
mutual
def wC : Cd → Nat
  | .mk _ ops _ => wOs ops
def wO : Op → Nat
  | .push _ => 1
  | .mk _ _ => 1
  | .ite _ _ a b => 3 + wC a + wC b
def wOs : List Op → Nat
  | [] => 0
  | o :: r => wO o + wOs r
end
def wF (f : Fr) : Nat := 1 + wOs f.todo
def wS : List Fr → Nat
  | [] => 0
  | f :: r => wF f + wS r
theorem wO_pos : ∀ o, 1 ≤ wO o
  | .push _ => Nat.le_refl 1
  | .mk _ _ => Nat.le_refl 1
  | .ite _ _ a b => by show 1 ≤ 3 + wC a + wC b; omega
/-- a cell is small -/
def Gd (t : Th) : Prop := szT t ≤ 2000 ∧ dpT t ≤ 200 ∧ Top t
theorem atT_get {fs : List Th} {i : Nat} (h : i < fs.length) : fs[i]? = some (atT fs i) := by
  unfold atT
  rw [List.getElem?_eq_getElem h]; rfl
theorem atT_mem {fs : List Th} {i : Nat} (h : i < fs.length) : atT fs i ∈ fs := List.mem_of_getElem? (atT_get h)
/-! the steps of the innermost run -/
theorem ev_made {f : Fr} {gs : List Fr} {o : Op} {r : List Op} {m : List Th} (ht : f.todo = o :: r) (hm : toldO o f.cells = .ok m) (hn : evS f gs ≠ .big) : m.any bigT = false ∧ evS f gs = evS { f with cells := f.cells ++ m, todo := r } gs := by
  have e : evF f = if m.any bigT = true then .big else evF { f with cells := f.cells ++ m, todo := r } := by
    unfold evF
    rw [ht, show toldOs (o :: r) f.cells = (match toldO o f.cells with | .ok m => if m.any bigT = true then .big else toldOs r (f.cells ++ m) | .no => .no | .big => .big) from rfl, hm]
    show (match (if m.any bigT = true then Oc.big else toldOs r (f.cells ++ m)) with | .ok fs => Oc.ok (f.outs.map (atT fs)) | .no => Oc.no | .big => Oc.big) = _
    cases m.any bigT <;> rfl
  cases hb : m.any bigT with
  | true =>
    exfalso
    rw [hb, if_pos rfl] at e
    apply hn
    cases gs with
    | nil => exact e
    | cons g t => show (match evF f with | .ok m => _ | .no => _ | .big => _) = _; rw [e]
  | false =>
    rw [hb, if_neg Bool.false_ne_true] at e
    refine ⟨rfl, ?_⟩
    cases gs with
    | nil => exact e
    | cons g t => show (match evF f with | .ok m => _ | .no => _ | .big => _) = (match evF _ with | .ok m => _ | .no => _ | .big => _); rw [e]
theorem ev_no {f : Fr} {gs : List Fr} {o : Op} {r : List Op} (ht : f.todo = o :: r) (hm : toldO o f.cells = .no) : evS f gs = .no := by
  have e : evF f = .no := by
    unfold evF
    rw [ht, show toldOs (o :: r) f.cells = (match toldO o f.cells with | .ok m => if m.any bigT = true then .big else toldOs r (f.cells ++ m) | .no => .no | .big => .big) from rfl, hm]
  cases gs with
  | nil => exact e
  | cons g t => show (match evF f with | .ok m => _ | .no => _ | .big => _) = _; rw [e]
theorem ev_done {f : Fr} (ht : f.todo = []) : evF f = .ok (f.outs.map (atT f.cells)) := by
  unfold evF; rw [ht]; rfl
theorem ev_back {f g : Fr} {gs : List Fr} (ht : f.todo = []) (hn : evS f (g :: gs) ≠ .big) : (f.outs.map (atT f.cells)).any bigT = false ∧ evS f (g :: gs) = evS { g with cells := g.cells ++ f.outs.map (atT f.cells) } gs := by
  have e : evS f (g :: gs) = if (f.outs.map (atT f.cells)).any bigT = true then .big else evS { g with cells := g.cells ++ f.outs.map (atT f.cells) } gs := by
    show (match evF f with | .ok m => _ | .no => _ | .big => _) = _
    rw [ev_done ht]
  cases hb : (f.outs.map (atT f.cells)).any bigT with
  | true => rw [hb, if_pos rfl] at e; exact absurd e hn
  | false => rw [hb, if_neg Bool.false_ne_true] at e; exact ⟨rfl, e⟩
/-- an if: the side that is chosen becomes the innermost run -/
theorem ev_in {f : Fr} {gs : List Fr} {c : Nat} {as : List Nat} {a b : Cd} {r : List Op} {n : Int} {t : Nat} {ops : List Op} {us : List Nat} (ht : f.todo = .ite c as a b :: r) (hc : atT f.cells c = .num n) (hd : (if n = 0 then b else a) = .mk t ops us) (hl : as.length = t) (hn : evS f gs ≠ .big) :
    evS f gs = evS { cells := as.map (atT f.cells), todo := ops, outs := us } ({ f with todo := r } :: gs) := by
  have e0 : toldO (.ite c as a b) f.cells = evF { cells := as.map (atT f.cells), todo := ops, outs := us } := by
    show (match atT f.cells c with | .num n => if n = 0 then toldC b (as.map (atT f.cells)) else toldC a (as.map (atT f.cells)) | _ => .no) = _
    rw [hc]
    show (if n = 0 then toldC b (as.map (atT f.cells)) else toldC a (as.map (atT f.cells))) = _
    rw [show (if n = 0 then toldC b (as.map (atT f.cells)) else toldC a (as.map (atT f.cells))) = toldC (if n = 0 then b else a) (as.map (atT f.cells)) from by split <;> rfl, hd]
    show (if (as.map (atT f.cells)).length = t then _ else Oc.no) = _
    rw [List.length_map, if_pos hl]; rfl
  cases hr : evF { cells := as.map (atT f.cells), todo := ops, outs := us } with
  | no =>
    rw [ev_no ht (e0.trans hr)]
    show _ = (match evF _ with | .ok m => _ | .no => _ | .big => _)
    rw [hr]
  | big =>
    exfalso
    apply hn
    have e : evF f = .big := by
      unfold evF
      rw [ht, show toldOs (.ite c as a b :: r) f.cells = (match toldO (.ite c as a b) f.cells with | .ok m => if m.any bigT = true then .big else toldOs r (f.cells ++ m) | .no => .no | .big => .big) from rfl, e0, hr]
    cases gs with
    | nil => exact e
    | cons g t => show (match evF f with | .ok m => _ | .no => _ | .big => _) = _; rw [e]
  | ok m =>
    obtain ⟨hb, e⟩ := ev_made ht (e0.trans hr) hn
    rw [e]
    show _ = (match evF _ with | .ok m => if m.any bigT = true then Oc.big else _ | .no => _ | .big => _)
    rw [hr]
    show _ = if m.any bigT = true then Oc.big else _
    rw [hb, if_neg Bool.false_ne_true]
end K64
/-! makers of two outcomes over data: an __init__ out of which an error may come -/
namespace DD
open PySem PySem.W L2 SX Cm
def HasIX (P : Program) (w : World) (K : Frag) (mg : Str → Option Value) (base : Heap) (k : Nat) (C : Addr) (nm : Str) (ps : List Str) (dsp : DSpX) : Prop :=
  ∃ f fd, FnOk P w K mg base (L2.CX P w) k f fd ps (toSpX K ps.length dsp) ∧ L2.Binds K fd ps [] ∧ Mk K C f ∧ mg nm = some (.ref C)
section
variable {P : Program} {w : World} {K : Frag} {mg : Str → Option Value} {base : Heap}
theorem atix_mk {C : Addr} {nm qual : Str} {st : Stmt} {N ps : List Str} {k : Nat} {dsp : DSpX} (a : AtI K mg C nm qual st ps) (S : FnScope N ps (defScope st))
    (body : ∀ (f : Addr) (cdv : Value) (A : Around) (outer : List Env) (s : Shared) (H : Hp) (E : XK), Room k (A.deeper (PyProof.Rows.envOfC qual (defScope st) s.heap.objs.size f cdv)) → ∀ ds G R RX, ds.length = ps.length → FinX K H (LessX RX) E → dsp ds G R RX →
      ∃ t, DSs (cxOf (L2.CX P w) P w K mg base N qual (defScope st) f cdv A outer s H E) (defBody st) t ∧ t { nx := fun _ G => Less R .non G, rt := Less R } (dstart N ds) G) : HasIX P w K mg base (k + 1) C nm ps dsp := by
  obtain ⟨f, fd, F, b, me, c⟩ := a
  refine ⟨f, fd, F.okX S (fun vs H Q E h => ?_) (fun cdv A outer s H vs Q E hr h => ?_), b, me, c⟩
  · obtain ⟨ds, G, R, RX, r, w, l, _⟩ := h
    rw [r.len]; exact l
  · obtain ⟨ds, G, R, RX, r, wd, l, h, fin, fx⟩ := h
    obtain ⟨t, h1, h2⟩ := body f cdv A outer s H E hr ds G R RX l fx.less h
    exact ⟨_, h1, _, _, G, sl_start r, wd, links_def fin, h2⟩
end
section
variable {X : Cx} {k : Nat} {C : Addr} {m nm : Str} {ps : List Str} {dsp : DSpX} {o e : Expr} {es : List Expr} {to : TD} {ts : TDA} {p apos pos : Pos} {E : XK} {RX : DXk}
def dMakeX (C : Addr) (n : Nat) (dsp : DSpX) (RX : DXk) (ts : TDA) : TD := fun δ G Q => ts δ G fun ds G1 => ∀ x, G1 x = none → ds.length + 1 = n ∧ dsp (.ref x :: ds) (dupd G1 x (.obj C [])) (fun d G2 => d = .non ∧ Q (.ref x) G2) RX
theorem w_makeX {n : Nat} {δ : DSt} {G : DG} {Q : DK} (h : ts δ G fun ds G1 => ∀ x, G1 x = none → ds.length + 1 = n ∧ dsp (.ref x :: ds) (dupd G1 x (.obj C [])) (fun d G2 => d = .non ∧ Q (.ref x) G2) RX) : dMakeX C n dsp RX ts δ G Q := h
theorem de_makeX (h : HasIX X.prog X.w X.K X.mg X.base k C nm ps dsp) (hx : FinX X.K X.H_0 RX E) (tk : Takes X (fun cls d _ H => E cls d H)) (hr : Room (k + 1) X.A) (hg : Gl X nm) (ha : DA X (e :: es) ts) (hdb : (nm == ("__debug__" : Str)) = false := by decide) (he : starEach (e :: es) X.env = (false, eval e X.env) :: starEach es X.env := by rfl) (hpl : (backTo pos (starEach es X.env)).any (·.1) = false := by rfl) :
    DE X (.Call (.Name nm p) (e :: es) [] pos) (dMakeX C ps.length dsp RX ts) := by
  obtain ⟨f, fd, F, b, mk, m⟩ := h
  refine PE_mono (pe_inv (pe_make mk F hr hg m b .nil (passes_call (E := E) tk fun _ _ _ _ h => h) ha hdb he hpl)) fun σ H Q ⟨δ, G, R, sl, w, h, fn⟩ => fun t0 => ⟨δ, G, _, sl, w, h, fun ds G1 vs H1 q t1 w1 r1 => ?_⟩
  intro x dx nx nd ne
  have s1 : Same H1 (upd H1 dx (.own x)) := same_new nd _
  have nx' : (upd H1 dx (.own x)) x = none := by rw [upd_ne (Ne.symm ne)]; exact nx
  have s2 := same_new nx' (HO.ins C dx [])
  have w2 : Wd X.K (upd (upd H1 dx (.own x)) x (.ins C dx [])) (dupd G1 x (.obj C [])) := (w1.same s1).new nx' fun O => ⟨dx, [], upd_same, .nil⟩
  have q' := q x (w1.free nx)
  rw [List.append_nil]
  have t2 : TKs X.K H1 (upd (upd H1 dx (.own x)) x (.ins C dx [])) := (TKs.of s1).trans (TKs.of s2)
  refine ⟨_, _, _, _, .cons (.ref x) (r1.mono t2), w2, q'.1, q'.2, fun d G3 v H3 ⟨e1, q3⟩ t3 w3 r3 => ?_, hx.step (t0.trans (t1.trans t2))⟩
  subst e1
  cases r3
  exact ⟨rfl, fn _ _ _ _ q3 ((t1.trans t2).trans t3) w3 (.ref x)⟩
end
end DD
set_option maxHeartbeats 1000000
namespace K64
open PySem PySem.W L2 SX Cm DD
local macro_rules | `(tactic| walk_at "d1") => `(tactic| first | (with_reducible refine w_go ?_) | ((with_reducible show dVar _ _ _ _); refine w_var rfl ?_) | (with_reducible refine w_exI ?_) | (with_reducible refine w_exB ?_) | (with_reducible refine w_exT ?_) | (with_reducible refine w_exS ?_) | (with_reducible refine w_parE ?_) | (with_reducible refine ly1 ?_) | (with_reducible refine ly2 ?_) | (with_reducible refine lt1' ?_) | (with_reducible refine lt2' ?_) | (with_reducible refine wx_enumT ?_) | (with_reducible refine w_callX ?_) | (with_reducible refine w_methX ?_) | (with_reducible refine w_raise ?_) | (with_reducible refine w_try ?_) | (with_reducible refine w_xSet ?_) | (with_reducible refine w_xExpr ?_) | (with_reducible refine w_xLst ?_) | (with_reducible refine w_xTup ?_) | (with_reducible refine w_xCons ?_) | (with_reducible refine w_xNil ?_) | (with_reducible refine w_xE ?_) | (with_reducible refine w_xCall ?_) | (with_reducible refine w_call0 ?_) | (with_reducible refine w_asgL ?_) | (with_reducible refine w_tupPd ?_) | (with_reducible refine wi_zip ?_) | (with_reducible refine w_delT ?_) | (with_reducible refine w_dc ?_) | (with_reducible refine w_revL ?_) | (with_reducible refine wi_revT ?_) | (with_reducible refine w_lstZip ?_) | (with_reducible refine w_chain ?_) | (with_reducible refine w_orT ?_) | ((with_reducible show gT _ _ _ _ _ _); refine g_T ?_ rfl) | ((with_reducible show ∃ p, DV.ref _ = _ ∧ (∃ kvs, _) ∧ _); refine wx_get (by walk_at "gq") ?_) | ((with_reducible show ∃ kvs z, _ = _ ∧ _ = some (DO.dct _) ∧ _); refine wx_get2 (by walk_at "gq") ?_) | ((with_reducible show ∃ p kvs z, _ = _ ∧ _ = _ ∧ _ = some (DO.dct _) ∧ _); refine wx_in (by walk_at "gq") ?_) | ((with_reducible show List.length _ = _ ∧ _); refine w_len ?_ rfl) | ((with_reducible show List.length _ ≤ sizeLine ∧ _); refine w_sz ?_ (szl rfl)) | ((with_reducible show bIx _ (.int _) _ _); first | refine w_ix0 ?_ | refine w_ix1 ?_ | refine w_ix2 ?_ | refine w_ix3 ?_) | ((with_reducible show bIsi [_, _] _ _); first | refine w_isi (by decide) (a := "tuple") rfl rfl ?_ | refine w_isi (by decide) (a := "str") rfl rfl ?_ | refine w_isi (by decide) (a := "int") rfl rfl ?_ | refine w_isi (by decide) (a := "bool") rfl rfl ?_ | refine w_isi (by decide) (a := "NoneType") rfl rfl ?_) | ((with_reducible show ∃ ds, _ = DV.tup ds ∧ _); refine w_exT ?_) | ((with_reducible show ∃ z, _ = DV.str z ∧ _); refine w_exS ?_) | ((with_reducible show ∃ ds, [_] = [DV.tup ds] ∧ _); refine wx_enumT ?_) | ((with_reducible show bSl _ _ _ _ _); refine w_slT ?_) | ((with_reducible show bTuple [_] _ _); refine w_tupT ?_) | ((with_reducible show bLen [_] _ _); refine w_lenT ?_) | ((with_reducible show bTru _ _ _); first | refine w_truT ?_ | refine w_truN ?_ | refine w_truB ?_ | refine w_truI ?_) | ((with_reducible show bEq _ _ _ _ _); first | refine w_eqSS ?_ | refine w_eqII ?_ | refine w_neSS ?_ | refine w_neII ?_ | refine w_eqT0 ?_) | ((with_reducible show bInt _ _ (.int _) (.int _) _ _); refine w_int (by first | decide | exact ⟨by decide, by decide, by decide⟩ | exact .inl ⟨by decide, by decide⟩ | exact .inr ⟨by decide, by decide⟩) ?_) | ((with_reducible show if _ = true then _ else _); first | refine w_it (by first | rfl | decide +kernel) ?_ | refine w_if0 (by first | rfl | decide +kernel) ?_) | ((with_reducible show rcv "list" (.ref _) _ ∧ _); refine w_rcvL (by walk_at "gq") ?_) | ((with_reducible show bTuple [.ref _] _ _); refine w_tupL (by walk_at "gq") ?_) | ((with_reducible show bLen [.ref _] _ _); refine w_lenL (by walk_at "gq") ?_) | ((with_reducible show bTru (.ref _) _ _); refine w_truL (by walk_at "gq") ?_) | ((with_reducible show ∃ _ _, DV.ref _ = _ ∧ Ls _ _ _ ∧ _); refine wx_lst (by walk_at "gq") ?_) | ((with_reducible show ∃ _ _, [DV.ref _] = _ ∧ Ls _ _ _ ∧ _); refine wx_lstA (by walk_at "gq") ?_))
local macro_rules | `(tactic| walk_at "dd") => `(tactic| repeat (walk_at "d1"))
local macro_rules | `(tactic| walk_at "gq") => `(tactic| first | assumption | exact dupd_same | exact sub_get (by assumption) (by walk_at "gq") | exact upd_get (by assumption) (by walk_at "gq") (by walk_at "gn") | exact subx_get (by assumption) (by walk_at "gq") (by walk_at "gn") | (refine (dupd_ne ?_).trans ?_; (focus walk_at "gn"); walk_at "gq"))
local macro_rules | `(tactic| walk_at "gs") => `(tactic| first | assumption | exact Sub.refl _ | exact sub_tr (by assumption) (by walk_at "gs") | exact sub_up (by assumption) (by walk_at "gs") (by walk_at "g0") | exact sub_ux (by assumption) (by walk_at "gs") (by walk_at "g0") | (refine Sub.new ?_ ?_; (focus walk_at "gs"); walk_at "g0"))
local macro_rules | `(tactic| walk_at "gk") => `(tactic| first | assumption | exact db_sub (by assumption) (by walk_at "gk") | exact db_upd (by assumption) (by walk_at "gk") ⟨_, by walk_at "gq"⟩ | exact db_updD (by assumption) (by walk_at "gk") ⟨_, by walk_at "gq"⟩)
local macro_rules | `(tactic| walk_at "gu") => `(tactic| first | assumption | exact Upd.refl _ _ | exact upd_in (by assumption) (by walk_at "gu"))
local macro_rules | `(tactic| walk_at "gx") => `(tactic| first | assumption | exact SubX.refl _ _ | exact subx_sub (by assumption) (by walk_at "gx") | exact subx_upd (by assumption) (by walk_at "gx") | exact subx_tr (by assumption) (by walk_at "gx"))
local macro_rules | `(tactic| walk_at "gn") => `(tactic| first | assumption | exact Ne.symm (by assumption) | exact ne_ns (by assumption) ⟨_, by walk_at "gq"⟩ | exact ne_sn (by assumption) ⟨_, by walk_at "gq"⟩)
local macro_rules | `(tactic| walk_at "g0") => `(tactic| first | assumption | exact nn_ (by assumption) (by walk_at "gs"))
local macro_rules | `(tactic| walk_at "gl") => `(tactic| first | exact fs_c | exact fs_t | exact fs_o)
local macro_rules | `(tactic| walk_at "df") => `(tactic| first | (with_reducible refine w_fld ?_) | (with_reducible refine w_fldS ?_) | (with_reducible refine w_meth ?_) | (with_reducible refine w_make ?_) | (with_reducible refine w_makeX ?_) | ((with_reducible show ∃ a' C' fs' d', DV.ref _ = .ref a' ∧ _ ∧ Cls _ C' ∧ NoAttr _ C' _ ∧ List.lookup _ fs' = some d' ∧ _); refine ⟨_, _, _, _, rfl, by walk_at "gq", by assumption, by assumption, by walk_at "gl", ?_⟩))
local macro_rules | `(tactic| walk_at "de") => `(tactic| repeat (first | walk_at "d1" | walk_at "df"))
abbrev s_p_CodeRun_init : Stmt := inClass (top 31) 0
abbrev s_p_CodeRun_things_in : Stmt := inClass (top 31) 1
/-- what is not in L stays -/
def Frm (L : List Addr) (G G' : DG) : Prop := ∀ x o, x ∉ L → G x = some o → G' x = some o
theorem Frm.sub {L : List Addr} {G G' : DG} (s : DD.Sub G G') : Frm L G G' := fun x o _ e => s x o e
theorem Frm.upd {G G' : DG} {a : Addr} (u : Upd G a G') : Frm [a] G G' := fun x o n e => by rw [u x (fun z => n (List.mem_singleton.mpr z))]; exact e
theorem Frm.tr {L : List Addr} {A B C : DG} (h : Frm L A B) (g : Frm L B C) : Frm L A C := fun x o n e => g x o n (h x o n e)
theorem Frm.mono {L M : List Addr} {A B : DG} (h : Frm L A B) (i : ∀ x ∈ L, x ∈ M) : Frm M A B := fun x o n e => h x o (fun z => n (i x z)) e
/-- the fields of a run -/
def fsC (pc pt : Addr) (us : List Nat) : List (Str × DV) := [("cells", .ref pc), ("todo", .ref pt), ("outs", .tup (us.map nI))]
section
variable {pc pt : Addr} {us : List Nat}
theorem fs_c : (fsC pc pt us).lookup ("cells" : Str) = some (DV.ref pc) := by unfold fsC; rw [look_cons, if_pos rfl]
theorem fs_t : (fsC pc pt us).lookup ("todo" : Str) = some (DV.ref pt) := by unfold fsC; rw [look_cons, if_neg (by decide +kernel), look_cons, if_pos rfl]
theorem fs_o : (fsC pc pt us).lookup ("outs" : Str) = some (DV.tup (us.map nI)) := by unfold fsC; rw [look_cons, if_neg (by decide +kernel), look_cons, if_neg (by decide +kernel), look_cons, if_pos rfl]
theorem fs_no : (fsC pc pt us).lookup ("things_in" : Str) = none := by unfold fsC; rw [look_cons, if_neg (by decide +kernel), look_cons, if_neg (by decide +kernel), look_cons, if_neg (by decide +kernel)]; rfl
abbrev fs1 (pc : Addr) : List (Str × DV) := [("cells", .ref pc)]
abbrev fs2 (pc pt : Addr) : List (Str × DV) := [("cells", .ref pc), ("todo", .ref pt)]
theorem put1 : oputO "cells" (.ref pc) [] = fs1 pc := rfl
theorem put2 : oputO "todo" (.ref pt) (fs1 pc) = fs2 pc pt := by show oputO _ _ (("cells", DV.ref pc) :: []) = _; rw [oputO, if_neg (by decide +kernel)]; rfl
theorem put3 : oputO "outs" (.tup (us.map nI)) (fs2 pc pt) = fsC pc pt us := by show oputO _ _ (("cells", DV.ref pc) :: ("todo", DV.ref pt) :: []) = _; rw [oputO, if_neg (by decide +kernel), oputO, if_neg (by decide +kernel)]; rfl
end
theorem de_fldK {X : Cx} {K : Frag} {e : Expr} {f : Str} {pos : Pos} {t : TD} (hK : X.K = K) (he : DE X e t) (hb : attributeBase e f X.env (eval e X.env) = eval e X.env := by rfl) : DE X (.Attribute e f pos) (dFld K t f) := by
  subst hK; exact de_fld he hb
structure ClsT (K : Frag) (C : Addr) : Prop where
  c : Cls K C
  nc : NoAttr K C "cells"
  nt : NoAttr K C "todo"
  no : NoAttr K C "outs"
section
variable {P : Program} {w : World} {K : Frag} {mg : Str → Option Value} {base : Heap}
def SP_ci (N C : Addr) : DSpX := fun ds G R RX => ∃ a cd ts, ds = [.ref a, eC cd, .tup (eTs ts)] ∧ G a = some (.obj C []) ∧ okC cd ∧ ts.length ≤ 1000 ∧ (ts.length ≠ tkC cd → RX (.ref N) G) ∧
  (ts.length = tkC cd → ∀ pc pt G', G pc = none → G pt = none → pc ≠ pt → Frm [a] G G' → G' a = some (.obj C (fsC pc pt (usC cd))) → G' pc = some (.lst (eTs ts)) → G' pt = some (.lst (eOs (opsC cd)).reverse) → R .non G')
def SP_ti (C : Addr) : DSp := fun ds G R => ∃ (a pc pt : Addr) (us : List Nat) (ts : List Th) (cs : List Nat), ds = [.ref a, .tup (cs.map nI)] ∧ G a = some (.obj C (fsC pc pt us)) ∧ G pc = some (.lst (eTs ts)) ∧ (∀ c ∈ cs, c < ts.length) ∧ cs.length ≤ 100 ∧ R (.tup (eTs (cs.map (atT ts)))) G
abbrev N_p_CodeRun_init : List Str := ["self", "code", "things", "takes", "ops", "outs"]
abbrev A_p_CodeRun_init : List Str := ["self", "code", "things"]
theorem sc_p_CodeRun_init : FnScope N_p_CodeRun_init A_p_CodeRun_init (defScope s_p_CodeRun_init) := ⟨rfl, rfl, rfl, by decide +kernel, rfl, by decide +kernel, by decide +kernel⟩
theorem h_p_CodeRun_init {C : Addr} (a : AtI K mg C "CodeRun" "CodeRun.__init__" s_p_CodeRun_init A_p_CodeRun_init) (B : BI mg) (T : ClsT K C) {e_NoStep : Addr} (x_NoStep : ErrC K mg "NoStep" e_NoStep) : HasIX P w K mg base 1 C "CodeRun" A_p_CodeRun_init (SP_ci e_NoStep C) := by
  refine atix_mk a sc_p_CodeRun_init fun f cdv A outer s H E hr ds G R RX hl hx h => ?_
  refine ⟨_, (dss_cons (ds_asg (dv 1) (dg_tup rfl (dgs_cons (dg_name (i := 3) sc_p_CodeRun_init.nd rfl (.inl rfl)) (dgs_cons (dg_name (i := 4) sc_p_CodeRun_init.nd rfl (.inl rfl)) (dgs_cons (dg_name (i := 5) sc_p_CodeRun_init.nd rfl (.inl rfl)) dgs_nil)))))
    (dss_cons (ds_if (dt_cmp (od_ne hr.units) (de_callB cd_len B.len rfl (by decide +kernel) (da_cons (dv 2) da_nil)) (dv 3) (nomark _)) (dss_one (ds_raiseC x_NoStep rfl hx (takes_of rfl rfl rfl rfl) rfl)) dss_nil)
    (dss_cons (ds_fld (dv 0) (de_callTy cd_list B.lst rfl (by decide +kernel) (da_cons (dv 2) da_nil)))
    (dss_cons (ds_fld (dv 0) (de_callTy cd_list B.lst rfl (by decide +kernel) (da_cons (de_revT (dv 4)) da_nil)))
    (dss_one (ds_fld (dv 0) (dv 5))))))), ?_⟩
  obtain ⟨a, cd, ts, rfl, ha, hc, lts, qx, q⟩ := h
  obtain ⟨hC, nC, nT, nO⟩ := T
  cases cd with
  | mk t ops us =>
  have ec : eC (.mk t ops us) = .tup [.int (t : Int), .tup (eOs ops), .tup (us.map nI)] := rfl
  rw [ec]
  walk_at "de"
  rw [eTs_len]
  by_cases hl0 : ts.length = t
  · refine w_if0 (by rw [decide_eq_true (by omega)]; rfl) ?_
    walk_at "de"
    refine w_lstT fun pc npc => ?_
    refine abs_new npc fun G1 s1 h1 => ?_
    walk_at "de"
    have ha1 := s1 _ _ ha
    refine ⟨_, _, _, rfl, ha1, by assumption, by assumption, (by show 0 < 1000; decide), ?_⟩
    refine abs_upd ha1 fun G2 u2 h2 => ?_
    rw [put1] at h2
    walk_at "de"
    refine w_lstT fun pt npt => ?_
    refine abs_new npt fun G3 s3 h3 => ?_
    walk_at "de"
    have ha3 := s3 _ _ h2
    refine ⟨_, _, _, rfl, ha3, by assumption, by assumption, (by show 1 < 1000; decide), ?_⟩
    refine abs_upd ha3 fun G4 u4 h4 => ?_
    rw [put2] at h4
    walk_at "de"
    refine ⟨_, _, _, rfl, h4, by assumption, by assumption, (by show 2 < 1000; decide), ?_⟩
    refine abs_upd h4 fun G5 u5 h5 => ?_
    rw [put3] at h5
    have ca : pc ≠ a := fun e => by rw [e, ha] at npc; cases npc
    have ta : pt ≠ a := fun e => by rw [e, h2] at npt; cases npt
    have c2 : G2 pc = some (.lst (eTs ts)) := (u2 pc ca).trans h1
    have ct : pc ≠ pt := fun e => by rw [← e, c2] at npt; cases npt
    have t0 : G pt = none := by
      cases e : G pt with
      | none => rfl
      | some o =>
        have e2 := s1 _ _ e
        rw [← u2 pt ta, npt] at e2; cases e2
    exact Less.of (q hl0 pc pt G5 npc t0 ct (((Frm.sub s1).tr (.upd u2)).tr ((Frm.sub s3).tr ((Frm.upd u4).tr (.upd u5)))) h5 ((u5 pc ca).trans ((u4 pc ca).trans (s3 _ _ c2))) ((u5 pt ta).trans ((u4 pt ta).trans h3)))
  · refine w_it (by rw [decide_eq_false (by omega)]; rfl) ?_
    walk_at "de"
    exact LessX.of (qx hl0)
abbrev N_p_CodeRun_things_in : List Str := ["self", "cells", "cell"]
abbrev A_p_CodeRun_things_in : List Str := ["self", "cells"]
theorem sc_p_CodeRun_things_in : FnScope N_p_CodeRun_things_in A_p_CodeRun_things_in (defScope s_p_CodeRun_things_in) := ⟨rfl, rfl, rfl, by decide +kernel, rfl, by decide +kernel, by decide +kernel⟩
theorem h_p_CodeRun_things_in {C : Addr} (a : AtM K C "things_in" "CodeRun.things_in" s_p_CodeRun_things_in A_p_CodeRun_things_in) (B : BI mg) (T : ClsT K C) : HasM P w K mg base 1 C "things_in" A_p_CodeRun_things_in (SP_ti C) := by
  refine atm_mk a sc_p_CodeRun_things_in fun f cdv A outer s H E hr ds G R hl h => ?_
  refine ⟨_, (dss_one (ds_ret (de_callTy cd_tuple B.tup rfl (by decide +kernel) (da_cons (de_lc (own := [("cell", 2)]) (lt1 (i := 2) (by decide)) rfl sc_p_CodeRun_things_in.nd (di_tup (dv 1)) (blkOk_by (own := [("cell", 2)]) (N := N_p_CodeRun_things_in) (sc := defScope s_p_CodeRun_things_in) (by decide +kernel)) (fun _ _ _ _ _ => pg_name (i := 2) sc_p_CodeRun_things_in.nd rfl (Or.inl rfl)) (fun _ _ _ _ _ => dts_nil) (fun _ _ _ _ _ => (de_ix (de_fldK (K := K) rfl (dv 0)) (dv 2)))) da_nil)))), ?_⟩
  obtain ⟨a, pc, pt, us, ts, cs, rfl, ha, hp, hcs, lcs, q⟩ := h
  obtain ⟨hC, nC, nT, nO⟩ := T
  walk_at "de"
  refine lcs_pure (fun d => match d with | .int i => some (eT (atT ts i.toNat)) | _ => none) (fun _ _ => trivial) (by rw [List.length_map]; omega) ?_ ?_
  · intro d hd G' k1 k0 s' e1 e0
    obtain ⟨c', hc', rfl⟩ := List.mem_map.mp hd
    have ha' := s' _ _ ha
    have hp' := s' _ _ hp
    walk_at "de"
    refine ⟨_, _, _, _, rfl, ha', hC, nC, fs_c, ?_⟩
    walk_at "de"
    refine w_ixL (i := (c' : Int)) hp' (atI_nat (j := c') (by rw [eTs_map, List.getElem?_map, atT_get (hcs c' hc')]; rfl)) ?_
    exact e1 _ rfl
  intro p1 G1 n1 s1 h1
  have e : (cs.map nI).filterMap (fun d => match d with | .int i => some (eT (atT ts i.toNat)) | _ => none) = eTs (cs.map (atT ts)) := by
    rw [List.filterMap_map, eTs_map, List.map_map]
    exact List.filterMap_eq_map ▸ rfl
  rw [e] at h1
  walk_at "de"
  exact ⟨G, s1, q⟩
end
end K64
set_option maxHeartbeats 1000000
namespace K64
open PySem PySem.W L2 SX Cm DD
local macro_rules | `(tactic| walk_at "d1") => `(tactic| first | (with_reducible refine w_go ?_) | ((with_reducible show dVar _ _ _ _); refine w_var rfl ?_) | (with_reducible refine w_exI ?_) | (with_reducible refine w_exB ?_) | (with_reducible refine w_exT ?_) | (with_reducible refine w_exS ?_) | (with_reducible refine w_parE ?_) | (with_reducible refine ly1 ?_) | (with_reducible refine ly2 ?_) | (with_reducible refine lt1' ?_) | (with_reducible refine lt2' ?_) | (with_reducible refine wx_enumT ?_) | (with_reducible refine w_callX ?_) | (with_reducible refine w_methX ?_) | (with_reducible refine w_raise ?_) | (with_reducible refine w_try ?_) | (with_reducible refine w_xSet ?_) | (with_reducible refine w_xExpr ?_) | (with_reducible refine w_xLst ?_) | (with_reducible refine w_xTup ?_) | (with_reducible refine w_xCons ?_) | (with_reducible refine w_xNil ?_) | (with_reducible refine w_xE ?_) | (with_reducible refine w_xCall ?_) | (with_reducible refine w_call0 ?_) | (with_reducible refine w_asgL ?_) | (with_reducible refine w_tupPd ?_) | (with_reducible refine wi_zip ?_) | (with_reducible refine w_delT ?_) | (with_reducible refine w_dc ?_) | (with_reducible refine w_revL ?_) | (with_reducible refine wi_revT ?_) | (with_reducible refine w_lstZip ?_) | (with_reducible refine w_chain ?_) | (with_reducible refine w_orT ?_) | ((with_reducible show gT _ _ _ _ _ _); refine g_T ?_ rfl) | ((with_reducible show ∃ p, DV.ref _ = _ ∧ (∃ kvs, _) ∧ _); refine wx_get (by walk_at "gq") ?_) | ((with_reducible show ∃ kvs z, _ = _ ∧ _ = some (DO.dct _) ∧ _); refine wx_get2 (by walk_at "gq") ?_) | ((with_reducible show ∃ p kvs z, _ = _ ∧ _ = _ ∧ _ = some (DO.dct _) ∧ _); refine wx_in (by walk_at "gq") ?_) | ((with_reducible show List.length _ = _ ∧ _); refine w_len ?_ rfl) | ((with_reducible show List.length _ ≤ sizeLine ∧ _); refine w_sz ?_ (szl rfl)) | ((with_reducible show bIx _ (.int _) _ _); first | refine w_ix0 ?_ | refine w_ix1 ?_ | refine w_ix2 ?_ | refine w_ix3 ?_) | ((with_reducible show bIsi [_, _] _ _); first | refine w_isi (by decide) (a := "tuple") rfl rfl ?_ | refine w_isi (by decide) (a := "str") rfl rfl ?_ | refine w_isi (by decide) (a := "int") rfl rfl ?_ | refine w_isi (by decide) (a := "bool") rfl rfl ?_ | refine w_isi (by decide) (a := "NoneType") rfl rfl ?_) | ((with_reducible show ∃ ds, _ = DV.tup ds ∧ _); refine w_exT ?_) | ((with_reducible show ∃ z, _ = DV.str z ∧ _); refine w_exS ?_) | ((with_reducible show ∃ ds, [_] = [DV.tup ds] ∧ _); refine wx_enumT ?_) | ((with_reducible show bSl _ _ _ _ _); refine w_slT ?_) | ((with_reducible show bTuple [_] _ _); refine w_tupT ?_) | ((with_reducible show bLen [_] _ _); refine w_lenT ?_) | ((with_reducible show bTru _ _ _); first | refine w_truT ?_ | refine w_truN ?_ | refine w_truB ?_ | refine w_truI ?_) | ((with_reducible show bEq _ _ _ _ _); first | refine w_eqSS ?_ | refine w_eqII ?_ | refine w_neSS ?_ | refine w_neII ?_ | refine w_eqT0 ?_) | ((with_reducible show bInt _ _ (.int _) (.int _) _ _); refine w_int (by first | decide | exact ⟨by decide, by decide, by decide⟩ | exact .inl ⟨by decide, by decide⟩ | exact .inr ⟨by decide, by decide⟩) ?_) | ((with_reducible show if _ = true then _ else _); first | refine w_it (by first | rfl | decide +kernel) ?_ | refine w_if0 (by first | rfl | decide +kernel) ?_) | ((with_reducible show rcv "list" (.ref _) _ ∧ _); refine w_rcvL (by walk_at "gq") ?_) | ((with_reducible show bTuple [.ref _] _ _); refine w_tupL (by walk_at "gq") ?_) | ((with_reducible show bLen [.ref _] _ _); refine w_lenL (by walk_at "gq") ?_) | ((with_reducible show bTru (.ref _) _ _); refine w_truL (by walk_at "gq") ?_) | ((with_reducible show ∃ _ _, DV.ref _ = _ ∧ Ls _ _ _ ∧ _); refine wx_lst (by walk_at "gq") ?_) | ((with_reducible show ∃ _ _, [DV.ref _] = _ ∧ Ls _ _ _ ∧ _); refine wx_lstA (by walk_at "gq") ?_))
local macro_rules | `(tactic| walk_at "dd") => `(tactic| repeat (walk_at "d1"))
local macro_rules | `(tactic| walk_at "gq") => `(tactic| first | assumption | exact dupd_same | exact sub_get (by assumption) (by walk_at "gq") | exact upd_get (by assumption) (by walk_at "gq") (by walk_at "gn") | exact subx_get (by assumption) (by walk_at "gq") (by walk_at "gn") | (refine (dupd_ne ?_).trans ?_; (focus walk_at "gn"); walk_at "gq"))
local macro_rules | `(tactic| walk_at "gs") => `(tactic| first | assumption | exact Sub.refl _ | exact sub_tr (by assumption) (by walk_at "gs") | exact sub_up (by assumption) (by walk_at "gs") (by walk_at "g0") | exact sub_ux (by assumption) (by walk_at "gs") (by walk_at "g0") | (refine Sub.new ?_ ?_; (focus walk_at "gs"); walk_at "g0"))
local macro_rules | `(tactic| walk_at "gk") => `(tactic| first | assumption | exact db_sub (by assumption) (by walk_at "gk") | exact db_upd (by assumption) (by walk_at "gk") ⟨_, by walk_at "gq"⟩ | exact db_updD (by assumption) (by walk_at "gk") ⟨_, by walk_at "gq"⟩)
local macro_rules | `(tactic| walk_at "gu") => `(tactic| first | assumption | exact Upd.refl _ _ | exact upd_in (by assumption) (by walk_at "gu"))
local macro_rules | `(tactic| walk_at "gx") => `(tactic| first | assumption | exact SubX.refl _ _ | exact subx_sub (by assumption) (by walk_at "gx") | exact subx_upd (by assumption) (by walk_at "gx") | exact subx_tr (by assumption) (by walk_at "gx"))
local macro_rules | `(tactic| walk_at "gn") => `(tactic| first | assumption | exact Ne.symm (by assumption) | exact ne_ns (by assumption) ⟨_, by walk_at "gq"⟩ | exact ne_sn (by assumption) ⟨_, by walk_at "gq"⟩)
local macro_rules | `(tactic| walk_at "g0") => `(tactic| first | assumption | exact nn_ (by assumption) (by walk_at "gs"))
local macro_rules | `(tactic| walk_at "gl") => `(tactic| first | exact fs_c | exact fs_t | exact fs_o)
local macro_rules | `(tactic| walk_at "df") => `(tactic| first | (with_reducible refine w_fld ?_) | (with_reducible refine w_fldS ?_) | (with_reducible refine w_meth ?_) | (with_reducible refine w_make ?_) | (with_reducible refine w_makeX ?_) | ((with_reducible show ∃ a' C' fs' d', DV.ref _ = .ref a' ∧ _ ∧ Cls _ C' ∧ NoAttr _ C' _ ∧ List.lookup _ fs' = some d' ∧ _); refine ⟨_, _, _, _, rfl, by walk_at "gq", by assumption, by assumption, by walk_at "gl", ?_⟩))
local macro_rules | `(tactic| walk_at "de") => `(tactic| repeat (first | walk_at "d1" | walk_at "df"))
abbrev Ad := Addr × Addr × Addr
def adr (k : Ad) : List Addr := [k.1, k.2.1, k.2.2]
/-- a run in the store -/
structure HFr (C : Addr) (G : DG) (k : Ad) (f : Fr) : Prop where
  o : G k.1 = some (.obj C (fsC k.2.1 k.2.2 f.outs))
  c : G k.2.1 = some (.lst (eTs f.cells))
  t : G k.2.2 = some (.lst (eOs f.todo).reverse)
def HAll (C : Addr) (G : DG) : List Ad → List Fr → Prop
  | [], [] => True
  | k :: ks, f :: fs => HFr C G k f ∧ HAll C G ks fs
  | _, _ => False
def adrs (ks : List Ad) : List Addr := ks.flatMap adr
/-- runs within one another in the store, the innermost first; B: the store before -/
structure HStk (C : Addr) (B G : DG) (pR : Addr) (ks : List Ad) (fs : List Fr) : Prop where
  r : G pR = some (.lst (ks.reverse.map fun k => DV.ref k.1))
  a : HAll C G ks fs
  n : (pR :: adrs ks).Nodup
  b : ∀ x ∈ pR :: adrs ks, B x = none
  s : DD.Sub B G
theorem HFr.frm {C : Addr} {G G' : DG} {k : Ad} {f : Fr} {L : List Addr} (h : HFr C G k f) (m : Frm L G G') (n : ∀ x ∈ adr k, x ∉ L) : HFr C G' k f :=
  ⟨m _ _ (n _ (List.mem_cons_self ..)) h.o, m _ _ (n _ (List.mem_cons_of_mem _ (List.mem_cons_self ..))) h.c, m _ _ (n _ (List.mem_cons_of_mem _ (List.mem_cons_of_mem _ (List.mem_cons_self ..)))) h.t⟩
theorem HAll.frm {C : Addr} {G G' : DG} {L : List Addr} (m : Frm L G G') : ∀ {ks : List Ad} {fs : List Fr}, HAll C G ks fs → (∀ x ∈ adrs ks, x ∉ L) → HAll C G' ks fs
  | [], [], _, _ => trivial
  | k :: ks, f :: fs, h, n => ⟨h.1.frm m fun x hx => n x (List.mem_append_left _ hx), HAll.frm m h.2 fun x hx => n x (List.mem_append_right _ hx)⟩
theorem adrs_cons (k : Ad) (ks : List Ad) : adrs (k :: ks) = k.1 :: k.2.1 :: k.2.2 :: adrs ks := rfl
/-- of one's own addresses no two are the same -/
structure Ne4 (pR : Addr) (k : Ad) (ks : List Ad) : Prop where
  r1 : pR ≠ k.1
  r2 : pR ≠ k.2.1
  r3 : pR ≠ k.2.2
  rk : pR ∉ adrs ks
  n12 : k.1 ≠ k.2.1
  n13 : k.1 ≠ k.2.2
  n23 : k.2.1 ≠ k.2.2
  k1 : k.1 ∉ adrs ks
  k2 : k.2.1 ∉ adrs ks
  k3 : k.2.2 ∉ adrs ks
  nn : (adrs ks).Nodup
theorem ne4 {pR : Addr} {k : Ad} {ks : List Ad} (h : (pR :: adrs (k :: ks)).Nodup) : Ne4 pR k ks := by
  rw [adrs_cons] at h
  simp only [List.nodup_cons, List.mem_cons, not_or] at h
  obtain ⟨⟨a1, a2, a3, a4⟩, ⟨b1, b2, b3⟩, ⟨c1, c2⟩, d1, e⟩ := h
  exact ⟨a1, a2, a3, a4, b1, b2, c1, b3, c2, d1, e⟩
theorem HStk.upd {C : Addr} {B G G' : DG} {pR v : Addr} {ks : List Ad} {fs : List Fr} (h : HStk C B G pR ks fs) (hv : v ∈ pR :: adrs ks) (u : Upd G v G') : DD.Sub B G' := fun x o e => by
  have n : x ≠ v := fun z => by rw [z, h.b v hv] at e; cases e
  rw [u x n]; exact h.s x o e
theorem HStk.cells {C : Addr} {B G G' : DG} {pR : Addr} {k : Ad} {ks : List Ad} {f : Fr} {fs : List Fr} {cs : List Th} (h : HStk C B G pR (k :: ks) (f :: fs)) (u : Upd G k.2.1 G') (e : G' k.2.1 = some (.lst (eTs cs))) : HStk C B G' pR (k :: ks) ({ f with cells := cs } :: fs) := by
  have n := ne4 h.n
  refine ⟨(u pR n.r2).trans h.r, ⟨⟨(u _ n.n12).trans h.a.1.o, e, (u _ (Ne.symm n.n23)).trans h.a.1.t⟩, h.a.2.frm (Frm.upd u) fun x hx z => ?_⟩, h.n, h.b, h.upd (List.mem_cons_of_mem _ (List.mem_cons_of_mem _ (List.mem_cons_self ..))) u⟩
  rw [List.mem_singleton.mp z] at hx; exact n.k2 hx
theorem HStk.todo {C : Addr} {B G G' : DG} {pR : Addr} {k : Ad} {ks : List Ad} {f : Fr} {fs : List Fr} {os : List Op} (h : HStk C B G pR (k :: ks) (f :: fs)) (u : Upd G k.2.2 G') (e : G' k.2.2 = some (.lst (eOs os).reverse)) : HStk C B G' pR (k :: ks) ({ f with todo := os } :: fs) := by
  have n := ne4 h.n
  refine ⟨(u pR n.r3).trans h.r, ⟨⟨(u _ n.n13).trans h.a.1.o, (u _ n.n23).trans h.a.1.c, e⟩, h.a.2.frm (Frm.upd u) fun x hx z => ?_⟩, h.n, h.b, h.upd (List.mem_cons_of_mem _ (List.mem_cons_of_mem _ (List.mem_cons_of_mem _ (List.mem_cons_self ..)))) u⟩
  rw [List.mem_singleton.mp z] at hx; exact n.k3 hx
theorem HStk.pop {C : Addr} {B G G' : DG} {pR : Addr} {k : Ad} {ks : List Ad} {f : Fr} {fs : List Fr} (h : HStk C B G pR (k :: ks) (f :: fs)) (u : Upd G pR G') (e : G' pR = some (.lst (ks.reverse.map fun k => DV.ref k.1))) : HStk C B G' pR ks fs := by
  have n := ne4 h.n
  refine ⟨e, h.a.2.frm (Frm.upd u) fun x hx z => ?_, List.nodup_cons.mpr ⟨n.rk, n.nn⟩, fun x hx => h.b x ?_, h.upd (List.mem_cons_self ..) u⟩
  · rw [List.mem_singleton.mp z] at hx; exact n.rk hx
  · rcases List.mem_cons.mp hx with rfl | hx
    · exact List.mem_cons_self ..
    · exact List.mem_cons_of_mem _ (List.mem_cons_of_mem _ (List.mem_cons_of_mem _ (List.mem_cons_of_mem _ hx)))
/-- more in the store -/
theorem HStk.sub {C : Addr} {B G G' : DG} {pR : Addr} {ks : List Ad} {fs : List Fr} (h : HStk C B G pR ks fs) (s : DD.Sub G G') : HStk C B G' pR ks fs :=
  ⟨s _ _ h.r, h.a.frm (Frm.sub (L := []) s) (fun x _ z => nomatch z), h.n, h.b, h.s.trans s⟩
theorem HAll.mem {C : Addr} {G : DG} : ∀ {ks : List Ad} {fs : List Fr}, HAll C G ks fs → ∀ x ∈ adrs ks, ∃ o, G x = some o
  | k :: ks, f :: fs, h, x, hx => by
    rw [adrs_cons] at hx
    simp only [List.mem_cons] at hx
    rcases hx with rfl | rfl | rfl | hx
    · exact ⟨_, h.1.o⟩
    · exact ⟨_, h.1.c⟩
    · exact ⟨_, h.1.t⟩
    · exact HAll.mem h.2 x hx
theorem HStk.has {C : Addr} {B G : DG} {pR : Addr} {ks : List Ad} {fs : List Fr} (h : HStk C B G pR ks fs) : ∀ x ∈ pR :: adrs ks, ∃ o, G x = some o := fun x hx => by
  rcases List.mem_cons.mp hx with rfl | hx
  · exact ⟨_, h.r⟩
  · exact h.a.mem x hx
/-- a new run is made and laid on -/
theorem HStk.push {C : Addr} {B G G1 G2 : DG} {pR x pc pt : Addr} {ks : List Ad} {fs : List Fr} {f : Fr} (h : HStk C B G pR ks fs) (nx : G x = none) (nc : (dupd G x (.obj C [])) pc = none) (nt : (dupd G x (.obj C [])) pt = none) (ct : pc ≠ pt) (m : Frm [x] (dupd G x (.obj C [])) G1) (h1 : G1 x = some (.obj C (fsC pc pt f.outs))) (h2 : G1 pc = some (.lst (eTs f.cells))) (h3 : G1 pt = some (.lst (eOs f.todo).reverse))
    (u : Upd G1 pR G2) (e : G2 pR = some (.lst ((ks.reverse.map fun k => DV.ref k.1) ++ [.ref x]))) : HStk C B G2 pR ((x, pc, pt) :: ks) (f :: fs) := by
  have fr : ∀ y, G y = none → y ∉ pR :: adrs ks := fun y hy hm => by obtain ⟨o, ho⟩ := h.has y hm; rw [hy] at ho; cases ho
  have ne : ∀ y, (dupd G x (.obj C [])) y = none → y ≠ x ∧ G y = none := fun y hy => by
    have n : y ≠ x := fun z => by rw [z, dupd_same] at hy; cases hy
    exact ⟨n, by rw [dupd_ne n] at hy; exact hy⟩
  obtain ⟨cx, gc⟩ := ne pc nc
  obtain ⟨tx, gt⟩ := ne pt nt
  have fx := fr x nx
  have fc := fr pc gc
  have ft := fr pt gt
  rw [List.mem_cons, not_or] at fx fc ft
  have m0 : Frm [x] G G1 := fun y o hy ho => m y o hy (by rw [dupd_ne (fun z => hy (List.mem_singleton.mpr z))]; exact ho)
  have bx : ∀ y, G y = none → B y = none := fun y hy => by
    cases e : B y with
    | none => rfl
    | some o => rw [h.s y o e] at hy; cases hy
  refine ⟨?_, ⟨⟨(u x fx.1).trans h1, (u pc fc.1).trans h2, (u pt ft.1).trans h3⟩, ?_⟩, ?_, ?_, ?_⟩
  · rw [e, List.reverse_cons, List.map_append]; rfl
  · refine (h.a.frm m0 fun y hy z => ?_).frm (Frm.upd u) fun y hy z => ?_
    · rw [List.mem_singleton.mp z] at hy; exact fx.2 hy
    · rw [List.mem_singleton.mp z] at hy; exact (List.nodup_cons.mp h.n).1 hy
  · rw [adrs_cons]
    obtain ⟨r0, kn⟩ := List.nodup_cons.mp h.n
    simp only [List.nodup_cons, List.mem_cons, not_or]
    exact ⟨⟨Ne.symm fx.1, Ne.symm fc.1, Ne.symm ft.1, r0⟩, ⟨Ne.symm cx, Ne.symm tx, fx.2⟩, ⟨ct, fc.2⟩, ft.2, kn⟩
  · intro y hy
    rw [adrs_cons] at hy
    simp only [List.mem_cons] at hy
    rcases hy with rfl | rfl | rfl | rfl | hy
    · exact h.b _ (List.mem_cons_self ..)
    · exact bx _ nx
    · exact bx _ gc
    · exact bx _ gt
    · exact h.b y (List.mem_cons_of_mem _ hy)
  · intro y o hy
    have n1 : y ≠ x := fun z => by rw [z, bx x nx] at hy; cases hy
    have n2 : y ≠ pR := fun z => by rw [z, h.b pR (List.mem_cons_self ..)] at hy; cases hy
    rw [u y n2]
    exact m0 y o (fun z => n1 (List.mem_singleton.mp z)) (h.s y o hy)
end K64
set_option maxHeartbeats 1000000
namespace K64
open PySem PySem.W L2 SX Cm DD
local macro_rules | `(tactic| walk_at "d1") => `(tactic| first | (with_reducible refine w_go ?_) | ((with_reducible show dVar _ _ _ _); refine w_var rfl ?_) | (with_reducible refine w_exI ?_) | (with_reducible refine w_exB ?_) | (with_reducible refine w_exT ?_) | (with_reducible refine w_exS ?_) | (with_reducible refine w_parE ?_) | (with_reducible refine ly1 ?_) | (with_reducible refine ly2 ?_) | (with_reducible refine lt1' ?_) | (with_reducible refine lt2' ?_) | (with_reducible refine wx_enumT ?_) | (with_reducible refine w_callX ?_) | (with_reducible refine w_methX ?_) | (with_reducible refine w_raise ?_) | (with_reducible refine w_try ?_) | (with_reducible refine w_xSet ?_) | (with_reducible refine w_xExpr ?_) | (with_reducible refine w_xLst ?_) | (with_reducible refine w_xTup ?_) | (with_reducible refine w_xCons ?_) | (with_reducible refine w_xNil ?_) | (with_reducible refine w_xE ?_) | (with_reducible refine w_xCall ?_) | (with_reducible refine w_call0 ?_) | (with_reducible refine w_asgL ?_) | (with_reducible refine w_tupPd ?_) | (with_reducible refine wi_zip ?_) | (with_reducible refine w_delT ?_) | (with_reducible refine w_dc ?_) | (with_reducible refine w_revL ?_) | (with_reducible refine wi_revT ?_) | (with_reducible refine w_lstZip ?_) | (with_reducible refine w_chain ?_) | (with_reducible refine w_orT ?_) | ((with_reducible show gT _ _ _ _ _ _); refine g_T ?_ rfl) | ((with_reducible show ∃ p, DV.ref _ = _ ∧ (∃ kvs, _) ∧ _); refine wx_get (by walk_at "gq") ?_) | ((with_reducible show ∃ kvs z, _ = _ ∧ _ = some (DO.dct _) ∧ _); refine wx_get2 (by walk_at "gq") ?_) | ((with_reducible show ∃ p kvs z, _ = _ ∧ _ = _ ∧ _ = some (DO.dct _) ∧ _); refine wx_in (by walk_at "gq") ?_) | ((with_reducible show List.length _ = _ ∧ _); refine w_len ?_ rfl) | ((with_reducible show List.length _ ≤ sizeLine ∧ _); refine w_sz ?_ (szl rfl)) | ((with_reducible show bIx _ (.int _) _ _); first | refine w_ix0 ?_ | refine w_ix1 ?_ | refine w_ix2 ?_ | refine w_ix3 ?_) | ((with_reducible show bIsi [_, _] _ _); first | refine w_isi (by decide) (a := "tuple") rfl rfl ?_ | refine w_isi (by decide) (a := "str") rfl rfl ?_ | refine w_isi (by decide) (a := "int") rfl rfl ?_ | refine w_isi (by decide) (a := "bool") rfl rfl ?_ | refine w_isi (by decide) (a := "NoneType") rfl rfl ?_) | ((with_reducible show ∃ ds, _ = DV.tup ds ∧ _); refine w_exT ?_) | ((with_reducible show ∃ z, _ = DV.str z ∧ _); refine w_exS ?_) | ((with_reducible show ∃ ds, [_] = [DV.tup ds] ∧ _); refine wx_enumT ?_) | ((with_reducible show bSl _ _ _ _ _); refine w_slT ?_) | ((with_reducible show bTuple [_] _ _); refine w_tupT ?_) | ((with_reducible show bLen [_] _ _); refine w_lenT ?_) | ((with_reducible show bTru _ _ _); first | refine w_truT ?_ | refine w_truN ?_ | refine w_truB ?_ | refine w_truI ?_) | ((with_reducible show bEq _ _ _ _ _); first | refine w_eqSS ?_ | refine w_eqII ?_ | refine w_neSS ?_ | refine w_neII ?_ | refine w_eqT0 ?_) | ((with_reducible show bInt _ _ (.int _) (.int _) _ _); refine w_int (by first | decide | exact ⟨by decide, by decide, by decide⟩ | exact .inl ⟨by decide, by decide⟩ | exact .inr ⟨by decide, by decide⟩) ?_) | ((with_reducible show if _ = true then _ else _); first | refine w_it (by first | rfl | decide +kernel) ?_ | refine w_if0 (by first | rfl | decide +kernel) ?_) | ((with_reducible show rcv "list" (.ref _) _ ∧ _); refine w_rcvL (by walk_at "gq") ?_) | ((with_reducible show bTuple [.ref _] _ _); refine w_tupL (by walk_at "gq") ?_) | ((with_reducible show bLen [.ref _] _ _); refine w_lenL (by walk_at "gq") ?_) | ((with_reducible show bTru (.ref _) _ _); refine w_truL (by walk_at "gq") ?_) | ((with_reducible show ∃ _ _, DV.ref _ = _ ∧ Ls _ _ _ ∧ _); refine wx_lst (by walk_at "gq") ?_) | ((with_reducible show ∃ _ _, [DV.ref _] = _ ∧ Ls _ _ _ ∧ _); refine wx_lstA (by walk_at "gq") ?_))
local macro_rules | `(tactic| walk_at "dd") => `(tactic| repeat (walk_at "d1"))
local macro_rules | `(tactic| walk_at "gq") => `(tactic| first | assumption | exact dupd_same | exact sub_get (by assumption) (by walk_at "gq") | exact upd_get (by assumption) (by walk_at "gq") (by walk_at "gn") | exact subx_get (by assumption) (by walk_at "gq") (by walk_at "gn") | (refine (dupd_ne ?_).trans ?_; (focus walk_at "gn"); walk_at "gq"))
local macro_rules | `(tactic| walk_at "gs") => `(tactic| first | assumption | exact Sub.refl _ | exact sub_tr (by assumption) (by walk_at "gs") | exact sub_up (by assumption) (by walk_at "gs") (by walk_at "g0") | exact sub_ux (by assumption) (by walk_at "gs") (by walk_at "g0") | (refine Sub.new ?_ ?_; (focus walk_at "gs"); walk_at "g0"))
local macro_rules | `(tactic| walk_at "gk") => `(tactic| first | assumption | exact db_sub (by assumption) (by walk_at "gk") | exact db_upd (by assumption) (by walk_at "gk") ⟨_, by walk_at "gq"⟩ | exact db_updD (by assumption) (by walk_at "gk") ⟨_, by walk_at "gq"⟩)
local macro_rules | `(tactic| walk_at "gu") => `(tactic| first | assumption | exact Upd.refl _ _ | exact upd_in (by assumption) (by walk_at "gu"))
local macro_rules | `(tactic| walk_at "gx") => `(tactic| first | assumption | exact SubX.refl _ _ | exact subx_sub (by assumption) (by walk_at "gx") | exact subx_upd (by assumption) (by walk_at "gx") | exact subx_tr (by assumption) (by walk_at "gx"))
local macro_rules | `(tactic| walk_at "gn") => `(tactic| first | assumption | exact Ne.symm (by assumption) | exact ne_ns (by assumption) ⟨_, by walk_at "gq"⟩ | exact ne_sn (by assumption) ⟨_, by walk_at "gq"⟩)
local macro_rules | `(tactic| walk_at "g0") => `(tactic| first | assumption | exact nn_ (by assumption) (by walk_at "gs"))
local macro_rules | `(tactic| walk_at "gl") => `(tactic| first | exact fs_c | exact fs_t | exact fs_o)
local macro_rules | `(tactic| walk_at "df") => `(tactic| first | (with_reducible refine w_fld ?_) | (with_reducible refine w_fldS ?_) | (with_reducible refine w_meth ?_) | (with_reducible refine w_make ?_) | (with_reducible refine w_makeX ?_) | ((with_reducible show ∃ a' C' fs' d', DV.ref _ = .ref a' ∧ _ ∧ Cls _ C' ∧ NoAttr _ C' _ ∧ List.lookup _ fs' = some d' ∧ _); refine ⟨_, _, _, _, rfl, by walk_at "gq", by assumption, by assumption, by walk_at "gl", ?_⟩))
local macro_rules | `(tactic| walk_at "de") => `(tactic| repeat (first | walk_at "d1" | walk_at "df"))
section
variable {P : Program} {w : World} {K : Frag} {mg : Str → Option Value} {base : Heap}
def isI : Op → Bool
  | .ite _ _ _ _ => true
  | _ => false
def SP_do (N C : Addr) : DSpX := fun ds G R RX => ∃ (B : DG) (pR : Addr) (k : Ad) (ks : List Ad) (f : Fr) (gs : List Fr) (o : Op), ds = [.ref pR, .ref k.1, eO o] ∧ HStk C B G pR (k :: ks) (f :: gs) ∧ okO f.cells.length o ∧ (∀ t ∈ f.cells, Gd t) ∧ f.cells.length ≤ 90 ∧ ks.length ≤ 9000000 ∧
  (isI o = false → toldO o f.cells = .no → RX (.ref N) G) ∧ (∀ c as a b, o = .ite c as a b → (∀ n, atT f.cells c ≠ .num n) → RX (.ref N) G) ∧
  (∀ m, isI o = false → toldO o f.cells = .ok m → ∀ G', HStk C B G' pR (k :: ks) ({ f with cells := f.cells ++ m } :: gs) → R .non G') ∧
  (∀ c as a b n t ops us, o = .ite c as a b → atT f.cells c = .num n → (if n = 0 then b else a) = .mk t ops us → ∀ G' kn, HStk C B G' pR (kn :: k :: ks) ({ cells := as.map (atT f.cells), todo := ops, outs := us } :: f :: gs) → R .non G')
theorem eTs_snoc (a b : List Th) : eTs a ++ eTs b = eTs (a ++ b) := by rw [eTs_map, eTs_map, eTs_map, List.map_append]
theorem szTs_gd {ts : List Th} (h : ∀ t ∈ ts, Gd t) : szTs ts ≤ ts.length * 2000 := by
  induction ts with
  | nil => exact Nat.le_refl 0
  | cons t r ih =>
    have := ih fun x hx => h x (List.mem_cons_of_mem _ hx)
    have := (h t (List.mem_cons_self ..)).1
    show szT t + szTs r ≤ (r.length + 1) * 2000
    omega
abbrev N_p_do_op : List Str := ["runs", "now", "op", "mark", "cell", "args", "one", "other", "number", "taken", "left", "ahead"]
abbrev A_p_do_op : List Str := ["runs", "now", "op"]
theorem sc_p_do_op : FnScope N_p_do_op A_p_do_op (defScope s_p_do_op) := ⟨rfl, rfl, rfl, by decide +kernel, rfl, by decide +kernel, by decide +kernel⟩
theorem h_p_do_op (a : At K mg "do_op" s_p_do_op A_p_do_op) {e_NoStep C : Addr} (B : BI mg) (T : ClsT K C) (c_p_held_as : HasX P w K mg base 1 "held_as" A_p_held_as (SP_ha e_NoStep)) (c_p_effect_of_basic : HasX P w K mg base 3 "effect_of_basic" A_p_effect_of_basic (SP_eb e_NoStep)) (i_CodeRun : HasIX P w K mg base 1 C "CodeRun" A_p_CodeRun_init (SP_ci e_NoStep C)) (m_things_in : HasM P w K mg base 1 C "things_in" A_p_CodeRun_things_in (SP_ti C)) : HasX P w K mg base 4 "do_op" A_p_do_op (SP_do e_NoStep C) := by
  refine atx_mk a sc_p_do_op fun f cdv A outer s H E hr ds G R RX hl hx h => ?_
  refine ⟨_, (dss_cons (ds_set (i := 3) sc_p_do_op.nd rfl (.inl rfl) (de_ix (dv 2) de_int))
    (dss_one (ds_if (dt_cmp (od_eq hr.units) (dv 3) de_str (nomark _)) (dss_one (ds_expr (de_bm PySem.F.plainAttrs_list PySem.F.slot_list_append PySem.F.type_list_append md_append (de_fld (dv 1)) (da_cons (de_ix (dv 2) de_int) da_nil)))) (dss_one (ds_if (dt_cmp (od_eq hr.units) (dv 3) de_str (nomark _)) (dss_cons (ds_asg (de_slice (dv 2) (do_some de_int) do_none) (dg_tup rfl (dgs_cons (dg_name (i := 4) sc_p_do_op.nd rfl (.inl rfl)) (dgs_cons (dg_name (i := 5) sc_p_do_op.nd rfl (.inl rfl)) (dgs_cons (dg_name (i := 6) sc_p_do_op.nd rfl (.inl rfl)) (dgs_cons (dg_name (i := 7) sc_p_do_op.nd rfl (.inl rfl)) dgs_nil))))))
        (dss_cons (ds_set (i := 8) sc_p_do_op.nd rfl (.inl rfl) (de_callX c_p_held_as hx (takes_of rfl rfl rfl rfl) (hr.mono (by omega)) rfl (da_cons de_str (da_cons (de_ix (de_fld (dv 1)) (dv 4)) da_nil))))
        (dss_one (ds_expr (de_bm PySem.F.plainAttrs_list PySem.F.slot_list_append PySem.F.type_list_append md_append (dv 0) (da_cons (de_makeX i_CodeRun hx (takes_of rfl rfl rfl rfl) (hr.mono (by omega)) rfl (da_cons (de_if (dt_cmp (od_ne hr.units) (dv 8) de_int (nomark _)) (dv 6) (dv 7)) (da_cons (de_meth m_things_in (hr.mono (by omega)) (dv 1) (da_cons (dv 5) da_nil)) da_nil))) da_nil)))))) (dss_cons (ds_asg (de_callX c_p_effect_of_basic hx (takes_of rfl rfl rfl rfl) (hr.mono (by omega)) rfl (da_cons (dv 3) (da_cons (de_meth m_things_in (hr.mono (by omega)) (dv 1) (da_cons (de_slice (dv 2) (do_some de_int) do_none) da_nil)) da_nil))) (dg_tup rfl (dgs_cons (dg_name (i := 9) sc_p_do_op.nd rfl (.inl rfl)) (dgs_cons (dg_name (i := 10) sc_p_do_op.nd rfl (.inl rfl)) (dgs_cons (dg_name (i := 11) sc_p_do_op.nd rfl (.inl rfl)) dgs_nil)))))
        (dss_one (ds_expr (de_bm PySem.F.plainAttrs_list PySem.F.slot_list_extend PySem.F.type_list_extend md_extend (de_fld (dv 1)) (da_cons (dv 10) da_nil)))))))))), ?_⟩
  obtain ⟨B, pR, k, ks, f, gs, o, rfl, hS, ho, hg, l90, lks, n1, n2, q1, q2⟩ := h
  obtain ⟨hC, nC, nT, nO⟩ := T
  have kr := hS.r
  have ko := hS.a.1.o
  have kc := hS.a.1.c
  cases o with
  | push t =>
    have e : eO (.push t) = .tup [.str "push", eT t] := rfl
    rw [e]
    walk_at "de"
    refine w_app kc (midlt (by rw [eTs_len]; omega)) ?_
    refine abs_upd kc fun G1 u1 h1 => ?_
    walk_at "de"
    have h1' : G1 k.2.1 = some (.lst (eTs (f.cells ++ [t]))) := by rw [h1, ← eTs_snoc]; rfl
    exact Less.of (q1 [t] rfl rfl G1 (hS.cells u1 h1'))
  | mk w' cs =>
    have e : eO (.mk w' cs) = .tup (.str w' :: cs.map nI) := rfl
    rw [e]
    obtain ⟨l2', m1, m2⟩ := mak_srt w' ho.1
    have lc := ho.2.1
    walk_at "de"
    refine w_if0 (decide_eq_false m1) ?_
    walk_at "de"
    refine w_if0 (decide_eq_false m2) ?_
    walk_at "de"
    refine ⟨k.1, _, rfl, ko, fs_no, ?_⟩
    walk_at "de"
    rw [show cutD (DV.str w' :: cs.map nI) (some 1) none = cs.map nI from cutD_from (DV.str w' :: cs.map nI) 1]
    walk_at "de"
    refine ⟨k.1, k.2.1, k.2.2, f.outs, f.cells, cs, rfl, ko, kc, ho.2.2, by omega, ?_⟩
    walk_at "de"
    have hgd : ∀ t ∈ cs.map (atT f.cells), Gd t := fun t ht => by
      obtain ⟨c', hc', rfl⟩ := List.mem_map.mp ht
      exact hg _ (atT_mem (ho.2.2 c' hc'))
    have zz := szTs_gd hgd
    rw [List.length_map] at zz
    refine ⟨w', cs.map (atT f.cells), rfl, ho.1, by rw [List.length_map]; exact lc, fun t ht => (hgd t ht).2.2, by omega, fun t ht => ?_, fun hn => ?_⟩
    · walk_at "de"
      refine w_extT kc (mid (by rw [eTs_len]; show f.cells.length + 1 ≤ 1000000; omega)) ?_
      refine abs_upd kc fun G1 u1 h1 => ?_
      walk_at "de"
      have h1' : G1 k.2.1 = some (.lst (eTs (f.cells ++ [t]))) := by rw [h1, ← eTs_snoc]; rfl
      exact Less.of (q1 [t] rfl (by show (match opT w' (cs.map (atT f.cells)) with | some t => Oc.ok [t] | none => Oc.no) = _; rw [ht]) G1 (hS.cells u1 h1'))
    · exact LessX.of (n1 rfl (by show (match opT w' (cs.map (atT f.cells)) with | some t => Oc.ok [t] | none => Oc.no) = _; rw [hn]))
  | ite c' as a' b' =>
    have e : eO (.ite c' as a' b') = .tup [.str "if", .int (c' : Int), .tup (as.map nI), eC a', eC b'] := rfl
    rw [e]
    obtain ⟨hc, ha, la, ta, tb, hu, oA, oB⟩ := ho
    walk_at "de"
    rw [show cutD [DV.str "if", .int (c' : Int), .tup (as.map nI), eC a', eC b'] (some 1) none = [.int (c' : Int), .tup (as.map nI), eC a', eC b'] from rfl]
    walk_at "de"
    refine w_ixL (i := (c' : Int)) kc (atI_nat (j := c') (by rw [eTs_map, List.getElem?_map, atT_get hc]; rfl)) ?_
    walk_at "de"
    refine ⟨"number", atT f.cells c', rfl, fun z => absurd z (by decide +kernel), fun _ z => ?_, fun _ z => LessX.of (n2 c' as a' b' rfl fun n hn => z (by rw [hn]; rfl))⟩
    obtain ⟨n, hn⟩ : ∃ n, atT f.cells c' = .num n := by
      cases e2 : atT f.cells c' with
      | num n => exact ⟨n, rfl⟩
      | row ws => rw [e2] at z; exact absurd z (by show ¬ ("number" : Str) = "row"; decide +kernel)
      | lst ws => rw [e2] at z; exact absurd z (by show ¬ ("number" : Str) = "list"; decide +kernel)
    rw [hn, show inT (Th.num n) = DV.int n from rfl]
    walk_at "de"
    refine w_iteN (fun h0 => ?_) (fun h0 => ?_)
    · cases a' with
      | mk t ops us =>
        walk_at "de"
        refine ⟨k.1, _, rfl, ko, fs_no, ?_⟩
        walk_at "de"
        refine ⟨k.1, k.2.1, k.2.2, f.outs, f.cells, as, rfl, ko, kc, ha, by omega, ?_⟩
        walk_at "de"
        intro x nx
        refine ⟨rfl, x, .mk t ops us, as.map (atT f.cells), rfl, dupd_same, oA, by rw [List.length_map]; omega, fun z => absurd (by rw [List.length_map]; exact Eq.symm ta) z, fun _ pc pt G1 nc nt ct m h1 h2 h3 => ?_⟩
        refine ⟨rfl, ?_⟩
        have px : pR ≠ x := fun z => by rw [z, nx] at kr; cases kr
        have kr1 := m pR _ (fun z => px (List.mem_singleton.mp z)) ((dupd_ne px).trans kr)
        walk_at "de"
        refine w_app kr1 (by rw [sizeLine_eq, List.length_map, List.length_reverse]; show ks.length + 1 < _; omega) ?_
        refine abs_upd kr1 fun G2 u2 h4 => ?_
        walk_at "de"
        exact Less.of (q2 c' as _ _ n t ops us rfl hn (if_neg h0) G2 (x, pc, pt) (hS.push nx nc nt ct m h1 h2 h3 u2 h4))
    · cases b' with
      | mk t ops us =>
        walk_at "de"
        refine ⟨k.1, _, rfl, ko, fs_no, ?_⟩
        walk_at "de"
        refine ⟨k.1, k.2.1, k.2.2, f.outs, f.cells, as, rfl, ko, kc, ha, by omega, ?_⟩
        walk_at "de"
        intro x nx
        refine ⟨rfl, x, .mk t ops us, as.map (atT f.cells), rfl, dupd_same, oB, by rw [List.length_map]; omega, fun z => absurd (by rw [List.length_map]; exact Eq.symm tb) z, fun _ pc pt G1 nc nt ct m h1 h2 h3 => ?_⟩
        refine ⟨rfl, ?_⟩
        have px : pR ≠ x := fun z => by rw [z, nx] at kr; cases kr
        have kr1 := m pR _ (fun z => px (List.mem_singleton.mp z)) ((dupd_ne px).trans kr)
        walk_at "de"
        refine w_app kr1 (by rw [sizeLine_eq, List.length_map, List.length_reverse]; show ks.length + 1 < _; omega) ?_
        refine abs_upd kr1 fun G2 u2 h4 => ?_
        walk_at "de"
        exact Less.of (q2 c' as _ _ n t ops us rfl hn (if_pos h0) G2 (x, pc, pt) (hS.push nx nc nt ct m h1 h2 h3 u2 h4))
end
end K64
set_option maxHeartbeats 1000000
namespace K64
open PySem PySem.W L2 SX Cm DD
local macro_rules | `(tactic| walk_at "d1") => `(tactic| first | (with_reducible refine w_go ?_) | ((with_reducible show dVar _ _ _ _); refine w_var rfl ?_) | (with_reducible refine w_exI ?_) | (with_reducible refine w_exB ?_) | (with_reducible refine w_exT ?_) | (with_reducible refine w_exS ?_) | (with_reducible refine w_parE ?_) | (with_reducible refine ly1 ?_) | (with_reducible refine ly2 ?_) | (with_reducible refine lt1' ?_) | (with_reducible refine lt2' ?_) | (with_reducible refine wx_enumT ?_) | (with_reducible refine w_callX ?_) | (with_reducible refine w_methX ?_) | (with_reducible refine w_raise ?_) | (with_reducible refine w_try ?_) | (with_reducible refine w_xSet ?_) | (with_reducible refine w_xExpr ?_) | (with_reducible refine w_xLst ?_) | (with_reducible refine w_xTup ?_) | (with_reducible refine w_xCons ?_) | (with_reducible refine w_xNil ?_) | (with_reducible refine w_xE ?_) | (with_reducible refine w_xCall ?_) | (with_reducible refine w_call0 ?_) | (with_reducible refine w_asgL ?_) | (with_reducible refine w_tupPd ?_) | (with_reducible refine wi_zip ?_) | (with_reducible refine w_delT ?_) | (with_reducible refine w_dc ?_) | (with_reducible refine w_revL ?_) | (with_reducible refine wi_revT ?_) | (with_reducible refine w_lstZip ?_) | (with_reducible refine w_chain ?_) | (with_reducible refine w_orT ?_) | ((with_reducible show gT _ _ _ _ _ _); refine g_T ?_ rfl) | ((with_reducible show ∃ p, DV.ref _ = _ ∧ (∃ kvs, _) ∧ _); refine wx_get (by walk_at "gq") ?_) | ((with_reducible show ∃ kvs z, _ = _ ∧ _ = some (DO.dct _) ∧ _); refine wx_get2 (by walk_at "gq") ?_) | ((with_reducible show ∃ p kvs z, _ = _ ∧ _ = _ ∧ _ = some (DO.dct _) ∧ _); refine wx_in (by walk_at "gq") ?_) | ((with_reducible show List.length _ = _ ∧ _); refine w_len ?_ rfl) | ((with_reducible show List.length _ ≤ sizeLine ∧ _); refine w_sz ?_ (szl rfl)) | ((with_reducible show bIx _ (.int _) _ _); first | refine w_ix0 ?_ | refine w_ix1 ?_ | refine w_ix2 ?_ | refine w_ix3 ?_) | ((with_reducible show bIsi [_, _] _ _); first | refine w_isi (by decide) (a := "tuple") rfl rfl ?_ | refine w_isi (by decide) (a := "str") rfl rfl ?_ | refine w_isi (by decide) (a := "int") rfl rfl ?_ | refine w_isi (by decide) (a := "bool") rfl rfl ?_ | refine w_isi (by decide) (a := "NoneType") rfl rfl ?_) | ((with_reducible show ∃ ds, _ = DV.tup ds ∧ _); refine w_exT ?_) | ((with_reducible show ∃ z, _ = DV.str z ∧ _); refine w_exS ?_) | ((with_reducible show ∃ ds, [_] = [DV.tup ds] ∧ _); refine wx_enumT ?_) | ((with_reducible show bSl _ _ _ _ _); refine w_slT ?_) | ((with_reducible show bTuple [_] _ _); refine w_tupT ?_) | ((with_reducible show bLen [_] _ _); refine w_lenT ?_) | ((with_reducible show bTru _ _ _); first | refine w_truT ?_ | refine w_truN ?_ | refine w_truB ?_ | refine w_truI ?_) | ((with_reducible show bEq _ _ _ _ _); first | refine w_eqSS ?_ | refine w_eqII ?_ | refine w_neSS ?_ | refine w_neII ?_ | refine w_eqT0 ?_) | ((with_reducible show bInt _ _ (.int _) (.int _) _ _); refine w_int (by first | decide | exact ⟨by decide, by decide, by decide⟩ | exact .inl ⟨by decide, by decide⟩ | exact .inr ⟨by decide, by decide⟩) ?_) | ((with_reducible show if _ = true then _ else _); first | refine w_it (by first | rfl | decide +kernel) ?_ | refine w_if0 (by first | rfl | decide +kernel) ?_) | ((with_reducible show rcv "list" (.ref _) _ ∧ _); refine w_rcvL (by walk_at "gq") ?_) | ((with_reducible show bTuple [.ref _] _ _); refine w_tupL (by walk_at "gq") ?_) | ((with_reducible show bLen [.ref _] _ _); refine w_lenL (by walk_at "gq") ?_) | ((with_reducible show bTru (.ref _) _ _); refine w_truL (by walk_at "gq") ?_) | ((with_reducible show ∃ _ _, DV.ref _ = _ ∧ Ls _ _ _ ∧ _); refine wx_lst (by walk_at "gq") ?_) | ((with_reducible show ∃ _ _, [DV.ref _] = _ ∧ Ls _ _ _ ∧ _); refine wx_lstA (by walk_at "gq") ?_))
local macro_rules | `(tactic| walk_at "dd") => `(tactic| repeat (walk_at "d1"))
local macro_rules | `(tactic| walk_at "gq") => `(tactic| first | assumption | exact dupd_same | exact sub_get (by assumption) (by walk_at "gq") | exact upd_get (by assumption) (by walk_at "gq") (by walk_at "gn") | exact subx_get (by assumption) (by walk_at "gq") (by walk_at "gn") | (refine (dupd_ne ?_).trans ?_; (focus walk_at "gn"); walk_at "gq"))
local macro_rules | `(tactic| walk_at "gs") => `(tactic| first | assumption | exact Sub.refl _ | exact sub_tr (by assumption) (by walk_at "gs") | exact sub_up (by assumption) (by walk_at "gs") (by walk_at "g0") | exact sub_ux (by assumption) (by walk_at "gs") (by walk_at "g0") | (refine Sub.new ?_ ?_; (focus walk_at "gs"); walk_at "g0"))
local macro_rules | `(tactic| walk_at "gk") => `(tactic| first | assumption | exact db_sub (by assumption) (by walk_at "gk") | exact db_upd (by assumption) (by walk_at "gk") ⟨_, by walk_at "gq"⟩ | exact db_updD (by assumption) (by walk_at "gk") ⟨_, by walk_at "gq"⟩)
local macro_rules | `(tactic| walk_at "gu") => `(tactic| first | assumption | exact Upd.refl _ _ | exact upd_in (by assumption) (by walk_at "gu"))
local macro_rules | `(tactic| walk_at "gx") => `(tactic| first | assumption | exact SubX.refl _ _ | exact subx_sub (by assumption) (by walk_at "gx") | exact subx_upd (by assumption) (by walk_at "gx") | exact subx_tr (by assumption) (by walk_at "gx"))
local macro_rules | `(tactic| walk_at "gn") => `(tactic| first | assumption | exact Ne.symm (by assumption) | exact ne_ns (by assumption) ⟨_, by walk_at "gq"⟩ | exact ne_sn (by assumption) ⟨_, by walk_at "gq"⟩)
local macro_rules | `(tactic| walk_at "g0") => `(tactic| first | assumption | exact nn_ (by assumption) (by walk_at "gs"))
local macro_rules | `(tactic| walk_at "gl") => `(tactic| first | exact fs_c | exact fs_t | exact fs_o)
local macro_rules | `(tactic| walk_at "df") => `(tactic| first | (with_reducible refine w_fld ?_) | (with_reducible refine w_fldS ?_) | (with_reducible refine w_meth ?_) | (with_reducible refine w_make ?_) | (with_reducible refine w_makeX ?_) | ((with_reducible show ∃ a' C' fs' d', DV.ref _ = .ref a' ∧ _ ∧ Cls _ C' ∧ NoAttr _ C' _ ∧ List.lookup _ fs' = some d' ∧ _); refine ⟨_, _, _, _, rfl, by walk_at "gq", by assumption, by assumption, by walk_at "gl", ?_⟩))
local macro_rules | `(tactic| walk_at "de") => `(tactic| repeat (first | walk_at "d1" | walk_at "df"))
mutual
theorem wC_sz : ∀ c : Cd, wC c ≤ szD (eC c)
  | .mk t ops us => by have := wOs_sz ops; show wOs ops ≤ 1 + (1 + ((1 + szDs (eOs ops)) + ((1 + szDs (us.map nI)) + 0))); omega
theorem wO_sz : ∀ o : Op, wO o ≤ szD (eO o)
  | .push t => by show 1 ≤ 1 + _; omega
  | .mk w cs => by show 1 ≤ 1 + _; omega
  | .ite c as a b => by
    have := wC_sz a
    have := wC_sz b
    show 3 + wC a + wC b ≤ 1 + (1 + (1 + ((1 + szDs (as.map nI)) + (szD (eC a) + (szD (eC b) + 0)))))
    omega
theorem wOs_sz : ∀ os : List Op, wOs os ≤ szDs (eOs os)
  | [] => Nat.le_refl 0
  | o :: r => by
    have := wO_sz o
    have := wOs_sz r
    show wO o + wOs r ≤ szD (eO o) + szDs (eOs r)
    omega
end
/-- a run that n things come to first -/
structure FrN (n : Nat) (f : Fr) : Prop where
  ops : okOs (f.cells.length + n) f.todo
  outs : ∀ u ∈ f.outs, u < fin (f.cells.length + n) f.todo
  fn : fin (f.cells.length + n) f.todo ≤ 90
  lo : f.outs.length ≤ 5
  gd : ∀ t ∈ f.cells, Gd t
def StOk : Nat → List Fr → Prop
  | _, [] => True
  | n, f :: r => FrN n f ∧ StOk f.outs.length r
theorem fin_ge : ∀ (ops : List Op) (m : Nat), m ≤ fin m ops
  | [], m => Nat.le_refl m
  | p :: r, m => Nat.le_trans (Nat.le_add_right ..) (fin_ge r (m + made p))
theorem small_gd {t : Th} (h : bigT t = false) (tp : Top t) : Gd t := by
  unfold bigT at h
  rw [Bool.or_eq_false_iff] at h
  have h1 := of_decide_eq_false h.1
  have h2 := of_decide_eq_false h.2
  exact ⟨by omega, by omega, tp⟩
/-- a word's op that is done -/
theorem frn_made {f : Fr} {o : Op} {r : List Op} {m : List Th} (h : FrN 0 f) (ht : f.todo = o :: r) (hi : isI o = false) (hm : toldO o f.cells = .ok m) (hb : m.any bigT = false) : FrN 0 { f with cells := f.cells ++ m, todo := r } := by
  have h1 : okOs (f.cells.length + 0) (o :: r) := by rw [← ht]; exact h.ops
  have h2 : fin (f.cells.length + 0) (o :: r) ≤ 90 := by rw [← ht]; exact h.fn
  have h3 : ∀ u ∈ f.outs, u < fin (f.cells.length + 0) (o :: r) := by rw [← ht]; exact h.outs
  obtain ⟨t, rfl, tp⟩ : ∃ t, m = [t] ∧ Top t := by
    cases o with
    | push t =>
      cases hm
      refine ⟨t, rfl, fun n e => ?_⟩
      have := h1.1.1
      rw [e] at this; exact this
    | mk w cs =>
      have hm : (match opT w (cs.map (atT f.cells)) with | some t => Oc.ok [t] | none => Oc.no) = .ok m := hm
      cases e : opT w (cs.map (atT f.cells)) with
      | none => rw [e] at hm; cases hm
      | some t => rw [e] at hm; cases hm; exact ⟨t, rfl, (op_sz e).2.2⟩
    | ite c as a b => cases hi
  have m1 : made o = 1 := by cases o with | push _ => rfl | mk _ _ => rfl | ite _ _ _ _ => cases hi
  have hb : (bigT t || false) = false := hb
  rw [Bool.or_false] at hb
  have e : (f.cells ++ [t]).length + 0 = f.cells.length + 0 + made o := by rw [List.length_append, m1]; rfl
  refine ⟨by rw [e]; exact h1.2, fun u hu => by rw [e]; exact h3 u hu, by rw [e]; exact h2, h.lo, fun x hx => ?_⟩
  rcases List.mem_append.mp hx with hx | hx
  · exact h.gd x hx
  · rw [List.mem_singleton.mp hx]; exact small_gd hb tp
/-- a side that is gone into -/
theorem frn_in {f : Fr} {c : Nat} {as : List Nat} {a b cd : Cd} {r : List Op} {t : Nat} {ops : List Op} {us : List Nat} (h : FrN 0 f) (ht : f.todo = .ite c as a b :: r) (hc : cd = a ∨ cd = b) (e : cd = .mk t ops us) : FrN 0 { cells := as.map (atT f.cells), todo := ops, outs := us } ∧ FrN us.length { f with todo := r } ∧ as.length = t ∧ (wOs ops ≤ wC a + wC b) := by
  have h1 : okOs (f.cells.length + 0) (.ite c as a b :: r) := by rw [← ht]; exact h.ops
  have h2 : fin (f.cells.length + 0) (.ite c as a b :: r) ≤ 90 := by rw [← ht]; exact h.fn
  have h3 : ∀ u ∈ f.outs, u < fin (f.cells.length + 0) (.ite c as a b :: r) := by rw [← ht]; exact h.outs
  obtain ⟨⟨hc', ha, la, ta, tb, hu, oA, oB⟩, h4⟩ := h1
  have key : okC cd ∧ tkC cd = as.length ∧ (usC cd).length = (usC a).length ∧ wC cd ≤ wC a + wC b := by
    rcases hc with rfl | rfl
    · exact ⟨oA, ta, rfl, by omega⟩
    · exact ⟨oB, tb, hu.symm, by omega⟩
  subst e
  obtain ⟨k1, k2, k3, k4⟩ := key
  have k2 : t = as.length := k2
  have k3 : us.length = (usC a).length := k3
  have em : made (.ite c as a b) = us.length := k3.symm
  refine ⟨⟨by rw [List.length_map, ← k2]; exact k1.1, fun u hu => by rw [List.length_map, ← k2]; exact k1.2.1 u hu, by rw [List.length_map, ← k2]; exact k1.2.2.1, k1.2.2.2.2, fun x hx => ?_⟩, ⟨?_, ?_, ?_, h.lo, h.gd⟩, k2.symm, k4⟩
  · obtain ⟨i, hi, rfl⟩ := List.mem_map.mp hx
    exact h.gd _ (atT_mem (by have := ha i hi; omega))
  · show okOs (f.cells.length + us.length) r
    have := h4; rw [em, Nat.add_zero] at this; exact this
  · intro u hu'
    have := h3 u hu'
    have : u < fin (f.cells.length + 0 + made (.ite c as a b)) r := this
    rw [em, Nat.add_zero] at this; exact this
  · have : fin (f.cells.length + 0 + made (.ite c as a b)) r ≤ 90 := h2
    rw [em, Nat.add_zero] at this; exact this
theorem frn_back {f g : Fr} (h : FrN 0 f) (ht : f.todo = []) (hg : FrN f.outs.length g) : FrN 0 { g with cells := g.cells ++ f.outs.map (atT f.cells) } := by
  have e : (g.cells ++ f.outs.map (atT f.cells)).length + 0 = g.cells.length + f.outs.length := by rw [List.length_append, List.length_map]; rfl
  refine ⟨by rw [e]; exact hg.ops, fun u hu => by rw [e]; exact hg.outs u hu, by rw [e]; exact hg.fn, hg.lo, fun x hx => ?_⟩
  rcases List.mem_append.mp hx with hx | hx
  · exact hg.gd x hx
  · obtain ⟨i, hi, rfl⟩ := List.mem_map.mp hx
    have := h.outs i hi
    rw [ht] at this
    exact h.gd _ (atT_mem this)
theorem hall_len {C : Addr} {G : DG} : ∀ {ks : List Ad} {fs : List Fr}, HAll C G ks fs → ks.length = fs.length
  | [], [], _ => rfl
  | k :: ks, f :: fs, h => congrArg (· + 1) (hall_len h.2)
theorem wS_len : ∀ fs : List Fr, fs.length ≤ wS fs
  | [] => Nat.le_refl 0
  | f :: r => by have := wS_len r; show r.length + 1 ≤ (1 + wOs f.todo) + wS r; omega
/-- the first run -/
theorem HStk.first {C : Addr} {G G1 G2 : DG} {pR x pc pt : Addr} {f : Fr} (nx : G x = none) (nc : (dupd G x (.obj C [])) pc = none) (nt : (dupd G x (.obj C [])) pt = none) (ct : pc ≠ pt) (m : Frm [x] (dupd G x (.obj C [])) G1) (h1 : G1 x = some (.obj C (fsC pc pt f.outs))) (h2 : G1 pc = some (.lst (eTs f.cells))) (h3 : G1 pt = some (.lst (eOs f.todo).reverse))
    (nR : G1 pR = none) (s : DD.Sub G1 G2) (e : G2 pR = some (.lst [.ref x])) : HStk C G G2 pR [(x, pc, pt)] [f] := by
  have ne : ∀ y, (dupd G x (.obj C [])) y = none → y ≠ x ∧ G y = none := fun y hy => by
    have n : y ≠ x := fun z => by rw [z, dupd_same] at hy; cases hy
    exact ⟨n, by rw [dupd_ne n] at hy; exact hy⟩
  obtain ⟨cx, gc⟩ := ne pc nc
  obtain ⟨tx, gt⟩ := ne pt nt
  have sG : DD.Sub G G1 := fun y o ho => by
    have n : y ≠ x := fun z => by rw [z, nx] at ho; cases ho
    exact m y o (fun z => n (List.mem_singleton.mp z)) ((dupd_ne n).trans ho)
  have gR : G pR = none := by
    cases e : G pR with
    | none => rfl
    | some o => rw [sG _ _ e] at nR; cases nR
  have r1 : pR ≠ x := fun z => by rw [z, h1] at nR; cases nR
  have r2 : pR ≠ pc := fun z => by rw [z, h2] at nR; cases nR
  have r3 : pR ≠ pt := fun z => by rw [z, h3] at nR; cases nR
  refine ⟨e, ⟨⟨s _ _ h1, s _ _ h2, s _ _ h3⟩, trivial⟩, ?_, fun y hy => ?_, sG.trans s⟩
  · rw [adrs_cons]
    simp only [List.nodup_cons, List.mem_cons, not_or]
    exact ⟨⟨r1, r2, r3, fun h => nomatch h⟩, ⟨Ne.symm cx, Ne.symm tx, fun h => nomatch h⟩, ⟨ct, fun h => nomatch h⟩, (fun h => nomatch h), List.nodup_nil⟩
  · rw [adrs_cons] at hy
    simp only [List.mem_cons] at hy
    rcases hy with rfl | rfl | rfl | rfl | hy
    · exact gR
    · exact nx
    · exact gc
    · exact gt
    · cases hy
end K64
set_option maxHeartbeats 1000000
namespace K64
open PySem PySem.W L2 SX Cm DD
local macro_rules | `(tactic| walk_at "d1") => `(tactic| first | (with_reducible refine w_go ?_) | ((with_reducible show dVar _ _ _ _); refine w_var rfl ?_) | (with_reducible refine w_exI ?_) | (with_reducible refine w_exB ?_) | (with_reducible refine w_exT ?_) | (with_reducible refine w_exS ?_) | (with_reducible refine w_parE ?_) | (with_reducible refine ly1 ?_) | (with_reducible refine ly2 ?_) | (with_reducible refine lt1' ?_) | (with_reducible refine lt2' ?_) | (with_reducible refine wx_enumT ?_) | (with_reducible refine w_callX ?_) | (with_reducible refine w_methX ?_) | (with_reducible refine w_raise ?_) | (with_reducible refine w_try ?_) | (with_reducible refine w_xSet ?_) | (with_reducible refine w_xExpr ?_) | (with_reducible refine w_xLst ?_) | (with_reducible refine w_xTup ?_) | (with_reducible refine w_xCons ?_) | (with_reducible refine w_xNil ?_) | (with_reducible refine w_xE ?_) | (with_reducible refine w_xCall ?_) | (with_reducible refine w_call0 ?_) | (with_reducible refine w_asgL ?_) | (with_reducible refine w_tupPd ?_) | (with_reducible refine wi_zip ?_) | (with_reducible refine w_delT ?_) | (with_reducible refine w_dc ?_) | (with_reducible refine w_revL ?_) | (with_reducible refine wi_revT ?_) | (with_reducible refine w_lstZip ?_) | (with_reducible refine w_chain ?_) | (with_reducible refine w_orT ?_) | ((with_reducible show gT _ _ _ _ _ _); refine g_T ?_ rfl) | ((with_reducible show ∃ p, DV.ref _ = _ ∧ (∃ kvs, _) ∧ _); refine wx_get (by walk_at "gq") ?_) | ((with_reducible show ∃ kvs z, _ = _ ∧ _ = some (DO.dct _) ∧ _); refine wx_get2 (by walk_at "gq") ?_) | ((with_reducible show ∃ p kvs z, _ = _ ∧ _ = _ ∧ _ = some (DO.dct _) ∧ _); refine wx_in (by walk_at "gq") ?_) | ((with_reducible show List.length _ = _ ∧ _); refine w_len ?_ rfl) | ((with_reducible show List.length _ ≤ sizeLine ∧ _); refine w_sz ?_ (szl rfl)) | ((with_reducible show bIx _ (.int _) _ _); first | refine w_ix0 ?_ | refine w_ix1 ?_ | refine w_ix2 ?_ | refine w_ix3 ?_) | ((with_reducible show bIsi [_, _] _ _); first | refine w_isi (by decide) (a := "tuple") rfl rfl ?_ | refine w_isi (by decide) (a := "str") rfl rfl ?_ | refine w_isi (by decide) (a := "int") rfl rfl ?_ | refine w_isi (by decide) (a := "bool") rfl rfl ?_ | refine w_isi (by decide) (a := "NoneType") rfl rfl ?_) | ((with_reducible show ∃ ds, _ = DV.tup ds ∧ _); refine w_exT ?_) | ((with_reducible show ∃ z, _ = DV.str z ∧ _); refine w_exS ?_) | ((with_reducible show ∃ ds, [_] = [DV.tup ds] ∧ _); refine wx_enumT ?_) | ((with_reducible show bSl _ _ _ _ _); refine w_slT ?_) | ((with_reducible show bTuple [_] _ _); refine w_tupT ?_) | ((with_reducible show bLen [_] _ _); refine w_lenT ?_) | ((with_reducible show bTru _ _ _); first | refine w_truT ?_ | refine w_truN ?_ | refine w_truB ?_ | refine w_truI ?_) | ((with_reducible show bEq _ _ _ _ _); first | refine w_eqSS ?_ | refine w_eqII ?_ | refine w_neSS ?_ | refine w_neII ?_ | refine w_eqT0 ?_) | ((with_reducible show bInt _ _ (.int _) (.int _) _ _); refine w_int (by first | decide | exact ⟨by decide, by decide, by decide⟩ | exact .inl ⟨by decide, by decide⟩ | exact .inr ⟨by decide, by decide⟩) ?_) | ((with_reducible show if _ = true then _ else _); first | refine w_it (by first | rfl | decide +kernel) ?_ | refine w_if0 (by first | rfl | decide +kernel) ?_) | ((with_reducible show rcv "list" (.ref _) _ ∧ _); refine w_rcvL (by walk_at "gq") ?_) | ((with_reducible show bTuple [.ref _] _ _); refine w_tupL (by walk_at "gq") ?_) | ((with_reducible show bLen [.ref _] _ _); refine w_lenL (by walk_at "gq") ?_) | ((with_reducible show bTru (.ref _) _ _); refine w_truL (by walk_at "gq") ?_) | ((with_reducible show ∃ _ _, DV.ref _ = _ ∧ Ls _ _ _ ∧ _); refine wx_lst (by walk_at "gq") ?_) | ((with_reducible show ∃ _ _, [DV.ref _] = _ ∧ Ls _ _ _ ∧ _); refine wx_lstA (by walk_at "gq") ?_))
local macro_rules | `(tactic| walk_at "dd") => `(tactic| repeat (walk_at "d1"))
local macro_rules | `(tactic| walk_at "gq") => `(tactic| first | assumption | exact dupd_same | exact sub_get (by assumption) (by walk_at "gq") | exact upd_get (by assumption) (by walk_at "gq") (by walk_at "gn") | exact subx_get (by assumption) (by walk_at "gq") (by walk_at "gn") | (refine (dupd_ne ?_).trans ?_; (focus walk_at "gn"); walk_at "gq"))
local macro_rules | `(tactic| walk_at "gs") => `(tactic| first | assumption | exact Sub.refl _ | exact sub_tr (by assumption) (by walk_at "gs") | exact sub_up (by assumption) (by walk_at "gs") (by walk_at "g0") | exact sub_ux (by assumption) (by walk_at "gs") (by walk_at "g0") | (refine Sub.new ?_ ?_; (focus walk_at "gs"); walk_at "g0"))
local macro_rules | `(tactic| walk_at "gk") => `(tactic| first | assumption | exact db_sub (by assumption) (by walk_at "gk") | exact db_upd (by assumption) (by walk_at "gk") ⟨_, by walk_at "gq"⟩ | exact db_updD (by assumption) (by walk_at "gk") ⟨_, by walk_at "gq"⟩)
local macro_rules | `(tactic| walk_at "gu") => `(tactic| first | assumption | exact Upd.refl _ _ | exact upd_in (by assumption) (by walk_at "gu"))
local macro_rules | `(tactic| walk_at "gx") => `(tactic| first | assumption | exact SubX.refl _ _ | exact subx_sub (by assumption) (by walk_at "gx") | exact subx_upd (by assumption) (by walk_at "gx") | exact subx_tr (by assumption) (by walk_at "gx"))
local macro_rules | `(tactic| walk_at "gn") => `(tactic| first | assumption | exact Ne.symm (by assumption) | exact ne_ns (by assumption) ⟨_, by walk_at "gq"⟩ | exact ne_sn (by assumption) ⟨_, by walk_at "gq"⟩)
local macro_rules | `(tactic| walk_at "g0") => `(tactic| first | assumption | exact nn_ (by assumption) (by walk_at "gs"))
local macro_rules | `(tactic| walk_at "gl") => `(tactic| first | exact fs_c | exact fs_t | exact fs_o)
local macro_rules | `(tactic| walk_at "df") => `(tactic| first | (with_reducible refine w_fld ?_) | (with_reducible refine w_fldS ?_) | (with_reducible refine w_meth ?_) | (with_reducible refine w_make ?_) | (with_reducible refine w_makeX ?_) | ((with_reducible show ∃ a' C' fs' d', DV.ref _ = .ref a' ∧ _ ∧ Cls _ C' ∧ NoAttr _ C' _ ∧ List.lookup _ fs' = some d' ∧ _); refine ⟨_, _, _, _, rfl, by walk_at "gq", by assumption, by assumption, by walk_at "gl", ?_⟩))
local macro_rules | `(tactic| walk_at "de") => `(tactic| repeat (first | walk_at "d1" | walk_at "df"))
section
variable {P : Program} {w : World} {K : Frag} {mg : Str → Option Value} {base : Heap}
def SP_rc (N : Addr) : DSpX := fun ds G R RX => ∃ cd ts, ds = [eC cd, .tup (eTs ts)] ∧ okC cd ∧ ts.length ≤ 90 ∧ (∀ t ∈ ts, Gd t) ∧ szD (eC cd) ≤ 2000000 ∧ toldC cd ts ≠ .big ∧ (toldC cd ts = .no → RX (.ref N) G) ∧ (∀ ms, toldC cd ts = .ok ms → R (.tup (eTs ms)) G)
abbrev N_p_run_code : List Str := ["code", "things", "runs", "now", "told"]
abbrev A_p_run_code : List Str := ["code", "things"]
theorem sc_p_run_code : FnScope N_p_run_code A_p_run_code (defScope s_p_run_code) := ⟨rfl, rfl, rfl, by decide +kernel, rfl, by decide +kernel, by decide +kernel⟩
theorem h_p_run_code (a : At K mg "run_code" s_p_run_code A_p_run_code) {e_NoStep C : Addr} (B : BI mg) (T : ClsT K C) (c_p_do_op : HasX P w K mg base 4 "do_op" A_p_do_op (SP_do e_NoStep C)) (i_CodeRun : HasIX P w K mg base 1 C "CodeRun" A_p_CodeRun_init (SP_ci e_NoStep C)) (m_things_in : HasM P w K mg base 1 C "things_in" A_p_CodeRun_things_in (SP_ti C)) : HasX P w K mg base 5 "run_code" A_p_run_code (SP_rc e_NoStep) := by
  refine atx_mk a sc_p_run_code fun f cdv A outer s H E hr ds G R RX hl hx h => ?_
  refine ⟨_, (dss_cons (ds_set (i := 2) sc_p_run_code.nd rfl (.inl rfl) (de_lst (da_cons (de_makeX i_CodeRun hx (takes_of rfl rfl rfl rfl) (hr.mono (by omega)) rfl (da_cons (dv 0) (da_cons (dv 1) da_nil))) da_nil)))
    (dss_one (ds_while (passes_of rfl) (dt_e de_bl) (dss_cons (ds_set (i := 3) sc_p_run_code.nd rfl (.inl rfl) (de_ix (dv 2) (de_neg de_int)))
      (dss_one (ds_if (dt_cmp od_gt (de_callB cd_len B.len rfl (by decide +kernel) (da_cons (de_fld (dv 3)) da_nil)) de_int (nomark _)) (dss_one (ds_expr (de_callX c_p_do_op hx (takes_of rfl rfl rfl rfl) (hr.mono (by omega)) rfl (da_cons (dv 2) (da_cons (dv 3) (da_cons (de_bm0 PySem.F.plainAttrs_list PySem.F.slot_list_pop PySem.F.type_list_pop md_pop (de_fld (dv 3))) da_nil)))))) (dss_cons (ds_set (i := 4) sc_p_run_code.nd rfl (.inl rfl) (de_meth m_things_in (hr.mono (by omega)) (dv 3) (da_cons (de_fld (dv 3)) da_nil)))
        (dss_cons (ds_expr (de_bm0 PySem.F.plainAttrs_list PySem.F.slot_list_pop PySem.F.type_list_pop md_pop (dv 2)))
        (dss_cons (ds_if (dt_cmp (od_eq hr.units) (de_callB cd_len B.len rfl (by decide +kernel) (da_cons (dv 2) da_nil)) de_int (nomark _)) (dss_one (ds_ret (dv 4))) dss_nil)
        (dss_one (ds_expr (de_bm PySem.F.plainAttrs_list PySem.F.slot_list_extend PySem.F.type_list_extend md_extend (de_fld (de_ix (dv 2) (de_neg de_int))) (da_cons (dv 4) da_nil))))))))))))), ?_⟩
  obtain ⟨cd, ts, rfl, hc, lts, hgd, zc, nb, n1, q1⟩ := h
  have zw := wC_sz cd
  cases cd with
  | mk t ops us =>
  have T0 := T
  obtain ⟨hC, nC, nT, nO⟩ := T0
  walk_at "de"
  intro x nx
  have sx : DD.Sub G (dupd G x (.obj C [])) := fun y o e => by rw [dupd_ne (fun z => by rw [z, nx] at e; cases e)]; exact e
  refine ⟨rfl, x, .mk t ops us, ts, rfl, dupd_same, hc, by omega, fun hl => ⟨G, sx, n1 (by show (if ts.length = t then _ else Oc.no) = _; rw [if_neg (show ¬ ts.length = t from hl)])⟩, fun hl pc pt G1 nc nt ct m h1 h2 h3 => ?_⟩
  refine ⟨rfl, ?_⟩
  have hl : ts.length = t := hl
  have eO' : toldC (.mk t ops us) ts = evS { cells := ts, todo := ops, outs := us } [] := by
    show (if ts.length = t then _ else Oc.no) = _
    rw [if_pos hl]; rfl
  rw [eO'] at nb n1 q1
  walk_at "de"
  intro pR nR
  refine abs_new nR fun G2 s2 h4 => ?_
  have hS : HStk C G G2 pR [(x, pc, pt)] [{ cells := ts, todo := ops, outs := us }] := .first nx nc nt ct m h1 h2 h3 nR s2 h4
  have ok0 : StOk 0 [{ cells := ts, todo := ops, outs := us }] := ⟨⟨by show okOs (ts.length + 0) ops; rw [hl]; exact hc.1, by show ∀ u ∈ us, u < fin (ts.length + 0) ops; rw [hl]; exact hc.2.1, by show fin (ts.length + 0) ops ≤ 90; rw [hl]; exact hc.2.2.1, hc.2.2.2.2, hgd⟩, trivial⟩
  generalize hE : evS { cells := ts, todo := ops, outs := us } [] = O at nb n1 q1
  have zW : wS [({ cells := ts, todo := ops, outs := us } : Fr)] ≤ 3000000 := by show (1 + wOs ops) + 0 ≤ 3000000; have : wC (.mk t ops us) = wOs ops := rfl; omega
  clear h4 h1 h2 h3 m nc nt nR s2 eO'
  walk_at "de"
  refine w_while (fun w δ G' => ∃ (k : Ad) (ks : List Ad) (f : Fr) (fs : List Fr) (x3 x4 : Option DV), w = wS (f :: fs) ∧ δ = [some (eC (.mk t ops us)), some (.tup (eTs ts)), some (.ref pR), x3, x4] ∧ HStk C G G' pR (k :: ks) (f :: fs) ∧ StOk 0 (f :: fs) ∧ evS f fs = O ∧ wS (f :: fs) ≤ 3000000) _ ⟨_, [], _, [], _, _, rfl, rfl, hS, ok0, hE, zW⟩ ?_
  clear hS ok0 hE zW
  rintro w δ G3 ⟨k, ks, f, fs, x3, x4, rfl, rfl, hS, hok, hE, zW⟩
  walk_at "de"
  have kr := hS.r
  have ko := hS.a.1.o
  have kc := hS.a.1.c
  have kt := hS.a.1.t
  have lk := hall_len hS.a.2
  have lw := wS_len fs
  have ew : wS (f :: fs) = (1 + wOs f.todo) + wS fs := rfl
  have lc90 : f.cells.length ≤ 90 := by have := hok.1.fn; have := fin_ge f.todo (f.cells.length + 0); omega
  have kl : G3 pR = some (.lst ((ks.reverse.map fun k => DV.ref k.1) ++ [.ref k.1])) := by rw [kr, List.reverse_cons, List.map_append]; rfl
  refine w_ixL kl atI_end ?_
  walk_at "de"
  cases f with
  | mk cells todo outs =>
  have kc : G3 k.2.1 = some (.lst (eTs cells)) := kc
  have ko : G3 k.1 = some (.obj C (fsC k.2.1 k.2.2 outs)) := ko
  have lc90 : cells.length ≤ 90 := lc90
  have lo5 : outs.length ≤ 5 := hok.1.lo
  cases todo with
  | nil =>
    refine w_if0 (decide_eq_false (by show ¬ ((0 : Int) < ((0 : Nat) : Int)); decide)) ?_
    walk_at "de"
    refine ⟨k.1, _, rfl, ko, fs_no, ?_⟩
    walk_at "de"
    have hin : ∀ u ∈ outs, u < cells.length := hok.1.outs
    refine ⟨k.1, k.2.1, k.2.2, outs, cells, outs, rfl, ko, kc, hin, by omega, ?_⟩
    walk_at "de"
    refine w_pop kl ?_
    refine abs_upd kl fun G4 u4 h4 => ?_
    have hS4 := hS.pop u4 h4
    have s4 := hS4.s
    walk_at "de"
    cases ks with
    | nil =>
      cases fs with
      | cons g gs => cases lk
      | nil =>
        refine w_it (by first | rfl | decide) ?_
        walk_at "de"
        exact ⟨G, s4, q1 _ (hE.symm.trans (ev_done rfl))⟩
    | cons k2 ks2 =>
      cases fs with
      | nil => cases lk
      | cons g gs =>
        refine w_if0 (decide_eq_false (by rw [List.length_map, List.length_reverse, List.length_cons]; omega)) ?_
        walk_at "de"
        have h4' : G4 pR = some (.lst ((ks2.reverse.map fun k => DV.ref k.1) ++ [.ref k2.1])) := by rw [h4, List.reverse_cons, List.map_append]; rfl
        have ko2 := hS4.a.1.o
        have kc2 := hS4.a.1.c
        have hg := hok.2.1
        have lg : g.cells.length ≤ 90 := by have := hg.fn; have := fin_ge g.todo (g.cells.length + outs.length); have : fin (g.cells.length + outs.length) g.todo ≤ 90 := hg.fn; omega
        refine w_ixL h4' atI_end ?_
        walk_at "de"
        refine w_extT kc2 (mid (by rw [eTs_len, eTs_len, List.length_map]; omega)) ?_
        refine abs_upd kc2 fun G5 u5 h5 => ?_
        have h5' : G5 k2.2.1 = some (.lst (eTs (g.cells ++ outs.map (atT cells)))) := by rw [h5, eTs_snoc]
        obtain ⟨_, ev⟩ := ev_back (f := { cells := cells, todo := [], outs := outs }) (g := g) (gs := gs) rfl (by rw [hE]; exact nb)
        walk_at "de"
        refine ⟨wS (g :: gs), by rw [ew]; show _ < 1 + 0 + _; omega, k2, ks2, { g with cells := g.cells ++ outs.map (atT cells) }, gs, _, _, rfl, rfl, hS4.cells u5 h5', ⟨frn_back hok.1 rfl hg, hok.2.2⟩, ev.symm.trans hE, ?_⟩
        show wS (g :: gs) ≤ 3000000
        have : wS (g :: gs) ≤ wS ({ cells := cells, todo := [], outs := outs } :: g :: gs) := by rw [ew]; omega
        omega
  | cons o r =>
    refine w_it (decide_eq_true (by rw [List.length_reverse]; show (0 : Int) < (((eOs r).length + 1 : Nat) : Int); omega)) ?_
    walk_at "de"
    have kt' : G3 k.2.2 = some (.lst ((eOs r).reverse ++ [eO o])) := by rw [kt, show eOs (o :: r) = eO o :: eOs r from rfl, List.reverse_cons]
    refine w_pop kt' ?_
    refine abs_upd kt' fun G4 u4 h4 => ?_
    have hS4 := hS.todo (os := r) u4 h4
    have oo : okO cells.length o := hok.1.ops.1
    have ew' : wOs (o :: r) = wO o + wOs r := rfl
    have wp := wO_pos o
    have ew : wS ({ cells := cells, todo := o :: r, outs := outs } :: fs) = (1 + wOs (o :: r)) + wS fs := rfl
    rw [ew, ew'] at zW
    walk_at "de"
    refine ⟨G, pR, k, ks, { cells := cells, todo := r, outs := outs }, fs, o, rfl, hS4, oo, hok.1.gd, lc90, by omega, fun hi hm => ⟨G, hS4.s, n1 (hE.symm.trans (ev_no (r := r) rfl hm))⟩, fun c' as a' b' ho hno => ⟨G, hS4.s, n1 (hE.symm.trans (ev_no (o := o) (r := r) rfl ?_))⟩, fun m hi hm G5 hS5 => ?_, fun c' as a' b' n t' ops' us' ho hn hd G5 kn hS5 => ?_⟩
    · subst ho
      show (match atT cells c' with | .num n => if n = 0 then toldC b' (as.map (atT cells)) else toldC a' (as.map (atT cells)) | _ => Oc.no) = _
      cases e : atT cells c' with
      | num n => exact absurd e (hno n)
      | row _ => rfl
      | lst _ => rfl
    · obtain ⟨hb, ev⟩ := ev_made (f := { cells := cells, todo := o :: r, outs := outs }) (gs := fs) rfl hm (by rw [hE]; exact nb)
      walk_at "de"
      refine ⟨wS ({ cells := cells ++ m, todo := r, outs := outs } :: fs), by rw [ew, ew']; show 1 + wOs r + wS fs < _; omega, k, ks, { cells := cells ++ m, todo := r, outs := outs }, fs, _, _, rfl, rfl, hS5, ⟨frn_made hok.1 rfl hi hm hb, hok.2⟩, ev.symm.trans hE, by show 1 + wOs r + wS fs ≤ _; omega⟩
    · subst ho
      have hcd : (if n = 0 then b' else a') = a' ∨ (if n = 0 then b' else a') = b' := by split <;> simp
      obtain ⟨f1, f2, la, wz⟩ := frn_in hok.1 rfl hcd hd
      have ev := ev_in (f := { cells := cells, todo := .ite c' as a' b' :: r, outs := outs }) (gs := fs) rfl hn hd la (by rw [hE]; exact nb)
      have w3 : wO (.ite c' as a' b') = 3 + wC a' + wC b' := rfl
      walk_at "de"
      refine ⟨wS ({ cells := as.map (atT cells), todo := ops', outs := us' } :: { cells := cells, todo := r, outs := outs } :: fs), by rw [ew, ew', w3]; show 1 + wOs ops' + (1 + wOs r + wS fs) < _; omega, kn, k :: ks, { cells := as.map (atT cells), todo := ops', outs := us' }, { cells := cells, todo := r, outs := outs } :: fs, _, _, rfl, rfl, hS5, ⟨f1, f2, hok.2⟩, ev.symm.trans hE, by show 1 + wOs ops' + (1 + wOs r + wS fs) ≤ _; omega⟩
end
end K64
/-! the greatest of a list of numbers -/
namespace DD
open PySem PySem.W L2 SX Cm
section
variable {X : Cx}
theorem RVs.intsL {K : Frag} {H : Hp} : ∀ {ns : List Int} {vs : List V}, RVs K H vs (ns.map DV.int) → vs = ns.map V.int
  | [], _, h => by cases h; rfl
  | n :: r, _, h => by
    cases h with
    | cons h1 h2 => cases h1; rw [RVs.intsL h2]; rfl
def bMaxL : DC := fun ds G Q => ∃ (p : Addr) (ns : List Int), ds = [.ref p] ∧ G p = some (.lst (ns.map DV.int)) ∧ 0 < ns.length ∧ ∀ m, m ∈ ns → (∀ y, y ∈ ns → y ≤ m) → Q (.int m) G
theorem cd_maxL (hc : X.calm = true) : CallD X (.builtin "max") bMaxL := by
  refine ⟨_, cr_max hc, fun ds vs H G R Q r w ⟨p, ns, e, g, l, q⟩ f => ?_⟩
  subst e
  cases r with
  | cons r1 r2 =>
    cases r2
    cases r1
    obtain ⟨us, hs, ru⟩ := wd_list w g
    rw [RVs.intsL ru] at hs
    exact ⟨p, ns, rfl, SqL.of hs, l, fun m h1 h2 => f _ G _ H (q m h1 h2) (TKs.refl H) w (.int _)⟩
theorem w_maxL {p : Addr} {ns : List Int} {G : DG} {Q : DK} (g : G p = some (.lst (ns.map DV.int))) (l : 0 < ns.length) (h : ∀ m, m ∈ ns → (∀ y, y ∈ ns → y ≤ m) → Q (.int m) G) : bMaxL [.ref p] G Q := ⟨p, ns, rfl, g, l, h⟩
end
end DD
set_option maxHeartbeats 1000000
namespace K64
open PySem PySem.W L2 SX Cm DD
local macro_rules | `(tactic| walk_at "d1") => `(tactic| first | (with_reducible refine w_go ?_) | ((with_reducible show dVar _ _ _ _); refine w_var rfl ?_) | (with_reducible refine w_exI ?_) | (with_reducible refine w_exB ?_) | (with_reducible refine w_exT ?_) | (with_reducible refine w_exS ?_) | (with_reducible refine w_parE ?_) | (with_reducible refine ly1 ?_) | (with_reducible refine ly2 ?_) | (with_reducible refine lt1' ?_) | (with_reducible refine lt2' ?_) | (with_reducible refine wx_enumT ?_) | (with_reducible refine w_callX ?_) | (with_reducible refine w_methX ?_) | (with_reducible refine w_raise ?_) | (with_reducible refine w_try ?_) | (with_reducible refine w_xSet ?_) | (with_reducible refine w_xExpr ?_) | (with_reducible refine w_xLst ?_) | (with_reducible refine w_xTup ?_) | (with_reducible refine w_xCons ?_) | (with_reducible refine w_xNil ?_) | (with_reducible refine w_xE ?_) | (with_reducible refine w_xCall ?_) | (with_reducible refine w_call0 ?_) | (with_reducible refine w_asgL ?_) | (with_reducible refine w_tupPd ?_) | (with_reducible refine wi_zip ?_) | (with_reducible refine w_delT ?_) | (with_reducible refine w_dc ?_) | (with_reducible refine w_revL ?_) | (with_reducible refine wi_revT ?_) | (with_reducible refine w_lstZip ?_) | (with_reducible refine w_chain ?_) | (with_reducible refine w_orT ?_) | ((with_reducible show gT _ _ _ _ _ _); refine g_T ?_ rfl) | ((with_reducible show ∃ p, DV.ref _ = _ ∧ (∃ kvs, _) ∧ _); refine wx_get (by walk_at "gq") ?_) | ((with_reducible show ∃ kvs z, _ = _ ∧ _ = some (DO.dct _) ∧ _); refine wx_get2 (by walk_at "gq") ?_) | ((with_reducible show ∃ p kvs z, _ = _ ∧ _ = _ ∧ _ = some (DO.dct _) ∧ _); refine wx_in (by walk_at "gq") ?_) | ((with_reducible show List.length _ = _ ∧ _); refine w_len ?_ rfl) | ((with_reducible show List.length _ ≤ sizeLine ∧ _); refine w_sz ?_ (szl rfl)) | ((with_reducible show bIx _ (.int _) _ _); first | refine w_ix0 ?_ | refine w_ix1 ?_ | refine w_ix2 ?_ | refine w_ix3 ?_) | ((with_reducible show bIsi [_, _] _ _); first | refine w_isi (by decide) (a := "tuple") rfl rfl ?_ | refine w_isi (by decide) (a := "str") rfl rfl ?_ | refine w_isi (by decide) (a := "int") rfl rfl ?_ | refine w_isi (by decide) (a := "bool") rfl rfl ?_ | refine w_isi (by decide) (a := "NoneType") rfl rfl ?_) | ((with_reducible show ∃ ds, _ = DV.tup ds ∧ _); refine w_exT ?_) | ((with_reducible show ∃ z, _ = DV.str z ∧ _); refine w_exS ?_) | ((with_reducible show ∃ ds, [_] = [DV.tup ds] ∧ _); refine wx_enumT ?_) | ((with_reducible show bSl _ _ _ _ _); refine w_slT ?_) | ((with_reducible show bTuple [_] _ _); refine w_tupT ?_) | ((with_reducible show bLen [_] _ _); refine w_lenT ?_) | ((with_reducible show bTru _ _ _); first | refine w_truT ?_ | refine w_truN ?_ | refine w_truB ?_ | refine w_truI ?_) | ((with_reducible show bEq _ _ _ _ _); first | refine w_eqSS ?_ | refine w_eqII ?_ | refine w_neSS ?_ | refine w_neII ?_ | refine w_eqT0 ?_) | ((with_reducible show bInt _ _ (.int _) (.int _) _ _); refine w_int (by first | decide | exact ⟨by decide, by decide, by decide⟩ | exact .inl ⟨by decide, by decide⟩ | exact .inr ⟨by decide, by decide⟩) ?_) | ((with_reducible show if _ = true then _ else _); first | refine w_it (by first | rfl | decide +kernel) ?_ | refine w_if0 (by first | rfl | decide +kernel) ?_) | ((with_reducible show rcv "list" (.ref _) _ ∧ _); refine w_rcvL (by walk_at "gq") ?_) | ((with_reducible show bTuple [.ref _] _ _); refine w_tupL (by walk_at "gq") ?_) | ((with_reducible show bLen [.ref _] _ _); refine w_lenL (by walk_at "gq") ?_) | ((with_reducible show bTru (.ref _) _ _); refine w_truL (by walk_at "gq") ?_) | ((with_reducible show ∃ _ _, DV.ref _ = _ ∧ Ls _ _ _ ∧ _); refine wx_lst (by walk_at "gq") ?_) | ((with_reducible show ∃ _ _, [DV.ref _] = _ ∧ Ls _ _ _ ∧ _); refine wx_lstA (by walk_at "gq") ?_))
local macro_rules | `(tactic| walk_at "dd") => `(tactic| repeat (walk_at "d1"))
local macro_rules | `(tactic| walk_at "gq") => `(tactic| first | assumption | exact dupd_same | exact sub_get (by assumption) (by walk_at "gq") | exact upd_get (by assumption) (by walk_at "gq") (by walk_at "gn") | exact subx_get (by assumption) (by walk_at "gq") (by walk_at "gn") | (refine (dupd_ne ?_).trans ?_; (focus walk_at "gn"); walk_at "gq"))
local macro_rules | `(tactic| walk_at "gs") => `(tactic| first | assumption | exact Sub.refl _ | exact sub_tr (by assumption) (by walk_at "gs") | exact sub_up (by assumption) (by walk_at "gs") (by walk_at "g0") | exact sub_ux (by assumption) (by walk_at "gs") (by walk_at "g0") | (refine Sub.new ?_ ?_; (focus walk_at "gs"); walk_at "g0"))
local macro_rules | `(tactic| walk_at "gk") => `(tactic| first | assumption | exact db_sub (by assumption) (by walk_at "gk") | exact db_upd (by assumption) (by walk_at "gk") ⟨_, by walk_at "gq"⟩ | exact db_updD (by assumption) (by walk_at "gk") ⟨_, by walk_at "gq"⟩)
local macro_rules | `(tactic| walk_at "gu") => `(tactic| first | assumption | exact Upd.refl _ _ | exact upd_in (by assumption) (by walk_at "gu"))
local macro_rules | `(tactic| walk_at "gx") => `(tactic| first | assumption | exact SubX.refl _ _ | exact subx_sub (by assumption) (by walk_at "gx") | exact subx_upd (by assumption) (by walk_at "gx") | exact subx_tr (by assumption) (by walk_at "gx"))
local macro_rules | `(tactic| walk_at "gn") => `(tactic| first | assumption | exact Ne.symm (by assumption) | exact ne_ns (by assumption) ⟨_, by walk_at "gq"⟩ | exact ne_sn (by assumption) ⟨_, by walk_at "gq"⟩)
local macro_rules | `(tactic| walk_at "g0") => `(tactic| first | assumption | exact nn_ (by assumption) (by walk_at "gs"))
theorem dp_in : ∀ qs : List Th, dpTs qs = 0 ∨ ∃ t ∈ qs, dpT t = dpTs qs
  | [] => .inl rfl
  | t :: r => by
    have e : dpTs (t :: r) = max (dpT t) (dpTs r) := rfl
    rw [e]
    rcases Nat.le_total (dpTs r) (dpT t) with h | h
    · exact .inr ⟨t, List.mem_cons_self .., by omega⟩
    · rcases dp_in r with h2 | ⟨x, hx, h2⟩
      · left; omega
      · exact .inr ⟨x, List.mem_cons_of_mem _ hx, by omega⟩
theorem max_dp {qs : List Th} {m : Int} (h1 : m ∈ (0 : Int) :: qs.map fun t => (dpT t : Int)) (h2 : ∀ y ∈ (0 : Int) :: qs.map fun t => (dpT t : Int), y ≤ m) : m = (dpTs qs : Nat) := by
  have g0 := h2 0 (List.mem_cons_self ..)
  have le : m ≤ (dpTs qs : Nat) := by
    rcases List.mem_cons.mp h1 with rfl | h
    · omega
    · obtain ⟨t, ht, rfl⟩ := List.mem_map.mp h
      obtain ⟨_, m2, _⟩ := mem_szT ht
      omega
  rcases dp_in qs with e | ⟨t, ht, e⟩
  · omega
  · have := h2 _ (List.mem_cons_of_mem _ (List.mem_map_of_mem (f := fun t => (dpT t : Int)) ht))
    omega
section
variable {P : Program} {w : World} {K : Frag} {mg : Str → Option Value} {base : Heap}
def SP_deep (k : Nat) : DSp := fun ds G R => ∃ t, ds = [eT t] ∧ dpT t < k ∧ szT t ≤ 100000 ∧ R (.int (dpT t : Nat)) G
def oD : Option Th → DV
  | some t => eT t
  | none => .non
def SP_po : DSp := fun ds G R => ∃ z x y, ds = [.str z, eT x, eT y] ∧ z ∈ MAK ∧ z ≠ "wrap" ∧ Gd x ∧ Gd y ∧ R (oD (opT z [x, y])) G
abbrev N_L_deep : List Str := ["_law_thing_here", "_law_inner", "_law_word", "_law_one"]
abbrev A_L_deep : List Str := ["_law_thing_here"]
theorem sc_L_deep : FnScope N_L_deep A_L_deep (defScope s_L_deep) := ⟨rfl, rfl, rfl, by decide +kernel, rfl, by decide +kernel, by decide +kernel⟩
theorem h_L_deep {k l : Nat} (a : At K mg "_law_deep" s_L_deep A_L_deep) (B : BI mg) (B_max : mg "max" = none) (c_L_deep : Has P w K mg base l "_law_deep" A_L_deep (SP_deep k)) : Has P w K mg base (l + 1) "_law_deep" A_L_deep (SP_deep (k + 1)) := by
  refine at_mk a sc_L_deep fun f cdv A outer s H E hr ds G R hl h => ?_
  refine ⟨_, (dss_cons (ds_if (dt_cmp (od_eq hr.units) (de_ix (dv 0) de_int) de_str (nomark _)) (dss_one (ds_ret de_int)) dss_nil)
    (dss_cons (ds_set (i := 1) sc_L_deep.nd rfl (.inl rfl) (de_callTy cd_list B.lst rfl (by decide +kernel) (da_cons (de_ix (dv 0) de_int) da_nil)))
    (dss_cons (ds_if (dt_cmp (od_eq hr.units) (de_ix (dv 0) de_int) de_str (nomark _)) (dss_one (ds_setLc (i := 1) (own := [("_law_word", 2)]) (lt1 (i := 2) (by decide)) rfl sc_L_deep.nd rfl rfl (sw_true rfl rfl rfl (by decide +kernel)) (di_tup (de_ix (dv 0) de_int)) (blkOk_by (own := [("_law_word", 2)]) (N := N_L_deep) (sc := defScope s_L_deep) (by decide +kernel)) (fun _ _ _ _ _ => pg_name (i := 2) sc_L_deep.nd rfl (Or.inl rfl)) (fun _ _ _ _ _ => (dts_one (dt_e (de_callB cd_isi B.isi rfl (by decide +kernel) (da_cons (dv 2) (da_cons (de_ty (n := "tuple") B.tup rfl (by decide +kernel)) da_nil)))))) (fun _ _ _ _ _ => (de_ix (dv 2) de_int)))) dss_nil)
    (dss_one (ds_ret (de_op od_add de_int (de_callB (cd_maxL rfl) B_max rfl (by decide +kernel) (da_cons (de_op od_add (de_lst (da_cons de_int da_nil)) (de_lc (own := [("_law_one", 3)]) (lt1 (i := 3) (by decide)) rfl sc_L_deep.nd (di_list (dv 1)) (blkOk_by (own := [("_law_one", 3)]) (N := N_L_deep) (sc := defScope s_L_deep) (by decide +kernel)) (fun _ _ _ _ _ => pg_name (i := 3) sc_L_deep.nd rfl (Or.inl rfl)) (fun _ _ _ _ _ => dts_nil) (fun _ _ _ _ _ => (de_call c_L_deep (hr.mono (by omega)) rfl (da_cons (dv 3) da_nil))))) da_nil)))))))), ?_⟩
  obtain ⟨t, rfl, dk, sz, q⟩ := h
  cases t with
  | num n =>
    walk_at "dd"
    exact Less.of q
  | lst qs =>
    have e2 : szT (.lst qs) = 1 + szTs qs := rfl
    have e3 : dpT (.lst qs) = 1 + dpTs qs := rfl
    have lq := szTs_len qs
    walk_at "dd"
    refine w_lstT fun p1 n1 => ?_
    refine abs_new n1 fun G1 s1 h1 => ?_
    walk_at "dd"
    intro pz nz
    refine abs_new nz fun Gz sz_ hz => ?_
    walk_at "dd"
    have hin : Gz p1 = some (.lst (eTs qs)) := by walk_at "gq"
    refine lcs_each (fun i y => ∀ t, qs[i]? = some t → y = .int (dpT t : Nat)) (fun G' s => .inl (s _ _ hin)) (by rw [eTs_len]; omega) ?_ ?_
    · intro i d hd G' k1 k0 s' e1
      rw [eTs_map, List.getElem?_map] at hd
      obtain ⟨t, ht, rfl⟩ := Option.map_eq_some_iff.mp hd
      obtain ⟨m1, m2, _⟩ := mem_szT (List.mem_of_getElem? ht)
      walk_at "dd"
      refine ⟨t, rfl, by omega, by omega, e1 _ fun t2 h2 => ?_⟩
      rw [ht] at h2; cases h2; rfl
    intro pl Gl acc nl sl hl2 la he
    have ha : acc = (qs.map fun t => (dpT t : Int)).map DV.int := by
      rw [List.map_map]
      refine List.ext_getElem? fun i => ?_
      rw [List.getElem?_map]
      rw [eTs_len] at la
      by_cases hi : i < acc.length
      · have e2 : qs[i]? = some (qs[i]'(by omega)) := List.getElem?_eq_getElem _
        rw [e2, List.getElem?_eq_getElem hi, he i _ (List.getElem?_eq_getElem hi) _ e2]; rfl
      · rw [List.getElem?_eq_none (by omega), List.getElem?_eq_none (by omega)]; rfl
    rw [ha] at hl2
    have hz' := sl _ _ hz
    refine w_addL hz' hl2 (mid (by rw [List.length_map, List.length_map]; show 1 + qs.length ≤ 1000000; omega)) ?_
    intro pm nm
    refine abs_new nm fun Gm sm hm => ?_
    have hm : Gm pm = some (.lst (((0 : Int) :: qs.map fun t => (dpT t : Int)).map DV.int)) := hm
    walk_at "dd"
    refine w_maxL hm (Nat.succ_pos _) fun m h1 h2 => ?_
    rw [max_dp h1 h2]
    walk_at "dd"
    refine ⟨G, by walk_at "gs", ?_⟩
    rw [show (1 + ((dpTs qs : Nat) : Int)) = ((dpT (.lst qs) : Nat) : Int) from by rw [e3]; omega]
    exact q
  | row ws =>
    have e2 : szT (.row ws) = 1 + szWs ws := rfl
    have e3 : dpT (.row ws) = 1 + dpWs ws := rfl
    obtain ⟨p1', p2'⟩ := psWs_sz ws
    walk_at "dd"
    refine w_lstT fun p1 n1 => ?_
    refine abs_new n1 fun G1 s1 h1 => ?_
    walk_at "dd"
    refine lcs_pure psD (fun _ _ => trivial) (by rw [eWs_len]; omega) ?_ ?_
    · intro y hy G2 k1 k0 s2 h1 h0
      rw [eWs_map] at hy
      obtain ⟨w1, _, rfl⟩ := List.mem_map.mp hy
      cases w1 with
      | txt z =>
        walk_at "dd"
        exact h0 rfl
      | push t =>
        walk_at "dd"
        exact h1 _ rfl
    intro p5 G5 np5 s5 h5
    rw [fm_ps] at h5
    generalize hqs : psWs ws = qs at h5 p1' p2'
    have lq := szTs_len qs
    walk_at "dd"
    intro pz nz
    refine abs_new nz fun Gz sz_ hz => ?_
    walk_at "dd"
    have hin : Gz p5 = some (.lst (eTs qs)) := by walk_at "gq"
    refine lcs_each (fun i y => ∀ t, qs[i]? = some t → y = .int (dpT t : Nat)) (fun G' s => .inl (s _ _ hin)) (by rw [eTs_len]; omega) ?_ ?_
    · intro i d hd G' k1 k0 s' e1
      rw [eTs_map, List.getElem?_map] at hd
      obtain ⟨t, ht, rfl⟩ := Option.map_eq_some_iff.mp hd
      obtain ⟨m1, m2, _⟩ := mem_szT (List.mem_of_getElem? ht)
      walk_at "dd"
      refine ⟨t, rfl, by omega, by omega, e1 _ fun t2 h2 => ?_⟩
      rw [ht] at h2; cases h2; rfl
    intro pl Gl acc nl sl hl2 la he
    have ha : acc = (qs.map fun t => (dpT t : Int)).map DV.int := by
      rw [List.map_map]
      refine List.ext_getElem? fun i => ?_
      rw [List.getElem?_map]
      rw [eTs_len] at la
      by_cases hi : i < acc.length
      · have e2 : qs[i]? = some (qs[i]'(by omega)) := List.getElem?_eq_getElem _
        rw [e2, List.getElem?_eq_getElem hi, he i _ (List.getElem?_eq_getElem hi) _ e2]; rfl
      · rw [List.getElem?_eq_none (by omega), List.getElem?_eq_none (by omega)]; rfl
    rw [ha] at hl2
    have hz' := sl _ _ hz
    refine w_addL hz' hl2 (mid (by rw [List.length_map, List.length_map]; show 1 + qs.length ≤ 1000000; omega)) ?_
    intro pm nm
    refine abs_new nm fun Gm sm hm => ?_
    have hm : Gm pm = some (.lst (((0 : Int) :: qs.map fun t => (dpT t : Int)).map DV.int)) := hm
    walk_at "dd"
    refine w_maxL hm (Nat.succ_pos _) fun m h1 h2 => ?_
    rw [max_dp h1 h2]
    walk_at "dd"
    refine ⟨G, by walk_at "gs", ?_⟩
    rw [show (1 + ((dpTs qs : Nat) : Int)) = ((dpT (.row ws) : Nat) : Int) from by rw [e3]; omega]
    exact q
theorem all_deep (a : At K mg "_law_deep" s_L_deep A_L_deep) (B : BI mg) (B_max : mg "max" = none) : ∀ k, Has P w K mg base (k + 1) "_law_deep" A_L_deep (SP_deep k) := by
  intro k
  induction k with
  | zero =>
    refine at_mk a sc_L_deep fun f cdv A outer s H E hr ds G R hl h => ?_
    obtain ⟨t, _, h0, _⟩ := h
    exact absurd h0 (Nat.not_lt_zero _)
  | succ k ih => exact h_L_deep (k := k) (l := k + 1) a B B_max ih
end
end K64
/-! list.index of a text in a list of texts; displays of dicts with texts as keys -/
namespace DD
open PySem PySem.W L2 SX Cm
section
variable {X : Cx}
/-! displays -/
def dPairs : List (TD × TD) → DSt → DG → (List (DV × DV) → DG → Prop) → Prop
  | [], _, G, Q => Q [] G
  | (tk, tv) :: r, δ, G, Q => tk δ G fun x G1 => tv δ G1 fun y G2 => dPairs r δ G2 fun ps G3 => Q ((x, y) :: ps) G3
inductive PR (K : Frag) (H : Hp) : List (V × V) → List (DV × DV) → Prop
  | nil : PR K H [] []
  | cons {v u : V} {x y : DV} {vs : List (V × V)} {ps : List (DV × DV)} : RV K H v x → RV K H u y → PR K H vs ps → PR K H ((v, u) :: vs) ((x, y) :: ps)
theorem lift_pairs {K : Frag} {σ : St} : ∀ (trs : List (TD × TD)) {δ : DSt} {G : DG} {H : Hp} {Qd : List (DV × DV) → DG → Prop} {Qh : List (V × V) → Hp → Prop}, Sl K H σ δ → Wd K H G → dPairs trs δ G Qd →
    (∀ ps G' H' vs, Qd ps G' → TKs K H H' → Wd K H' G' → PR K H' vs ps → Qh vs H') → tPairs (trs.map fun t => (up K t.1, up K t.2)) σ H Qh
  | [], δ, G, H, _, _, sl, w, h, f => f [] G H [] h (TKs.refl H) w .nil
  | (tk, tv) :: r, δ, G, H, _, _, sl, w, h, f => ⟨δ, G, _, sl, w, h, fun x G1 vx H1 h1 t1 w1 r1 => ⟨δ, G1, _, sl.mono t1, w1, h1, fun y G2 vy H2 h2 t2 w2 r2 =>
    lift_pairs r (sl.mono (t1.trans t2)) w2 h2 fun ps G' H' vs q t w' pr => f ((x, y) :: ps) G' H' ((vx, vy) :: vs) q ((t1.trans t2).trans t) w' (.cons (r1.mono (t2.trans t)) (r2.mono t) pr)⟩⟩
theorem pr_keys {K : Frag} {H : Hp} : ∀ {kvs : List (Str × DV)} {vs : List (V × V)}, PR K H vs (kvs.map fun kv => (DV.str kv.1, kv.2)) → ∃ vk : List (Key × V), vs = vk.map (fun kv => (kV kv.1, kv.2)) ∧ vk.length = kvs.length ∧
    ∀ {us : List (Key × V)} {ds : List (Key × DV)}, KRV K H us ds → KRV K H (mergeK us vk) (kvs.foldl (fun m kv => putD m (keyD kv.1) kv.2) ds)
  | [], _, .nil => ⟨[], rfl, rfl, fun h => h⟩
  | kv :: r, _, .cons (v := v) (u := u) h1 h2 t => by
    obtain ⟨vk, e, l, g⟩ := pr_keys t
    cases h1
    exact ⟨(keyD kv.1, u) :: vk, by rw [e]; rfl, by rw [List.length_cons, List.length_cons, l], fun h => g (h.put (keyD kv.1) h2)⟩
def dDisp (trs : List (TD × TD)) : TD := fun δ G Q => ∀ p, G p = none → dPairs trs δ (dupd G p (.dct [])) fun ps G2 => G2 p = some (.dct []) ∧ ∃ kvs : List (Str × DV), ps = kvs.map (fun kv => (DV.str kv.1, kv.2)) ∧ kvs.length ≤ 15 ∧ Q (.ref p) (dupd G2 p (.dct (kvs.foldl (fun m kv => putD m (keyD kv.1) kv.2) [])))
structure DPs (X : Cx) (pos : Pos) (keys : List (Option Expr)) (values : List Expr) (trs : List (TD × TD)) : Prop where
  run : PPs X pos keys values (trs.map fun t => (up X.K t.1, up X.K t.2))
theorem dps_nil {pos : Pos} : DPs X pos [] [] [] := ⟨pps_nil⟩
theorem dps_cons {pos : Pos} {k v : Expr} {ks : List (Option Expr)} {vs : List Expr} {tk tv : TD} {trs : List (TD × TD)} (hk : DE X k tk) (hv : DE X v tv) (hr : DPs X pos ks vs trs) : DPs X pos (some k :: ks) (v :: vs) ((tk, tv) :: trs) := ⟨pps_cons hk hv hr.run⟩
theorem de_disp {pos : Pos} {keys : List (Option Expr)} {values : List Expr} {trs : List (TD × TD)} (h : DPs X pos keys values trs) (hall : keys.all (·.isSome) = true := by rfl) (hl : keys.length = values.length := by rfl) (h0 : keys ≠ [] := by exact fun z => nomatch z)
    (h15 : keys.length ≤ 15 := by decide) : DE X (.Dict keys values pos) (dDisp trs) := by
  refine PE_mono (pe_disp h.run hall hl h0 h15) fun σ H Q ⟨δ, G, R, sl, w, q, f⟩ => fun p np => ?_
  have s := same_new np (.dK [])
  have w1 : Wd X.K (upd H p (.dK [])) (dupd G p (.dct [])) := w.new np fun O => ⟨[], upd_same, .nil⟩
  refine lift_pairs trs (sl.mono (TKs.of s)) w1 (q p (w.free np)) fun ps G' H' vs ⟨eG, kvs, ep, hl, q2⟩ t w' pr => ?_
  subst ep
  obtain ⟨us, hu, kr⟩ := wd_dct w' eG
  cases kr
  obtain ⟨vk, ev, ln, mg⟩ := pr_keys pr
  have t2 : TKs X.K H' (upd H' p (.dK (mergeK [] vk))) := tks_dct hu
  exact ⟨hu, vk, ev, by omega, f _ _ _ _ q2 (((TKs.of s).trans t).trans t2) (w'.put ⟨_, eG, fun L φ z => by cases z⟩ t2 fun O => ⟨_, upd_same, (mg .nil).mono t2⟩) (.ref p)⟩
end
section
variable {δ : DSt} {G : DG} {Q : DK} {QP : List (DV × DV) → DG → Prop}
theorem w_disp {trs : List (TD × TD)} (h : ∀ p, G p = none → dPairs trs δ (dupd G p (.dct [])) fun ps G2 => G2 p = some (.dct []) ∧ ∃ kvs : List (Str × DV), ps = kvs.map (fun kv => (DV.str kv.1, kv.2)) ∧ kvs.length ≤ 15 ∧ Q (.ref p) (dupd G2 p (.dct (kvs.foldl (fun m kv => putD m (keyD kv.1) kv.2) [])))) : dDisp trs δ G Q := h
theorem w_pn (h : QP [] G) : dPairs [] δ G QP := h
theorem w_pc {tk tv : TD} {r : List (TD × TD)} (h : tk δ G fun x G1 => tv δ G1 fun y G2 => dPairs r δ G2 fun ps G3 => QP ((x, y) :: ps) G3) : dPairs ((tk, tv) :: r) δ G QP := h
end
end DD
/-! lists read from the front; dicts of texts -/
namespace DD
open PySem PySem.W L2 SX Cm
theorem SubX.of {G G' : DG} {p : Addr} (s : Sub G G') : SubX G p G' := fun a o _ e => s a o e
/-! dicts of texts -/
end DD
set_option maxHeartbeats 1000000
namespace K64
open PySem PySem.W L2 SX Cm DD
local macro_rules | `(tactic| walk_at "d1") => `(tactic| first | (with_reducible refine w_go ?_) | ((with_reducible show dVar _ _ _ _); refine w_var rfl ?_) | (with_reducible refine w_exI ?_) | (with_reducible refine w_exB ?_) | (with_reducible refine w_exT ?_) | (with_reducible refine w_exS ?_) | (with_reducible refine w_parE ?_) | (with_reducible refine ly1 ?_) | (with_reducible refine ly2 ?_) | (with_reducible refine lt1' ?_) | (with_reducible refine lt2' ?_) | (with_reducible refine wx_enumT ?_) | (with_reducible refine w_callX ?_) | (with_reducible refine w_methX ?_) | (with_reducible refine w_raise ?_) | (with_reducible refine w_try ?_) | (with_reducible refine w_xSet ?_) | (with_reducible refine w_xExpr ?_) | (with_reducible refine w_xLst ?_) | (with_reducible refine w_xTup ?_) | (with_reducible refine w_xCons ?_) | (with_reducible refine w_xNil ?_) | (with_reducible refine w_xE ?_) | (with_reducible refine w_xCall ?_) | (with_reducible refine w_call0 ?_) | (with_reducible refine w_asgL ?_) | (with_reducible refine w_tupPd ?_) | (with_reducible refine wi_zip ?_) | (with_reducible refine w_delT ?_) | (with_reducible refine w_dc ?_) | (with_reducible refine w_revL ?_) | (with_reducible refine wi_revT ?_) | (with_reducible refine w_lstZip ?_) | (with_reducible refine w_chain ?_) | (with_reducible refine w_orT ?_) | ((with_reducible show gT _ _ _ _ _ _); refine g_T ?_ rfl) | ((with_reducible show ∃ p, DV.ref _ = _ ∧ (∃ kvs, _) ∧ _); refine wx_get (by walk_at "gq") ?_) | ((with_reducible show ∃ kvs z, _ = _ ∧ _ = some (DO.dct _) ∧ _); refine wx_get2 (by walk_at "gq") ?_) | ((with_reducible show ∃ p kvs z, _ = _ ∧ _ = _ ∧ _ = some (DO.dct _) ∧ _); refine wx_in (by walk_at "gq") ?_) | ((with_reducible show List.length _ = _ ∧ _); refine w_len ?_ rfl) | ((with_reducible show List.length _ ≤ sizeLine ∧ _); refine w_sz ?_ (szl rfl)) | ((with_reducible show bIx _ (.int _) _ _); first | refine w_ix0 ?_ | refine w_ix1 ?_ | refine w_ix2 ?_ | refine w_ix3 ?_) | ((with_reducible show bIsi [_, _] _ _); first | refine w_isi (by decide) (a := "tuple") rfl rfl ?_ | refine w_isi (by decide) (a := "str") rfl rfl ?_ | refine w_isi (by decide) (a := "int") rfl rfl ?_ | refine w_isi (by decide) (a := "bool") rfl rfl ?_ | refine w_isi (by decide) (a := "NoneType") rfl rfl ?_) | ((with_reducible show ∃ ds, _ = DV.tup ds ∧ _); refine w_exT ?_) | ((with_reducible show ∃ z, _ = DV.str z ∧ _); refine w_exS ?_) | ((with_reducible show ∃ ds, [_] = [DV.tup ds] ∧ _); refine wx_enumT ?_) | ((with_reducible show bSl _ _ _ _ _); refine w_slT ?_) | ((with_reducible show bTuple [_] _ _); refine w_tupT ?_) | ((with_reducible show bLen [_] _ _); refine w_lenT ?_) | ((with_reducible show bTru _ _ _); first | refine w_truT ?_ | refine w_truN ?_ | refine w_truB ?_ | refine w_truI ?_) | ((with_reducible show bEq _ _ _ _ _); first | refine w_eqSS ?_ | refine w_eqII ?_ | refine w_neSS ?_ | refine w_neII ?_ | refine w_eqT0 ?_) | ((with_reducible show bInt _ _ (.int _) (.int _) _ _); refine w_int (by first | decide | exact ⟨by decide, by decide, by decide⟩ | exact .inl ⟨by decide, by decide⟩ | exact .inr ⟨by decide, by decide⟩) ?_) | ((with_reducible show if _ = true then _ else _); first | refine w_it (by first | rfl | decide +kernel) ?_ | refine w_if0 (by first | rfl | decide +kernel) ?_) | ((with_reducible show rcv "list" (.ref _) _ ∧ _); refine w_rcvL (by walk_at "gq") ?_) | ((with_reducible show bTuple [.ref _] _ _); refine w_tupL (by walk_at "gq") ?_) | ((with_reducible show bLen [.ref _] _ _); refine w_lenL (by walk_at "gq") ?_) | ((with_reducible show bTru (.ref _) _ _); refine w_truL (by walk_at "gq") ?_) | ((with_reducible show ∃ _ _, DV.ref _ = _ ∧ Ls _ _ _ ∧ _); refine wx_lst (by walk_at "gq") ?_) | ((with_reducible show ∃ _ _, [DV.ref _] = _ ∧ Ls _ _ _ ∧ _); refine wx_lstA (by walk_at "gq") ?_))
local macro_rules | `(tactic| walk_at "dd") => `(tactic| repeat (walk_at "d1"))
local macro_rules | `(tactic| walk_at "gq") => `(tactic| first | assumption | exact dupd_same | exact sub_get (by assumption) (by walk_at "gq") | exact upd_get (by assumption) (by walk_at "gq") (by walk_at "gn") | exact subx_get (by assumption) (by walk_at "gq") (by walk_at "gn") | (refine (dupd_ne ?_).trans ?_; (focus walk_at "gn"); walk_at "gq"))
local macro_rules | `(tactic| walk_at "gs") => `(tactic| first | assumption | exact Sub.refl _ | exact sub_tr (by assumption) (by walk_at "gs") | exact sub_up (by assumption) (by walk_at "gs") (by walk_at "g0") | exact sub_ux (by assumption) (by walk_at "gs") (by walk_at "g0") | (refine Sub.new ?_ ?_; (focus walk_at "gs"); walk_at "g0"))
local macro_rules | `(tactic| walk_at "gk") => `(tactic| first | assumption | exact db_sub (by assumption) (by walk_at "gk") | exact db_upd (by assumption) (by walk_at "gk") ⟨_, by walk_at "gq"⟩ | exact db_updD (by assumption) (by walk_at "gk") ⟨_, by walk_at "gq"⟩)
local macro_rules | `(tactic| walk_at "gu") => `(tactic| first | assumption | exact Upd.refl _ _ | exact upd_in (by assumption) (by walk_at "gu"))
local macro_rules | `(tactic| walk_at "gx") => `(tactic| first | assumption | exact SubX.refl _ _ | exact subx_sub (by assumption) (by walk_at "gx") | exact subx_upd (by assumption) (by walk_at "gx") | exact subx_tr (by assumption) (by walk_at "gx"))
local macro_rules | `(tactic| walk_at "gn") => `(tactic| first | assumption | exact Ne.symm (by assumption) | exact ne_ns (by assumption) ⟨_, by walk_at "gq"⟩ | exact ne_sn (by assumption) ⟨_, by walk_at "gq"⟩)
local macro_rules | `(tactic| walk_at "g0") => `(tactic| first | assumption | exact nn_ (by assumption) (by walk_at "gs"))
section
variable {P : Program} {w : World} {K : Frag} {mg : Str → Option Value} {base : Heap}
abbrev N_L_pair_op : List Str := ["_law_word", "_law_one", "_law_other", "_law_m", "_law_n", "_law_told_here"]
abbrev A_L_pair_op : List Str := ["_law_word", "_law_one", "_law_other"]
theorem sc_L_pair_op : FnScope N_L_pair_op A_L_pair_op (defScope s_L_pair_op) := ⟨rfl, rfl, rfl, by decide +kernel, rfl, by decide +kernel, by decide +kernel⟩
theorem h_L_pair_op (a : At K mg "_law_pair_op" s_L_pair_op A_L_pair_op) (B : BI mg) : Has P w K mg base 1 "_law_pair_op" A_L_pair_op SP_po := by
  refine at_mk a sc_L_pair_op fun f cdv A outer s H E hr ds G R hl h => ?_
  refine ⟨_, (dss_cons (ds_if (dt_cmp (od_eq hr.units) (dv 0) de_str (nomark _)) (dss_cons (ds_if (dt_cmp (od_ne hr.units) (de_ix (dv 1) de_int) de_str (nomark _)) (dss_one (ds_ret de_non)) dss_nil)
      (dss_one (ds_ret (de_tup (da_cons de_str (da_cons (de_op od_add (de_ix (dv 1) de_int) (de_tup (da_cons (dv 2) da_nil))) da_nil)))))) dss_nil)
    (dss_cons (ds_if (dt_cmp (od_eq hr.units) (dv 0) de_str (nomark _)) (dss_cons (ds_if (dt_w (dw_or (dt_cmp (od_ne hr.units) (de_ix (dv 1) de_int) de_str (nomark _)) (dw_or1 (dt_cmp (od_ne hr.units) (de_ix (dv 2) de_int) de_str (nomark _))))) (dss_one (ds_ret de_non)) dss_nil)
      (dss_one (ds_ret (de_tup (da_cons de_str (da_cons (de_op od_add (de_ix (dv 1) de_int) (de_ix (dv 2) de_int)) da_nil)))))) dss_nil)
    (dss_cons (ds_if (dt_w (dw_or (dt_cmp (od_ne hr.units) (de_ix (dv 1) de_int) de_str (nomark _)) (dw_or1 (dt_cmp (od_ne hr.units) (de_ix (dv 2) de_int) de_str (nomark _))))) (dss_one (ds_ret de_non)) dss_nil)
    (dss_cons (ds_set (i := 3) sc_L_pair_op.nd rfl (.inl rfl) (de_ix (dv 1) de_int))
    (dss_cons (ds_set (i := 4) sc_L_pair_op.nd rfl (.inl rfl) (de_ix (dv 2) de_int))
    (dss_cons (ds_set (i := 5) sc_L_pair_op.nd rfl (.inl rfl) (de_disp (dps_cons de_str (de_op od_add (dv 3) (dv 4)) (dps_cons de_str (de_op od_sub (dv 3) (dv 4)) (dps_cons de_str (de_op od_mul (dv 3) (dv 4)) (dps_cons de_str (de_callTy cd_int B.int rfl (by decide +kernel) (da_cons (de_cmp od_lt (dv 3) (dv 4) (nomark _)) da_nil)) (dps_cons de_str (de_callTy cd_int B.int rfl (by decide +kernel) (da_cons (de_cmp (od_eq hr.units) (dv 3) (dv 4) (nomark _)) da_nil)) dps_nil)))))))
    (dss_one (ds_ret (de_tup (da_cons de_str (da_cons (de_op od_mod (de_dget (DD.hu_of hr) (dv 5) (dv 0) (fun _ _ => rfl)) (de_op od_pow de_int de_int)) da_nil))))))))))), ?_⟩
  obtain ⟨z, x, y, rfl, hz, zw, gx, gy, q⟩ := h
  rcases mak_in hz with hn | rfl | rfl | hw
  rotate_left
  · cases x with
    | num n =>
      have e : opT "put" [.num n, y] = none := by cases y with | num b => rw [opT_num, numF_put]; rfl | row _ => rfl | lst _ => rfl
      rw [e] at q
      rw [show eT (.num n) = .tup [.str "number", .int n] from rfl]
      walk_at "dd"
      exact Less.of q
    | row p =>
      have e : opT "put" [.row p, y] = none := by cases y with | num b => rfl | row q => rw [opT_row, if_neg (by decide +kernel)] | lst _ => rfl
      rw [e] at q
      rw [show eT (.row p) = .tup [.str "row", .tup (eWs p)] from rfl]
      walk_at "dd"
      exact Less.of q
    | lst p =>
      rw [opT_lst, if_pos rfl] at q
      have lp := szTs_len p
      have sp : 1 + szTs p ≤ 2000 := gx.1
      rw [show eT (.lst p) = .tup [.str "list", .tup (eTs p)] from rfl]
      walk_at "dd"
      refine w_addT (mid (by rw [eTs_len]; show p.length + 1 ≤ 1000000; omega)) ?_
      walk_at "dd"
      have e2 : eT (.lst (p ++ [y])) = .tup [.str "list", .tup (eTs p ++ [eT y])] := by
        show DV.tup [.str "list", .tup (eTs (p ++ [y]))] = _
        rw [← eTs_snoc]; rfl
      have q : R (eT (.lst (p ++ [y]))) G := q
      rw [e2] at q
      exact Less.of q
  · cases x with
    | num n =>
      have e : opT "join" [.num n, y] = none := by cases y with | num b => rw [opT_num, numF_join]; rfl | row _ => rfl | lst _ => rfl
      rw [e] at q
      rw [show eT (.num n) = .tup [.str "number", .int n] from rfl]
      walk_at "dd"
      exact Less.of q
    | lst p =>
      rw [opT_lst, if_neg (by decide +kernel)] at q
      rw [show eT (.lst p) = .tup [.str "list", .tup (eTs p)] from rfl]
      walk_at "dd"
      exact Less.of q
    | row p =>
      rw [show eT (.row p) = .tup [.str "row", .tup (eWs p)] from rfl]
      cases y with
      | num n =>
        rw [show eT (.num n) = .tup [.str "number", .int n] from rfl]
        walk_at "dd"
        exact Less.of q
      | lst n =>
        rw [show eT (.lst n) = .tup [.str "list", .tup (eTs n)] from rfl]
        walk_at "dd"
        exact Less.of q
      | row p2 =>
        rw [opT_row, if_pos rfl] at q
        have lp := szWs_len p
        have sp : 1 + szWs p ≤ 2000 := gx.1
        have lp2 := szWs_len p2
        have sp2 : 1 + szWs p2 ≤ 2000 := gy.1
        rw [show eT (.row p2) = .tup [.str "row", .tup (eWs p2)] from rfl]
        walk_at "dd"
        refine w_addT (mid (by rw [eWs_len, eWs_len]; omega)) ?_
        walk_at "dd"
        have e2 : eT (.row (p ++ p2)) = .tup [.str "row", .tup (eWs p ++ eWs p2)] := by
          show DV.tup [.str "row", .tup (eWs (p ++ p2))] = _
          rw [eWs_map, eWs_map, eWs_map, List.map_append]
        have q : R (eT (.row (p ++ p2))) G := q
        rw [e2] at q
        exact Less.of q
  · exact absurd hw zw
  obtain ⟨_, hs, m1, m2, m3⟩ := nums_srt z hn
  walk_at "dd"
  refine w_if0 (decide_eq_false m1) ?_
  walk_at "dd"
  refine w_if0 (decide_eq_false m2) ?_
  cases x with
  | row p =>
    have e : opT z [.row p, y] = none := by cases y with | num b => rfl | row q => rw [opT_row, if_neg m2] | lst _ => rfl
    rw [e] at q
    rw [show eT (.row p) = .tup [.str "row", .tup (eWs p)] from rfl]
    walk_at "dd"
    exact Less.of q
  | lst p =>
    rw [opT_lst, if_neg m1] at q
    rw [show eT (.lst p) = .tup [.str "list", .tup (eTs p)] from rfl]
    walk_at "dd"
    exact Less.of q
  | num a0 =>
    rw [show eT (.num a0) = .tup [.str "number", .int a0] from rfl]
    cases y with
    | row p =>
      rw [show eT (.row p) = .tup [.str "row", .tup (eWs p)] from rfl]
      walk_at "dd"
      exact Less.of q
    | lst p =>
      rw [show eT (.lst p) = .tup [.str "list", .tup (eTs p)] from rfl]
      walk_at "dd"
      exact Less.of q
    | num b0 =>
      rw [show eT (.num b0) = .tup [.str "number", .int b0] from rfl]
      obtain ⟨a1, a2⟩ := gx.2.2 a0 rfl
      obtain ⟨b1, b2⟩ := gy.2.2 b0 rfl
      rw [opT_num] at q
      walk_at "dd"
      refine w_disp ?_
      intro p np
      refine abs_new np fun G1 s1 h1 => ?_
      refine w_pc ?_
      walk_at "dd"
      refine w_pc ?_
      walk_at "dd"
      refine w_pc ?_
      walk_at "dd"
      refine w_int (.inl ⟨by omega, by omega⟩) ?_
      refine w_pc ?_
      walk_at "dd"
      refine w_pc ?_
      walk_at "dd"
      refine w_pn ?_
      refine ⟨h1, [("plus", .int (a0 + b0)), ("minus", .int (a0 - b0)), ("times", .int (a0 * b0)), ("less", .int (if decide (a0 < b0) = true then 1 else 0)), ("same", .int (if decide (a0 = b0) = true then 1 else 0))], rfl, (show 5 ≤ 15 by decide), ?_⟩
      refine abs_upd h1 fun G2 u2 h2 => ?_
      have s2 : DD.Sub G G2 := sub_up u2 s1 np
      walk_at "dd"
      have fin_ : ∀ n, numF z a0 b0 = some n → valD (([("plus", .int (a0 + b0)), ("minus", .int (a0 - b0)), ("times", .int (a0 * b0)), ("less", .int (if decide (a0 < b0) = true then 1 else 0)), ("same", .int (if decide (a0 = b0) = true then 1 else 0))] : List (Str × DV)).foldl (fun m kv => putD m (keyD kv.1) kv.2) []) (keyD z) = some (.int n) := by
        intro n hn'
        simp only [NUMS, List.mem_cons, List.not_mem_nil, or_false] at hn
        rcases hn with rfl | rfl | rfl | rfl | rfl
        · rw [numF_plus] at hn'; cases hn'; kernel_rfl
        · rw [numF_minus] at hn'; cases hn'; kernel_rfl
        · rw [numF_times] at hn'; cases hn'; kernel_rfl
        · rw [numF_less] at hn'; cases hn'; kernel_rfl
        · rw [numF_same] at hn'; cases hn'; kernel_rfl
      obtain ⟨n, hnn⟩ := numF_some hs a0 b0
      rw [hnn] at q
      refine ⟨_, _, _, _, rfl, rfl, h2, fin_ n hnn, ?_⟩
      walk_at "dd"
      exact ⟨G, s2, q⟩
end
end K64
/-! a list == a text: false; else as == -/
namespace DD
open PySem PySem.Spec PyProof.Rows PySem.W L2 SX Cm
def rEqLS (K : Frag) : R2 := fun x y H Q => ∃ a xs z, x = .ref a ∧ y = .str z ∧ SqL K H a xs ∧ Q (.bl false) H
section
variable {X : Cx}
theorem op_eqLS (hu : X.A.units + 64 < cLine) : OpR X (compareOp .Eq) (rEqLS X.K) := by
  intro pins s σ H x y v u Q I rx ry h
  obtain ⟨a, xs, z, rfl, rfl, ha, q⟩ := h
  cases rx
  obtain ⟨tk, rfl⟩ := ry
  obtain ⟨us, r1, p1, _⟩ := I.list ha
  have h := SeqAt.RcAt.list_str (A := X.A) (s := s) z tk p1.isList (by omega)
  refine h X.prog X.w X.xe (EP X pins σ Q) ?_
  exact ⟨.bl false, H, I, rfl, q⟩
def bEqLS : D2 := fun x y G Q => (∃ p xs z, x = .ref p ∧ y = .str z ∧ G p = some (.lst xs) ∧ Q (.bl false) G) ∨ bEq false x y G Q
theorem od_eqLS (hu : X.A.units + 64 < cLine) : OpD X (compareOp .Eq) bEqLS := by
  obtain ⟨r, hr, ok⟩ := od_eq (X := X) hu
  refine ⟨_, (op_eqLS hu).or hr, fun x y vx vy H G R Q rx ry w h f => ?_⟩
  rcases h with ⟨p, xs, z, rfl, rfl, e, h⟩ | h
  · cases rx
    cases ry
    obtain ⟨us, h1, r1⟩ := wd_list w e
    exact .inl ⟨_, us, _, rfl, rfl, SqL.of h1, flat_up w f h⟩
  · exact .inr (ok x y vx vy H G R Q rx ry w h f)
theorem w_eqLS {p : Addr} {xs : List DV} {z : Str} {G : DG} {Q : DK} (e : G p = some (.lst xs)) (h : Q (.bl false) G) : bEqLS (.ref p) (.str z) G Q := .inl ⟨p, xs, z, rfl, rfl, e, h⟩
theorem w_eqLSs {a b : Str} {G : DG} {Q : DK} (h : Q (.bl (decide (a = b))) G) : bEqLS (.str a) (.str b) G Q := .inr (w_eqSS h)
end
end DD
/-! xs != [] of any list -/
namespace DD
open PySem PySem.Spec PyProof.Rows PySem.W L2 SX Cm
def rNeNil (K : Frag) : R2 := fun x y H Q => ∃ a b xs, x = .ref a ∧ y = .ref b ∧ SqL K H a xs ∧ SqL K H b [] ∧ Q (.bl (!xs.isEmpty)) H
section
variable {X : Cx}
theorem op_neNil (hu : X.A.units + 64 < cLine) : OpR X (compareOp .NotEq) (rNeNil X.K) := by
  intro pins s σ H x y v u Q I rx ry h
  obtain ⟨a, b, xs, rfl, rfl, ha, hb, q⟩ := h
  cases xs with
  | nil => exact op_neD hu pins s σ H _ _ v u Q I rx ry ⟨.list [], .list [], .lst ha .nil, .lst hb .nil, rfl, rfl, q⟩
  | cons z t =>
    cases rx
    cases ry
    obtain ⟨us, r1, p1, _⟩ := I.list ha
    obtain ⟨ws, r2, p2, _⟩ := I.list hb
    cases r2
    cases r1 with
    | cons h1 t1 => exact SeqAt.RcNeAt.lists_lengths p1.isList p2.isList (by simp) (by omega) _ _ _ _ ⟨.bl true, H, I, rfl, q⟩
def bNeNil : D2 := fun x y G Q => ∃ p q xs, x = .ref p ∧ y = .ref q ∧ G p = some (.lst xs) ∧ G q = some (.lst []) ∧ Q (.bl (!xs.isEmpty)) G
theorem od_neNil (hu : X.A.units + 64 < cLine) : OpD X (compareOp .NotEq) bNeNil := by
  refine ⟨_, op_neNil hu, fun x y vx vy H G R Q rx ry w h f => ?_⟩
  obtain ⟨p, q, xs, rfl, rfl, e1, e2, h⟩ := h
  cases rx
  cases ry
  obtain ⟨us, h1, r1⟩ := wd_list w e1
  obtain ⟨vs, h2, r2⟩ := wd_list w e2
  cases r2
  exact ⟨_, _, us, rfl, rfl, SqL.of h1, SqL.of h2, by rw [r1.isEmpty]; exact flat_up w f h⟩
theorem w_neNil {p q : Addr} {xs : List DV} {G : DG} {Q : DK} (e1 : G p = some (.lst xs)) (e2 : G q = some (.lst [])) (h : Q (.bl (!xs.isEmpty)) G) : bNeNil (.ref p) (.ref q) G Q := ⟨p, q, xs, rfl, rfl, e1, e2, h⟩
end
end DD
/-! None in a list of tuples and Nones -/
namespace DD
open PySem PySem.Spec PyProof.Rows PySem.W L2 SX Cm
def nonV : V → Bool
  | .non => true
  | _ => false
def nonD : DV → Bool
  | .non => true
  | _ => false
def nonU : Value → Bool
  | .none => true
  | _ => false
def TupN (K : Frag) (H : Hp) (v : V) : Prop := v = .non ∨ ∃ b ys, v = .ref b ∧ SqT K H b ys
def rInNone (K : Frag) : R2 := fun x y H Q => ∃ a xs, x = .non ∧ y = .ref a ∧ SqL K H a xs ∧ (∀ v ∈ xs, TupN K H v) ∧ Q (.bl (xs.any nonV)) H
theorem in1_units (A : Around) : A.in1.units ≤ A.units + 1 := by
  show A.units + 1 ≤ A.units + 1
  exact Nat.le_refl _
theorem vals_mem {xs : List V} {us : List Value} (r : Vals xs us) : ∀ y ∈ us, ∃ v ∈ xs, RelV v y := by
  induction r with
  | nil => intro y h; cases h
  | cons h t ih =>
    intro y hy
    rcases List.mem_cons.mp hy with rfl | hy
    · exact ⟨_, List.mem_cons_self .., h⟩
    · obtain ⟨v, hv, hr⟩ := ih y hy
      exact ⟨v, List.mem_cons_of_mem _ hv, hr⟩
section
variable {X : Cx}
theorem op_inNone (hu : X.A.units + 65 < cLine) : OpR X (compareOp .In) (rInNone X.K) := by
  intro pins s σ H x y v u Q I rx ry h
  obtain ⟨a, xs, rfl, rfl, ha, ht, q⟩ := h
  cases rx
  cases ry
  obtain ⟨us, r1, p1, _l⟩ := I.list ha
  clear _l
  have e : xs.any nonV = us.toArray.any nonU := by
    rw [List.any_toArray]
    clear p1 q ha
    induction r1 with
    | nil => rfl
    | cons h t ih =>
      rw [List.any_cons, List.any_cons, ih fun w hw => ht w (List.mem_cons_of_mem _ hw)]
      congr 1
      rcases ht _ (List.mem_cons_self ..) with rfl | ⟨b, ys, rfl, _⟩
      · cases h; rfl
      · cases h; rfl
  rw [e] at q
  refine SeqAt.in_listAt nonU p1.isList (fun y hy => ?_) ⟨.bl _, H, I, rfl, q⟩
  obtain ⟨v, hv, rv⟩ := vals_mem r1 y (by simpa using hy)
  rcases ht v hv with rfl | ⟨b, ys, rfl, hs⟩
  · cases rv
    exact SeqAt.EqAt.same _
  · cases rv
    obtain ⟨ws, r2, p2, _⟩ := I.tuple hs
    exact SeqAt.EqAt.tuple_none p2 (by have := in1_units X.A; omega)
def bInNone : D2 := fun x y G Q => ∃ p ds, x = .non ∧ y = .ref p ∧ G p = some (.lst ds) ∧ (∀ d ∈ ds, d = .non ∨ ∃ es, d = .tup es) ∧ Q (.bl (ds.any nonD)) G
theorem od_inNone (hu : X.A.units + 65 < cLine) : OpD X (compareOp .In) bInNone := by
  refine ⟨_, op_inNone hu, fun x y vx vy H G R Q rx ry w h f => ?_⟩
  obtain ⟨p, ds, rfl, rfl, e, ht, h⟩ := h
  cases rx
  cases ry
  obtain ⟨us, h1, r1⟩ := wd_list w e
  have key : (∀ v ∈ us, TupN X.K H v) ∧ us.any nonV = ds.any nonD := by
    clear h h1 e
    induction ds generalizing us with
    | nil => cases r1; exact ⟨(fun v h => nomatch h), rfl⟩
    | cons d t ih =>
      cases r1 with
      | cons hr tr =>
        obtain ⟨k1, k2⟩ := ih (fun d hd => ht d (List.mem_cons_of_mem _ hd)) _ tr
        have k3 : ∀ v, RV X.K H v d → TupN X.K H v ∧ nonV v = nonD d := fun v hv => by
          rcases ht d (List.mem_cons_self ..) with rfl | ⟨es, rfl⟩
          · cases hv; exact ⟨.inl rfl, rfl⟩
          · cases hv with
            | tup s r => exact ⟨.inr ⟨_, _, rfl, s⟩, rfl⟩
        refine ⟨fun v hv => ?_, ?_⟩
        · rcases List.mem_cons.mp hv with rfl | hv
          · exact (k3 _ hr).1
          · exact k1 v hv
        · rw [List.any_cons, List.any_cons, k2, (k3 _ hr).2]
  exact ⟨_, us, rfl, rfl, SqL.of h1, key.1, flat_up w f (by rw [key.2]; exact h)⟩
theorem w_inNone {p : Addr} {ds : List DV} {G : DG} {Q : DK} (e : G p = some (.lst ds)) (ht : ∀ d ∈ ds, d = .non ∨ ∃ es, d = .tup es) (h : Q (.bl (ds.any nonD)) G) : bInNone .non (.ref p) G Q := ⟨p, ds, rfl, rfl, e, ht, h⟩
end
end DD
/-! comprehensions that let some through, whose conditions and elements may make objects -/
namespace DD
open PySem PySem.W L2 SX Cm
theorem lcs_filt {ds : List DV} {st : DG → Prop} {ld : TL} {tt : TDT} {te : TD} {δ : DSt} {G1 : DG} {Q : DK} (g : DV → Option DV) (hsc : ∀ G, Sub G1 G → st G) (hl : ds.length ≤ 1000000)
    (h : ∀ d ∈ ds, ∀ (G : DG) (k1 : DK) (k0 : DG → Prop), Sub G1 G → (∀ y G', g d = some y → Sub G G' → k1 y G') → (∀ G', g d = none → Sub G G' → k0 G') →
      ld d δ fun δ2 => tt δ2 G fun b G3 => if b = true then te δ2 G3 k1 else k0 G3)
    (q : ∀ p G', G1 p = none → Sub G1 G' → G' p = some (.lst (ds.filterMap g)) → Q (.ref p) G') : LcG ds st ld tt te δ G1 Q := by
  intro p np
  refine ⟨fun i acc G => acc = (ds.take i).filterMap g ∧ acc.length ≤ i ∧ i ≤ ds.length ∧ Sub G1 G ∧ G p = some (.lst acc), ⟨rfl, Nat.le_refl _, Nat.zero_le _, (Sub.refl G1).new np, dupd_same⟩, fun i acc G ⟨_, _, _, s, _⟩ => hsc G s, ?_, ?_⟩
  · rintro i d acc G hd ⟨ea, la, hi, sG, ep⟩
    have hlt : i < ds.length := (List.getElem?_eq_some_iff.mp hd).1
    have et : ds.take (i + 1) = ds.take i ++ [d] := by rw [List.take_add_one, hd]; rfl
    refine h d (List.mem_of_getElem? hd) _ _ _ sG (fun y G' hy s' => ⟨s' _ _ ep, midlt (by omega), ?_, ?_, hlt, sub_up (Upd.mk (G := G') (p := p)) (sG.trans s') np, dupd_same⟩) fun G' hy s' => ⟨?_, by omega, hlt, sG.trans s', s' _ _ ep⟩
    · rw [et, List.filterMap_append, ← ea]
      show acc ++ [y] = acc ++ List.filterMap g [d]
      rw [List.filterMap_cons_some hy]; rfl
    · rw [List.length_append]; show acc.length + 1 ≤ i + 1; omega
    · rw [et, List.filterMap_append, ← ea]
      show acc = acc ++ List.filterMap g [d]
      rw [List.filterMap_cons_none hy]; show acc = acc ++ []; rw [List.append_nil]
  · rintro acc G ⟨ea, la, hi, sG, ep⟩
    rw [List.take_length] at ea
    subst ea
    exact q p G np sG ep
end DD
set_option maxHeartbeats 1000000
namespace K64
open PySem PySem.W L2 SX Cm DD
local macro_rules | `(tactic| walk_at "d1") => `(tactic| first | (with_reducible refine w_go ?_) | ((with_reducible show dVar _ _ _ _); refine w_var rfl ?_) | (with_reducible refine w_exI ?_) | (with_reducible refine w_exB ?_) | (with_reducible refine w_exT ?_) | (with_reducible refine w_exS ?_) | (with_reducible refine w_parE ?_) | (with_reducible refine ly1 ?_) | (with_reducible refine ly2 ?_) | (with_reducible refine lt1' ?_) | (with_reducible refine lt2' ?_) | (with_reducible refine wx_enumT ?_) | (with_reducible refine w_callX ?_) | (with_reducible refine w_methX ?_) | (with_reducible refine w_raise ?_) | (with_reducible refine w_try ?_) | (with_reducible refine w_xSet ?_) | (with_reducible refine w_xExpr ?_) | (with_reducible refine w_xLst ?_) | (with_reducible refine w_xTup ?_) | (with_reducible refine w_xCons ?_) | (with_reducible refine w_xNil ?_) | (with_reducible refine w_xE ?_) | (with_reducible refine w_xCall ?_) | (with_reducible refine w_call0 ?_) | (with_reducible refine w_asgL ?_) | (with_reducible refine w_tupPd ?_) | (with_reducible refine wi_zip ?_) | (with_reducible refine w_delT ?_) | (with_reducible refine w_dc ?_) | (with_reducible refine w_revL ?_) | (with_reducible refine wi_revT ?_) | (with_reducible refine w_lstZip ?_) | (with_reducible refine w_chain ?_) | (with_reducible refine w_orT ?_) | (with_reducible refine w_try0 ?_) | (with_reducible refine w_xAsg ?_) | (with_reducible refine wi_zipTL ?_) | (with_reducible refine wi_zipSL ?_) | ((with_reducible show gT _ _ _ _ _ _); refine g_T ?_ rfl) | ((with_reducible show ∃ p, DV.ref _ = _ ∧ (∃ kvs, _) ∧ _); refine wx_get (by walk_at "gq") ?_) | ((with_reducible show ∃ kvs z, _ = _ ∧ _ = some (DO.dct _) ∧ _); refine wx_get2 (by walk_at "gq") ?_) | ((with_reducible show ∃ p kvs z, _ = _ ∧ _ = _ ∧ _ = some (DO.dct _) ∧ _); refine wx_in (by walk_at "gq") ?_) | ((with_reducible show List.length _ = _ ∧ _); refine w_len ?_ rfl) | ((with_reducible show List.length _ ≤ sizeLine ∧ _); refine w_sz ?_ (szl rfl)) | ((with_reducible show bIx _ (.int _) _ _); first | refine w_ix0 ?_ | refine w_ix1 ?_ | refine w_ix2 ?_ | refine w_ix3 ?_) | ((with_reducible show bIsi [_, _] _ _); first | refine w_isi (by decide) (a := "tuple") rfl rfl ?_ | refine w_isi (by decide) (a := "str") rfl rfl ?_ | refine w_isi (by decide) (a := "int") rfl rfl ?_ | refine w_isi (by decide) (a := "bool") rfl rfl ?_ | refine w_isi (by decide) (a := "NoneType") rfl rfl ?_) | ((with_reducible show ∃ ds, _ = DV.tup ds ∧ _); refine w_exT ?_) | ((with_reducible show ∃ z, _ = DV.str z ∧ _); refine w_exS ?_) | ((with_reducible show ∃ ds, [_] = [DV.tup ds] ∧ _); refine wx_enumT ?_) | ((with_reducible show bSl _ _ _ _ _); refine w_slT ?_) | ((with_reducible show bTuple [_] _ _); refine w_tupT ?_) | ((with_reducible show bLen [_] _ _); refine w_lenT ?_) | ((with_reducible show bTru _ _ _); first | refine w_truT ?_ | refine w_truN ?_ | refine w_truB ?_ | refine w_truI ?_) | ((with_reducible show bEq _ _ _ _ _); first | refine w_eqSS ?_ | refine w_eqII ?_ | refine w_neSS ?_ | refine w_neII ?_ | refine w_eqT0 ?_) | ((with_reducible show bInt _ _ (.int _) (.int _) _ _); refine w_int (by first | decide | exact ⟨by decide, by decide, by decide⟩ | exact .inl ⟨by decide, by decide⟩ | exact .inr ⟨by decide, by decide⟩) ?_) | ((with_reducible show if _ = true then _ else _); first | refine w_it (by first | rfl | decide +kernel) ?_ | refine w_if0 (by first | rfl | decide +kernel) ?_) | ((with_reducible show rcv "list" (.ref _) _ ∧ _); refine w_rcvL (by walk_at "gq") ?_) | ((with_reducible show bTuple [.ref _] _ _); refine w_tupL (by walk_at "gq") ?_) | ((with_reducible show bLen [.ref _] _ _); refine w_lenL (by walk_at "gq") ?_) | ((with_reducible show bTru (.ref _) _ _); refine w_truL (by walk_at "gq") ?_) | ((with_reducible show ∃ _ _, DV.ref _ = _ ∧ Ls _ _ _ ∧ _); refine wx_lst (by walk_at "gq") ?_) | ((with_reducible show ∃ _ _, [DV.ref _] = _ ∧ Ls _ _ _ ∧ _); refine wx_lstA (by walk_at "gq") ?_))
local macro_rules | `(tactic| walk_at "dd") => `(tactic| repeat (walk_at "d1"))
local macro_rules | `(tactic| walk_at "gq") => `(tactic| first | assumption | exact dupd_same | exact sub_get (by assumption) (by walk_at "gq") | exact upd_get (by assumption) (by walk_at "gq") (by walk_at "gn") | exact subx_get (by assumption) (by walk_at "gq") (by walk_at "gn") | (refine (dupd_ne ?_).trans ?_; (focus walk_at "gn"); walk_at "gq"))
local macro_rules | `(tactic| walk_at "gs") => `(tactic| first | assumption | exact Sub.refl _ | exact sub_tr (by assumption) (by walk_at "gs") | exact sub_up (by assumption) (by walk_at "gs") (by walk_at "g0") | exact sub_ux (by assumption) (by walk_at "gs") (by walk_at "g0") | (refine Sub.new ?_ ?_; (focus walk_at "gs"); walk_at "g0"))
local macro_rules | `(tactic| walk_at "gk") => `(tactic| first | assumption | exact db_sub (by assumption) (by walk_at "gk") | exact db_upd (by assumption) (by walk_at "gk") ⟨_, by walk_at "gq"⟩ | exact db_updD (by assumption) (by walk_at "gk") ⟨_, by walk_at "gq"⟩)
local macro_rules | `(tactic| walk_at "gu") => `(tactic| first | assumption | exact Upd.refl _ _ | exact upd_in (by assumption) (by walk_at "gu"))
local macro_rules | `(tactic| walk_at "gx") => `(tactic| first | assumption | exact SubX.refl _ _ | exact subx_sub (by assumption) (by walk_at "gx") | exact subx_upd (by assumption) (by walk_at "gx") | exact subx_tr (by assumption) (by walk_at "gx"))
local macro_rules | `(tactic| walk_at "gn") => `(tactic| first | assumption | exact Ne.symm (by assumption) | exact ne_ns (by assumption) ⟨_, by walk_at "gq"⟩ | exact ne_sn (by assumption) ⟨_, by walk_at "gq"⟩)
local macro_rules | `(tactic| walk_at "g0") => `(tactic| first | assumption | exact nn_ (by assumption) (by walk_at "gs"))
theorem nOs_get : ∀ {ops : List Op} {i : Nat} {o : Op}, ops[i]? = some o → nO o ≤ nOs ops
  | p :: r, 0, o, h => by cases h; show nO p ≤ max (nO p) (nOs r); omega
  | p :: r, i + 1, o, h => by have := nOs_get (ops := r) (i := i) h; show nO o ≤ max (nO p) (nOs r); omega
theorem drop_at {ops : List Op} {i : Nat} {o : Op} (h : ops[i]? = some o) : ops.drop i = o :: ops.drop (i + 1) := by
  have hi := (List.getElem?_eq_some_iff.mp h).1
  rw [List.drop_eq_getElem_cons hi]
  have e : ops[i] = o := by rw [List.getElem?_eq_getElem hi] at h; exact Option.some.inj h
  rw [e]
theorem told_cons (o : Op) (r : List Op) (fs : List Th) : toldOs (o :: r) fs = (match toldO o fs with | .ok m => if m.any bigT = true then .big else toldOs r (fs ++ m) | .no => .no | .big => .big) := rfl
mutual
theorem eT_inj : ∀ (a b : Th), eT a = eT b → a = b
  | .num x, .num y, h => by
    have h : DV.tup [.str "number", .int x] = DV.tup [.str "number", .int y] := h
    injection h with h
    injection h with h1 h2
    injection h2 with h2 _
    injection h2 with h2
    rw [h2]
  | .num x, .row y, h => by
    have h : DV.tup [.str "number", .int x] = DV.tup [.str "row", .tup (eWs y)] := h
    injection h with h
    injection h with h1 h2
    injection h1 with h1
    exact absurd h1 (by decide +kernel)
  | .num x, .lst y, h => by
    have h : DV.tup [.str "number", .int x] = DV.tup [.str "list", .tup (eTs y)] := h
    injection h with h
    injection h with h1 h2
    injection h1 with h1
    exact absurd h1 (by decide +kernel)
  | .row x, .num y, h => by
    have h : DV.tup [.str "row", .tup (eWs x)] = DV.tup [.str "number", .int y] := h
    injection h with h
    injection h with h1 h2
    injection h1 with h1
    exact absurd h1 (by decide +kernel)
  | .row x, .row y, h => by
    have h : DV.tup [.str "row", .tup (eWs x)] = DV.tup [.str "row", .tup (eWs y)] := h
    injection h with h
    injection h with h1 h2
    injection h2 with h2 _
    injection h2 with h2
    rw [eWs_inj x y h2]
  | .row x, .lst y, h => by
    have h : DV.tup [.str "row", .tup (eWs x)] = DV.tup [.str "list", .tup (eTs y)] := h
    injection h with h
    injection h with h1 h2
    injection h1 with h1
    exact absurd h1 (by decide +kernel)
  | .lst x, .num y, h => by
    have h : DV.tup [.str "list", .tup (eTs x)] = DV.tup [.str "number", .int y] := h
    injection h with h
    injection h with h1 h2
    injection h1 with h1
    exact absurd h1 (by decide +kernel)
  | .lst x, .row y, h => by
    have h : DV.tup [.str "list", .tup (eTs x)] = DV.tup [.str "row", .tup (eWs y)] := h
    injection h with h
    injection h with h1 h2
    injection h1 with h1
    exact absurd h1 (by decide +kernel)
  | .lst x, .lst y, h => by
    have h : DV.tup [.str "list", .tup (eTs x)] = DV.tup [.str "list", .tup (eTs y)] := h
    injection h with h
    injection h with h1 h2
    injection h2 with h2 _
    injection h2 with h2
    rw [eTs_inj x y h2]
theorem eW_inj : ∀ (a b : Wo), eW a = eW b → a = b
  | .txt z, .txt y, h => by
    have h : DV.str z = .str y := h
    injection h with h
    rw [h]
  | .push x, .push y, h => by
    have h : DV.tup [.str "push", eT x] = .tup [.str "push", eT y] := h
    injection h with h
    injection h with _ h
    injection h with h _
    rw [eT_inj x y h]
  | .txt z, .push y, h => by have h : DV.str z = .tup [.str "push", eT y] := h; cases h
  | .push x, .txt y, h => by have h : DV.tup [.str "push", eT x] = .str y := h; cases h
theorem eWs_inj : ∀ (a b : List Wo), eWs a = eWs b → a = b
  | [], [], _ => rfl
  | [], y :: s, h => by have h : ([] : List DV) = eW y :: eWs s := h; cases h
  | x :: r, [], h => by have h : eW x :: eWs r = ([] : List DV) := h; cases h
  | x :: r, y :: s, h => by
    have h : eW x :: eWs r = eW y :: eWs s := h
    injection h with h1 h2
    rw [eW_inj x y h1, eWs_inj r s h2]
theorem eTs_inj : ∀ (a b : List Th), eTs a = eTs b → a = b
  | [], [], _ => rfl
  | [], y :: s, h => by have h : ([] : List DV) = eT y :: eTs s := h; cases h
  | x :: r, [], h => by have h : eT x :: eTs r = ([] : List DV) := h; cases h
  | x :: r, y :: s, h => by
    have h : eT x :: eTs r = eT y :: eTs s := h
    injection h with h1 h2
    rw [eT_inj x y h1, eTs_inj r s h2]
end
noncomputable def gB (d : DV) : Option DV := @ite _ (∃ t, d = eT t ∧ bigT t = true) (Classical.propDecidable _) (some d) none
theorem non_eTs : ∀ ts : List Th, (eTs ts).any nonD = false
  | [] => rfl
  | t :: r => by
    show (nonD (eT t) || (eTs r).any nonD) = false
    rw [non_eTs r, eT_eq]; rfl
theorem gB_yes {t : Th} (h : bigT t = true) : gB (eT t) = some (eT t) := by unfold gB; exact @if_pos _ (Classical.propDecidable _) ⟨t, rfl, h⟩ _ _ _
theorem gB_no {t : Th} (h : bigT t = false) : gB (eT t) = none := by
  unfold gB
  refine @if_neg _ (Classical.propDecidable _) ?_ _ _ _
  rintro ⟨t2, e, hb⟩
  rw [← eT_inj _ _ e, h] at hb; cases hb
theorem gB_emp {m : List Th} (h : m.any bigT = false) : (eTs m).filterMap gB = [] := by
  refine List.filterMap_eq_nil_iff.mpr fun d hd => ?_
  rw [eTs_map] at hd
  obtain ⟨t, ht, rfl⟩ := List.mem_map.mp hd
  unfold gB
  refine @if_neg _ (Classical.propDecidable _) ?_ _ _ _
  rintro ⟨t2, e, hb⟩
  rw [← eT_inj _ _ e] at hb
  have := List.any_eq_false.mp h t ht
  exact this hb
theorem gB_ne {m : List Th} (h : m.any bigT = true) : (eTs m).filterMap gB ≠ [] := by
  obtain ⟨t, ht, hb⟩ := List.any_eq_true.mp h
  intro e
  have := List.filterMap_eq_nil_iff.mp e (eT t) (by rw [eTs_map]; exact List.mem_map_of_mem ht)
  unfold gB at this
  rw [@if_pos _ (Classical.propDecidable _) ⟨t, rfl, hb⟩] at this
  cases this
theorem strOk_of {z : Str} (h : ∀ c ∈ z.cps.toList, c < 1114112) : PyData.strOk z = true := by
  show z.cps.all _ = true
  rw [Array.all_eq_true']
  intro c hc
  exact decide_eq_true (h c (by simpa using hc))
theorem bk_ok : ∀ z ∈ BKL, PyData.strOk z = true := by decide +kernel
theorem wd_ok {z : Str} (h : WD z) : PyData.strOk z = true := by
  rcases h with h | ⟨n, ps, rfl, hs⟩
  · exact bk_ok z h
  · refine strOk_of fun c hc => ?_
    have hc : c ∈ TL.tl (shT n ps) := hc
    rw [shT_S, tl_S'] at hc
    have hn := hs.hn
    rcases List.mem_append.mp hc with h | h
    · obtain ⟨x, hx, rfl⟩ := List.mem_map.mp h
      have := List.mem_range.mp hx
      omega
    · rcases List.mem_cons.mp h with rfl | h
      · decide
      · obtain ⟨x, hx, rfl⟩ := List.mem_map.mp h
        have := hs.hp x hx
        omega
mutual
theorem okT_tx : ∀ t : Th, okT t → txT t = true
  | .num _, _ => rfl
  | .row ws, h => okWs_tx ws h
  | .lst ts, h => okTs_tx ts h
theorem okW_tx : ∀ w : Wo, okW w → txW w = true
  | .txt z, h => wd_ok h
  | .push t, h => okT_tx t h
theorem okWs_tx : ∀ ws : List Wo, okWs ws → txWs ws = true
  | [], _ => rfl
  | w :: r, h => by show (txW w && txWs r) = true; rw [okW_tx w h.1, okWs_tx r h.2]; rfl
theorem okTs_tx : ∀ ts : List Th, okTs ts → txTs ts = true
  | [], _ => rfl
  | w :: r, h => by show (txT w && txTs r) = true; rw [okT_tx w h.1, okTs_tx r h.2]; rfl
end
theorem op_tx {z : Str} {ts : List Th} {t : Th} (h : opT z ts = some t) (ht : txTs ts = true) : txT t = true := by
  unfold opT at h
  split at h
  · obtain ⟨n, _, rfl⟩ := Option.map_eq_some_iff.mp h
    rfl
  · rename_i us x
    split at h
    · cases h
      show txTs (us ++ [x]) = true
      rw [txTs_app]
      exact ht
    · cases h
  · rename_i p q
    split at h
    · cases h
      show txWs (p ++ q) = true
      rw [txWs_app]
      have ht : (txWs p && (txWs q && true)) = true := ht
      rwa [Bool.and_true] at ht
    · cases h
  · split at h
    · cases h
      have ht : (txT _ && true) = true := ht
      show ((txT _) && true) = true
      exact ht
    · cases h
  · cases h
/-- a cell of the law's own reckoning is small -/
def Gs (t : Th) : Prop := szT t ≤ 900 ∧ dpT t ≤ 90 ∧ Top t ∧ txT t = true
theorem Gs.gd {t : Th} (h : Gs t) : Gd t := ⟨by have := h.1; omega, by have := h.2.1; omega, h.2.2.1⟩
theorem small_gs {t : Th} (h : bigT t = false) (tp : Top t ∧ txT t = true) : Gs t := by
  unfold bigT at h
  rw [Bool.or_eq_false_iff] at h
  have h1 := of_decide_eq_false h.1
  have h2 := of_decide_eq_false h.2
  exact ⟨by omega, by omega, tp⟩
theorem szTs_gs : ∀ {ts : List Th}, (∀ t ∈ ts, Gs t) → szTs ts ≤ 900 * ts.length ∧ dpTs ts ≤ 90 ∧ txTs ts = true
  | [], _ => ⟨Nat.le_refl 0, Nat.zero_le _, rfl⟩
  | t :: r, h => by
    obtain ⟨a, b, c⟩ := szTs_gs (ts := r) fun x hx => h x (List.mem_cons_of_mem _ hx)
    obtain ⟨d, e, _, f⟩ := h t (List.mem_cons_self ..)
    refine ⟨?_, ?_, ?_⟩
    · show szT t + szTs r ≤ 900 * (r.length + 1); omega
    · show max (dpT t) (dpTs r) ≤ 90; omega
    · show (txT t && txTs r) = true; rw [f, c]; rfl
theorem gs_at {fs : List Th} {i : Nat} (h : ∀ t ∈ fs, Gs t) (hi : i < fs.length) : Gs (atT fs i) := h _ (atT_mem hi)
theorem gs_map {fs : List Th} {cs : List Nat} (h : ∀ t ∈ fs, Gs t) (hc : ∀ c ∈ cs, c < fs.length) : ∀ t ∈ cs.map (atT fs), Gs t := fun t ht => by
  obtain ⟨c, h1, rfl⟩ := List.mem_map.mp ht
  exact gs_at h (hc c h1)
theorem mak_two : ∀ z ∈ MAK, z ≠ "wrap" → (srt z).length = 2 := by decide +kernel
theorem mak_le : ∀ z ∈ MAK, (srt z).length ≤ 2 := by decide +kernel
mutual
theorem gsC : ∀ (cd : Cd) (ts ms : List Th), okC cd → (∀ t ∈ ts, Gs t) → toldC cd ts = .ok ms → (∀ t ∈ ms, Gs t) ∧ ms.length = (usC cd).length
  | .mk t ops us, ts, ms, hc, hg, h => by
    have h : (if ts.length = t then (match toldOs ops ts with | .ok fs => Oc.ok (us.map (atT fs)) | .no => .no | .big => .big) else .no) = Oc.ok ms := h
    by_cases hl : ts.length = t
    · rw [if_pos hl] at h
      cases e : toldOs ops ts with
      | no => rw [e] at h; cases h
      | big => rw [e] at h; cases h
      | ok fs =>
        rw [e] at h
        cases h
        obtain ⟨a, b⟩ := gsOs ops ts fs (by rw [hl]; exact hc.1) hg e
        exact ⟨gs_map a fun c h1 => by rw [b, hl]; exact hc.2.1 c h1, by rw [List.length_map]; rfl⟩
    · rw [if_neg hl] at h; cases h
theorem gsO : ∀ (o : Op) (fs ms : List Th), okO fs.length o → (∀ t ∈ fs, Gs t) → toldO o fs = .ok ms → ms.length = made o ∧ (∀ t ∈ ms, Top t ∧ txT t = true) ∧ (∀ t ∈ ms, szT t ≤ 5000 ∧ dpT t ≤ 94)
  | .push t, fs, ms, ho, hg, h => by
    have h : Oc.ok [t] = .ok ms := h
    cases h
    refine ⟨rfl, fun x hx => ?_, fun x hx => ?_⟩
    · rw [List.mem_singleton.mp hx]
      refine ⟨fun n e => ?_, okT_tx t ho.1⟩
      have := ho.1
      rw [e] at this; exact this
    · rw [List.mem_singleton.mp hx]
      have := ho.2
      omega
  | .mk w cs, fs, ms, ho, hg, h => by
    have h : (match opT w (cs.map (atT fs)) with | some t => Oc.ok [t] | none => Oc.no) = .ok ms := h
    cases e : opT w (cs.map (atT fs)) with
    | none => rw [e] at h; cases h
    | some t =>
      rw [e] at h
      cases h
      obtain ⟨s1, s2, s3⟩ := op_sz e
      obtain ⟨g1, g2, g3⟩ := szTs_gs (gs_map hg ho.2.2)
      rw [List.length_map, ho.2.1] at g1
      have := mak_le w ho.1
      refine ⟨rfl, fun x hx => ?_, fun x hx => ?_⟩
      · rw [List.mem_singleton.mp hx]
        exact ⟨s3, op_tx e g3⟩
      · rw [List.mem_singleton.mp hx]
        omega
  | .ite c as a b, fs, ms, ho, hg, h => by
    have h : (match atT fs c with | .num n => if n = 0 then toldC b (as.map (atT fs)) else toldC a (as.map (atT fs)) | _ => .no) = Oc.ok ms := h
    obtain ⟨hc, ha, la, ta, tb, hu, oA, oB⟩ := ho
    have key : (∀ t ∈ ms, Gs t) ∧ ms.length = (usC a).length := by
      cases e : atT fs c with
      | row _ => rw [e] at h; cases h
      | lst _ => rw [e] at h; cases h
      | num n =>
        rw [e] at h
        by_cases n0 : n = 0
        · have h : (if n = 0 then toldC b (as.map (atT fs)) else toldC a (as.map (atT fs))) = Oc.ok ms := h
          rw [if_pos n0] at h
          obtain ⟨x, y⟩ := gsC b _ ms oB (gs_map hg ha) h
          exact ⟨x, y.trans hu.symm⟩
        · have h : (if n = 0 then toldC b (as.map (atT fs)) else toldC a (as.map (atT fs))) = Oc.ok ms := h
          rw [if_neg n0] at h
          exact gsC a _ ms oA (gs_map hg ha) h
    exact ⟨key.2, fun t ht => (key.1 t ht).2.2, fun t ht => by have := key.1 t ht; have := this.1; have := (key.1 t ht).2.1; omega⟩
theorem gsOs : ∀ (ops : List Op) (fs gs : List Th), okOs fs.length ops → (∀ t ∈ fs, Gs t) → toldOs ops fs = .ok gs → (∀ t ∈ gs, Gs t) ∧ gs.length = fin fs.length ops
  | [], fs, gs, _, hg, h => by
    have h : Oc.ok fs = .ok gs := h
    cases h
    exact ⟨hg, rfl⟩
  | o :: r, fs, gs, ho, hg, h => by
    rw [told_cons] at h
    cases e : toldO o fs with
    | no => rw [e] at h; cases h
    | big => rw [e] at h; cases h
    | ok m =>
      rw [e] at h
      have h : (if m.any bigT = true then Oc.big else toldOs r (fs ++ m)) = .ok gs := h
      cases hb : m.any bigT with
      | true => rw [hb, if_pos rfl] at h; cases h
      | false =>
        rw [hb, if_neg Bool.false_ne_true] at h
        obtain ⟨a, b, _⟩ := gsO o fs m ho.1 hg e
        obtain ⟨x, y⟩ := gsOs r (fs ++ m) gs (by rw [List.length_append, a]; exact ho.2) (fun t ht => by
          rcases List.mem_append.mp ht with ht | ht
          · exact hg t ht
          · exact small_gs (by cases e : bigT t with | false => rfl | true => exact absurd e (List.any_eq_false.mp hb t ht)) (b t ht)) h
        exact ⟨x, by rw [y, List.length_append, a]; rfl⟩
end
section
variable {P : Program} {w : World} {K : Frag} {mg : Str → Option Value} {base : Heap}
def SP_lt (k : Nat) : DSp := fun ds G R => ∃ (cd : Cd) (p : Addr) (ts : List Th), ds = [eC cd, .ref p] ∧ G p = some (.lst (eTs ts)) ∧ okC cd ∧ nC cd < k ∧ ts.length ≤ 90 ∧ (∀ t ∈ ts, Gs t) ∧ (toldC cd ts = .no → R .non G) ∧ (toldC cd ts = .big → R (.str "great") G) ∧ (∀ ms, toldC cd ts = .ok ms → ∀ q G', DD.Sub G G' → G' q = some (.lst (eTs ms)) → R (.ref q) G')
/-- a round of the loop in _law_told: the cells at q -/
def Rd (G : DG) (t : Nat) (ops : List Op) (O : Oc) (p : Addr) (us : List Nat) (i : Nat) (δ : DSt) (G' : DG) : Prop := ∃ (q : Addr) (cells : List Th) (x3 x4 : Option DV), δ = [some (.tup [.int (t : Int), .tup (eOs ops), .tup (us.map nI)]), some (.ref p), some (.ref q), x3, x4, none, none] ∧ G' q = some (.lst (eTs cells)) ∧ DD.Sub G G' ∧
  okOs cells.length (ops.drop i) ∧ fin cells.length (ops.drop i) = fin t ops ∧ (∀ t ∈ cells, Gs t) ∧ toldOs (ops.drop i) cells = O
theorem hu65_ {k : Nat} {A : Around} (h : Room k A) : A.units + 65 < cLine := by have := h.un; omega
abbrev N_L_told : List Str := ["_law_code_here", "_law_things", "_law_found", "_law_op_here", "_law_made_here", "_law_k", "_law_thing_here"]
abbrev A_L_told : List Str := ["_law_code_here", "_law_things"]
theorem sc_L_told : FnScope N_L_told A_L_told (defScope s_L_told) := ⟨rfl, rfl, rfl, by decide +kernel, rfl, by decide +kernel, by decide +kernel⟩
theorem h_L_told {k l : Nat} (a : At K mg "_law_told" s_L_told A_L_told) (l96 : 96 ≤ l) (B : BI mg) (c_L_told : Has P w K mg base l "_law_told" A_L_told (SP_lt k)) (c_L_pair_op : Has P w K mg base 1 "_law_pair_op" A_L_pair_op SP_po) (c_L_deep : Has P w K mg base 96 "_law_deep" A_L_deep (SP_deep 95)) (c_L_size : Has P w K mg base 96 "_law_size" A_L_size (SP_size 95)) : Has P w K mg base (l + 1) "_law_told" A_L_told (SP_lt (k + 1)) := by
  refine at_mk a sc_L_told fun f cdv A outer s H E hr ds G R hl h => ?_
  refine ⟨_, (dss_cons (ds_if (dt_cmp (od_ne hr.units) (de_callB cd_len B.len rfl (by decide +kernel) (da_cons (dv 1) da_nil)) (de_ix (dv 0) de_int) (nomark _)) (dss_one (ds_ret de_non)) dss_nil)
    (dss_cons (ds_set (i := 2) sc_L_told.nd rfl (.inr rfl) (de_callTy cd_list B.lst rfl (by decide +kernel) (da_cons (dv 1) da_nil)))
    (dss_cons (ds_for PassesOwn.never rfl (di_tup (de_ix (dv 0) de_int)) (dg_name (i := 3) sc_L_told.nd rfl (.inl rfl)) (dss_cons (ds_if (dt_cmp (od_eq hr.units) (de_ix (dv 3) de_int) de_str (nomark _)) (dss_one (ds_set (i := 4) sc_L_told.nd rfl (.inl rfl) (de_lst (da_cons (de_ix (dv 3) de_int) da_nil)))) (dss_one (ds_if (dt_cmp (od_eq hr.units) (de_ix (dv 3) de_int) de_str (nomark _)) (dss_one (ds_set (i := 4) sc_L_told.nd rfl (.inl rfl) (de_lst (da_cons (de_tup (da_cons de_str (da_cons (de_tup (da_cons (de_tup (da_cons de_str (da_cons (de_ix (dv 2) (de_ix (dv 3) de_int)) da_nil))) da_nil)) da_nil))) da_nil)))) (dss_one (ds_if (dt_cmp (od_eq hr.units) (de_ix (dv 3) de_int) de_str (nomark _)) (dss_cons (ds_if (dt_cmp (od_ne hr.units) (de_ix (de_ix (dv 2) (de_ix (dv 3) de_int)) de_int) de_str (nomark _)) (dss_one (ds_ret de_non)) dss_nil)
            (dss_one (ds_set (i := 4) sc_L_told.nd rfl (.inl rfl) (de_call c_L_told (hr.mono (by omega)) rfl (da_cons (de_ix (dv 3) (de_op od_add de_int (de_callTy cd_int B.int rfl (by decide +kernel) (da_cons (de_cmp (od_eq hr.units) (de_ix (de_ix (dv 2) (de_ix (dv 3) de_int)) de_int) de_int (nomark _)) da_nil)))) (da_cons (de_lc (own := [("_law_k", 5)]) (lt1 (i := 5) (by decide)) rfl sc_L_told.nd (di_tup (de_ix (dv 3) de_int)) (blkOk_by (own := [("_law_k", 5)]) (N := N_L_told) (sc := defScope s_L_told) (by decide +kernel)) (fun _ _ _ _ _ => pg_name (i := 5) sc_L_told.nd rfl (Or.inl rfl)) (fun _ _ _ _ _ => dts_nil) (fun _ _ _ _ _ => (de_ix (dv 2) (dv 5)))) da_nil)))))) (dss_one (ds_set (i := 4) sc_L_told.nd rfl (.inl rfl) (de_lst (da_cons (de_call c_L_pair_op (hr.mono (by omega)) rfl (da_cons (de_ix (dv 3) de_int) (da_cons (de_ix (dv 2) (de_ix (dv 3) de_int)) (da_cons (de_ix (dv 2) (de_ix (dv 3) de_int)) da_nil)))) da_nil)))))))))
      (dss_cons (ds_if (dt_w (dw_or (dt_cmp od_is (dv 4) de_non (nomark _)) (dw_or1 (dt_cmp (od_eqLS hr.units) (dv 4) de_str (nomark _))))) (dss_one (ds_ret (dv 4))) dss_nil)
      (dss_cons (ds_if (dt_cmp (od_inNone (hu65_ hr)) de_non (dv 4) rfl) (dss_one (ds_ret de_non)) dss_nil)
      (dss_cons (ds_if (dt_cmp (od_neNil hr.units) (de_lc (own := [("_law_thing_here", 6)]) (lt1 (i := 6) (by decide)) rfl sc_L_told.nd (di_list (dv 4)) (blkOk_by (own := [("_law_thing_here", 6)]) (N := N_L_told) (sc := defScope s_L_told) (by decide +kernel)) (fun _ _ _ _ _ => pg_name (i := 6) sc_L_told.nd rfl (Or.inl rfl)) (fun _ _ _ _ _ => (dts_one (dt_w (dw_or (dt_cmp od_gt (de_call c_L_size (hr.mono (by omega)) rfl (da_cons (de_lst (da_cons (dv 6) da_nil)) da_nil)) de_int (nomark _)) (dw_or1 (dt_cmp od_gt (de_call c_L_deep (hr.mono (by omega)) rfl (da_cons (dv 6) da_nil)) de_int (nomark _))))))) (fun _ _ _ _ _ => (dv 6))) (de_lst da_nil) (nomark _)) (dss_one (ds_ret de_str)) dss_nil)
      (dss_one (ds_set (i := 2) sc_L_told.nd rfl (.inr rfl) (de_op od_add (dv 2) (dv 4)))))))))
    (dss_one (ds_ret (de_lc (own := [("_law_k", 5)]) (lt1 (i := 5) (by decide)) rfl sc_L_told.nd (di_tup (de_ix (dv 0) de_int)) (blkOk_by (own := [("_law_k", 5)]) (N := N_L_told) (sc := defScope s_L_told) (by decide +kernel)) (fun _ _ _ _ _ => pg_name (i := 5) sc_L_told.nd rfl (Or.inl rfl)) (fun _ _ _ _ _ => dts_nil) (fun _ _ _ _ _ => (de_ix (dv 2) (dv 5))))))))), ?_⟩
  obtain ⟨cd, p, ts, rfl, hp, hc, hn, lts, hgd, q1, q2, q3⟩ := h
  cases cd with
  | mk t ops us =>
  have ec : eC (.mk t ops us) = .tup [.int (t : Int), .tup (eOs ops), .tup (us.map nI)] := rfl
  rw [ec]
  have lo7 : ops.length ≤ 7 := hc.2.2.2.1
  have lu5 : us.length ≤ 5 := hc.2.2.2.2
  walk_at "dd"
  rw [eTs_len]
  by_cases hl0 : ts.length = t
  rotate_left
  · refine w_it (by rw [decide_eq_false (by omega)]; rfl) ?_
    walk_at "dd"
    exact Less.of (q1 (by show (if ts.length = t then _ else Oc.no) = _; rw [if_neg hl0]))
  refine w_if0 (by rw [decide_eq_true (by omega)]; rfl) ?_
  walk_at "dd"
  refine w_lstL hp fun p2 n2 => ?_
  refine abs_new n2 fun G1 s1 h1 => ?_
  have eT0 : toldC (.mk t ops us) ts = (match toldOs ops ts with | .ok fs => .ok (us.map (atT fs)) | .no => .no | .big => .big) := by show (if ts.length = t then _ else Oc.no) = _; rw [if_pos hl0] <;> rfl
  rw [eT0] at q1 q2 q3
  generalize hO : toldOs ops ts = O at q1 q2 q3
  walk_at "dd"
  refine for_by (Rd G t ops O p us) (fun _ _ _ _ => trivial) ⟨p2, ts, none, none, rfl, h1, s1, by rw [hl0]; exact hc.1, by rw [hl0]; rfl, hgd, hO⟩ ?_ ?_
  · rintro i y δ G2 hy ⟨q, cells, x3, x4, rfl, hq, s2, hok, hfin, hg, ht⟩
    obtain ⟨o, ho, rfl⟩ : ∃ o, ops[i]? = some o ∧ y = eO o := by
      rw [eOs_map, List.getElem?_map] at hy
      obtain ⟨o, h1, h2⟩ := Option.map_eq_some_iff.mp hy
      exact ⟨o, h1, h2.symm⟩
    have hd := drop_at ho
    rw [hd] at hok hfin ht
    rw [told_cons] at ht
    have l90 : cells.length ≤ 90 := by have := fin_ge (o :: ops.drop (i + 1)) cells.length; have := hc.2.2.1; omega
    cases o with
    | push t1 =>
      have e : eO (.push t1) = .tup [.str "push", eT t1] := rfl
      rw [e]
      walk_at "dd"
      intro pm nm
      refine abs_new nm fun G3 s3 h3 => ?_
      have h3 : G3 pm = some (.lst (eTs [t1])) := h3
      have s3 : DD.Sub G2 G3 := by walk_at "gs"
      have hm : toldO (.push t1) cells = .ok [t1] := rfl
      obtain ⟨hmade, hmt, hmg⟩ := gsO _ cells _ hok.1 hg hm
      have lm5 : ([t1]).length ≤ 1000000 := by show 1 ≤ 1000000; omega
      walk_at "dd"
      refine w_if0 (decide_eq_false (fun z => nomatch z)) ?_
      walk_at "dd"
      refine w_eqLS h3 ?_
      walk_at "dd"
      refine w_inNone h3 (fun d hd => .inr (by
        rw [eTs_map] at hd
        obtain ⟨t9, _, rfl⟩ := List.mem_map.mp hd
        exact ⟨_, eT_eq t9⟩)) ?_
      rw [non_eTs]
      walk_at "dd"
      refine lcs_filt gB (fun G' s => .inl (s _ _ h3)) (by rw [eTs_len]; exact lm5) ?_ ?_
      · intro dd hdd G' k1 k0 s' e1 e0
        rw [eTs_map] at hdd
        obtain ⟨t9, ht9, rfl⟩ := List.mem_map.mp hdd
        walk_at "dd"
        intro p7 n7
        refine abs_new n7 fun G7 s7 h7 => ?_
        have h7 : G7 p7 = some (.lst (eTs [t9])) := h7
        walk_at "dd"
        have gd9 := hmg t9 ht9
        refine .inl ⟨_, [t9], rfl, .inr ⟨p7, rfl, h7⟩, (by show max (dpT t9) 0 < 95; omega), (by show szT t9 + 0 ≤ 100000; omega), ?_⟩
        walk_at "dd"
        by_cases b1 : 300 < szT t9
        · refine w_it (decide_eq_true (by show (300 : Int) < ((szT t9 + 0 : Nat) : Int); omega)) ?_
          walk_at "dd"
          exact e1 _ G7 (gB_yes (by unfold bigT; rw [decide_eq_true b1]; rfl)) s7
        · refine w_if0 (decide_eq_false (by show ¬ ((300 : Int) < ((szT t9 + 0 : Nat) : Int)); omega)) ?_
          walk_at "dd"
          refine ⟨t9, rfl, by omega, by omega, ?_⟩
          walk_at "dd"
          by_cases b2 : 90 < dpT t9
          · refine w_it (decide_eq_true (by omega)) ?_
            walk_at "dd"
            exact e1 _ G7 (gB_yes (by unfold bigT; rw [decide_eq_true b2, Bool.or_true])) s7
          · refine w_if0 (decide_eq_false (by omega)) ?_
            walk_at "dd"
            exact e0 G7 (gB_no (by unfold bigT; rw [decide_eq_false b1, decide_eq_false b2]; rfl)) s7
      intro p8 G8 n8 s8 h8
      walk_at "dd"
      intro p9 n9
      refine abs_new n9 fun G9 s9 h9 => ?_
      refine w_neNil (by walk_at "gq") h9 ?_
      have s29 : DD.Sub G2 G9 := s3.trans (s8.trans s9)
      have hq9 := s29 _ _ hq
      have h39 : G9 pm = some (.lst (eTs ([t1]))) := s9 _ _ (s8 _ _ h3)
      rw [hm] at ht
      have ht : (if ([t1]).any bigT = true then Oc.big else toldOs (ops.drop (i + 1)) (cells ++ [t1])) = O := ht
      refine ⟨_, rfl, ?_⟩
      cases hbig : ([t1]).any bigT with
      | true =>
        rw [hbig, if_pos rfl] at ht
        subst ht
        refine w_it (by cases e : (eTs ([t1])).filterMap gB with | nil => exact absurd e (gB_ne hbig) | cons _ _ => rfl) ?_
        walk_at "dd"
        exact ⟨G, s2.trans s29, q2 rfl⟩
      | false =>
        rw [hbig, if_neg Bool.false_ne_true] at ht
        refine w_if0 (by rw [gB_emp hbig]; rfl) ?_
        walk_at "dd"
        refine w_addL hq9 h39 (mid (by rw [eTs_len, eTs_len]; have hmm := (show ([t1]).length ≤ 5 by have := hc.2.2.2.2; show 1 ≤ 5; omega); show cells.length + ([t1]).length ≤ 1000000; omega)) ?_
        intro pa na
        refine abs_new na fun Ga sa ha => ?_
        walk_at "dd"
        refine ⟨pa, cells ++ [t1], _, _, rfl, by rw [ha, eTs_map, eTs_map, eTs_map, List.map_append], s2.trans (s29.trans sa), by rw [List.length_append, hmade]; exact hok.2, by rw [List.length_append, hmade]; exact hfin, fun x hx => ?_, ht⟩
        rcases List.mem_append.mp hx with hx | hx
        · exact hg x hx
        · exact small_gs (by cases e : bigT x with | false => rfl | true => exact absurd e (List.any_eq_false.mp hbig x hx)) (hmt x hx)
    | mk w' cs =>
      have e : eO (.mk w' cs) = .tup (.str w' :: cs.map nI) := rfl
      rw [e]
      have hw := hok.1.1
      have hcl := hok.1.2.1
      have hcs := hok.1.2.2
      by_cases ww : w' = "wrap"
      · subst ww
        obtain ⟨c, rfl⟩ := one_of (hcl.trans srt_wrap)
        have hcc := hcs c (List.mem_singleton.mpr rfl)
        rw [show ([c].map nI) = [.int (c : Int)] from rfl]
        walk_at "dd"
        refine w_ixL (i := (c : Int)) hq (atI_nat (j := c) (by rw [eTs_map, List.getElem?_map, atT_get hcc]; rfl)) ?_
        walk_at "dd"
        intro pm nm
        refine abs_new nm fun G3 s3 h3 => ?_
        have h3 : G3 pm = some (.lst (eTs [.row [.push (atT cells c)]])) := h3
        have hm : toldO (.mk "wrap" [c]) cells = .ok [.row [.push (atT cells c)]] := by
          show (match opT "wrap" [atT cells c] with | some t => Oc.ok [t] | none => Oc.no) = _
          rw [opT_one, if_pos rfl]
        obtain ⟨hmade, hmt, hmg⟩ := gsO _ cells _ hok.1 hg hm
        have lm5 : ([Th.row [.push (atT cells c)]]).length ≤ 1000000 := by show 1 ≤ 1000000; omega
        walk_at "dd"
        refine w_if0 (decide_eq_false (fun z => nomatch z)) ?_
        walk_at "dd"
        refine w_eqLS h3 ?_
        walk_at "dd"
        refine w_inNone h3 (fun d hd => .inr (by
          rw [eTs_map] at hd
          obtain ⟨t9, _, rfl⟩ := List.mem_map.mp hd
          exact ⟨_, eT_eq t9⟩)) ?_
        rw [non_eTs]
        walk_at "dd"
        refine lcs_filt gB (fun G' s => .inl (s _ _ h3)) (by rw [eTs_len]; exact lm5) ?_ ?_
        · intro dd hdd G' k1 k0 s' e1 e0
          rw [eTs_map] at hdd
          obtain ⟨t9, ht9, rfl⟩ := List.mem_map.mp hdd
          walk_at "dd"
          intro p7 n7
          refine abs_new n7 fun G7 s7 h7 => ?_
          have h7 : G7 p7 = some (.lst (eTs [t9])) := h7
          walk_at "dd"
          have gd9 := hmg t9 ht9
          refine .inl ⟨_, [t9], rfl, .inr ⟨p7, rfl, h7⟩, (by show max (dpT t9) 0 < 95; omega), (by show szT t9 + 0 ≤ 100000; omega), ?_⟩
          walk_at "dd"
          by_cases b1 : 300 < szT t9
          · refine w_it (decide_eq_true (by show (300 : Int) < ((szT t9 + 0 : Nat) : Int); omega)) ?_
            walk_at "dd"
            exact e1 _ G7 (gB_yes (by unfold bigT; rw [decide_eq_true b1]; rfl)) s7
          · refine w_if0 (decide_eq_false (by show ¬ ((300 : Int) < ((szT t9 + 0 : Nat) : Int)); omega)) ?_
            walk_at "dd"
            refine ⟨t9, rfl, by omega, by omega, ?_⟩
            walk_at "dd"
            by_cases b2 : 90 < dpT t9
            · refine w_it (decide_eq_true (by omega)) ?_
              walk_at "dd"
              exact e1 _ G7 (gB_yes (by unfold bigT; rw [decide_eq_true b2, Bool.or_true])) s7
            · refine w_if0 (decide_eq_false (by omega)) ?_
              walk_at "dd"
              exact e0 G7 (gB_no (by unfold bigT; rw [decide_eq_false b1, decide_eq_false b2]; rfl)) s7
        intro p8 G8 n8 s8 h8
        walk_at "dd"
        intro p9 n9
        refine abs_new n9 fun G9 s9 h9 => ?_
        refine w_neNil (by walk_at "gq") h9 ?_
        have s29 : DD.Sub G2 G9 := s3.trans (s8.trans s9)
        have hq9 := s29 _ _ hq
        have h39 : G9 pm = some (.lst (eTs ([Th.row [.push (atT cells c)]]))) := s9 _ _ (s8 _ _ h3)
        rw [hm] at ht
        have ht : (if ([Th.row [.push (atT cells c)]]).any bigT = true then Oc.big else toldOs (ops.drop (i + 1)) (cells ++ [Th.row [.push (atT cells c)]])) = O := ht
        refine ⟨_, rfl, ?_⟩
        cases hbig : ([Th.row [.push (atT cells c)]]).any bigT with
        | true =>
          rw [hbig, if_pos rfl] at ht
          subst ht
          refine w_it (by cases e : (eTs ([Th.row [.push (atT cells c)]])).filterMap gB with | nil => exact absurd e (gB_ne hbig) | cons _ _ => rfl) ?_
          walk_at "dd"
          exact ⟨G, s2.trans s29, q2 rfl⟩
        | false =>
          rw [hbig, if_neg Bool.false_ne_true] at ht
          refine w_if0 (by rw [gB_emp hbig]; rfl) ?_
          walk_at "dd"
          refine w_addL hq9 h39 (mid (by rw [eTs_len, eTs_len]; have hmm := (show ([Th.row [.push (atT cells c)]]).length ≤ 5 by have := hc.2.2.2.2; show 1 ≤ 5; omega); show cells.length + ([Th.row [.push (atT cells c)]]).length ≤ 1000000; omega)) ?_
          intro pa na
          refine abs_new na fun Ga sa ha => ?_
          walk_at "dd"
          refine ⟨pa, cells ++ [Th.row [.push (atT cells c)]], _, _, rfl, by rw [ha, eTs_map, eTs_map, eTs_map, List.map_append], s2.trans (s29.trans sa), by rw [List.length_append, hmade]; exact hok.2, by rw [List.length_append, hmade]; exact hfin, fun x hx => ?_, ht⟩
          rcases List.mem_append.mp hx with hx | hx
          · exact hg x hx
          · exact small_gs (by cases e : bigT x with | false => rfl | true => exact absurd e (List.any_eq_false.mp hbig x hx)) (hmt x hx)
      · obtain ⟨c, d, rfl⟩ := two_of (hcl.trans (mak_two w' hw ww))
        have hcc := hcs c (List.mem_cons_self ..)
        have hcd := hcs d (List.mem_cons_of_mem _ (List.mem_cons_self ..))
        rw [show ([c, d].map nI) = [.int (c : Int), .int (d : Int)] from rfl]
        walk_at "dd"
        refine w_if0 (decide_eq_false (mak_srt _ hw).2.1) ?_
        walk_at "dd"
        refine w_if0 (decide_eq_false ww) ?_
        walk_at "dd"
        refine w_if0 (decide_eq_false (mak_srt _ hw).2.2) ?_
        walk_at "dd"
        refine w_ixL (i := (c : Int)) hq (atI_nat (j := c) (by rw [eTs_map, List.getElem?_map, atT_get hcc]; rfl)) ?_
        walk_at "dd"
        refine w_ixL (i := (d : Int)) hq (atI_nat (j := d) (by rw [eTs_map, List.getElem?_map, atT_get hcd]; rfl)) ?_
        walk_at "dd"
        refine ⟨w', atT cells c, atT cells d, rfl, hw, ww, (gs_at hg hcc).gd, (gs_at hg hcd).gd, ?_⟩
        cases e0 : opT w' [atT cells c, atT cells d] with
        | none =>
          have hm : toldO (.mk w' [c, d]) cells = .no := by
            show (match opT w' [atT cells c, atT cells d] with | some t => Oc.ok [t] | none => Oc.no) = _
            rw [e0]
          rw [hm] at ht
          have ht : Oc.no = O := ht
          subst ht
          rw [show oD (none : Option Th) = .non from rfl]
          walk_at "dd"
          intro pm nm
          refine abs_new nm fun G3 s3 h3 => ?_
          walk_at "dd"
          refine w_if0 (decide_eq_false (fun z => nomatch z)) ?_
          walk_at "dd"
          refine w_eqLS h3 ?_
          walk_at "dd"
          refine w_inNone h3 (fun d hd => .inl (List.mem_singleton.mp hd)) ?_
          rw [show ([DV.non].any nonD) = true from rfl]
          walk_at "dd"
          exact ⟨G, s2.trans s3, q1 rfl⟩
        | some t1 =>
          rw [show oD (some t1) = eT t1 from rfl]
          walk_at "dd"
          intro pm nm
          refine abs_new nm fun G3 s3 h3 => ?_
          have h3 : G3 pm = some (.lst (eTs [t1])) := h3
          have hm : toldO (.mk w' [c, d]) cells = .ok [t1] := by
            show (match opT w' [atT cells c, atT cells d] with | some t => Oc.ok [t] | none => Oc.no) = _
            rw [e0]
          obtain ⟨hmade, hmt, hmg⟩ := gsO _ cells _ hok.1 hg hm
          have lm5 : ([t1]).length ≤ 1000000 := by show 1 ≤ 1000000; omega
          walk_at "dd"
          refine w_if0 (decide_eq_false (fun z => nomatch z)) ?_
          walk_at "dd"
          refine w_eqLS h3 ?_
          walk_at "dd"
          refine w_inNone h3 (fun d hd => .inr (by
            rw [eTs_map] at hd
            obtain ⟨t9, _, rfl⟩ := List.mem_map.mp hd
            exact ⟨_, eT_eq t9⟩)) ?_
          rw [non_eTs]
          walk_at "dd"
          refine lcs_filt gB (fun G' s => .inl (s _ _ h3)) (by rw [eTs_len]; exact lm5) ?_ ?_
          · intro dd hdd G' k1 k0 s' e1 e0
            rw [eTs_map] at hdd
            obtain ⟨t9, ht9, rfl⟩ := List.mem_map.mp hdd
            walk_at "dd"
            intro p7 n7
            refine abs_new n7 fun G7 s7 h7 => ?_
            have h7 : G7 p7 = some (.lst (eTs [t9])) := h7
            walk_at "dd"
            have gd9 := hmg t9 ht9
            refine .inl ⟨_, [t9], rfl, .inr ⟨p7, rfl, h7⟩, (by show max (dpT t9) 0 < 95; omega), (by show szT t9 + 0 ≤ 100000; omega), ?_⟩
            walk_at "dd"
            by_cases b1 : 300 < szT t9
            · refine w_it (decide_eq_true (by show (300 : Int) < ((szT t9 + 0 : Nat) : Int); omega)) ?_
              walk_at "dd"
              exact e1 _ G7 (gB_yes (by unfold bigT; rw [decide_eq_true b1]; rfl)) s7
            · refine w_if0 (decide_eq_false (by show ¬ ((300 : Int) < ((szT t9 + 0 : Nat) : Int)); omega)) ?_
              walk_at "dd"
              refine ⟨t9, rfl, by omega, by omega, ?_⟩
              walk_at "dd"
              by_cases b2 : 90 < dpT t9
              · refine w_it (decide_eq_true (by omega)) ?_
                walk_at "dd"
                exact e1 _ G7 (gB_yes (by unfold bigT; rw [decide_eq_true b2, Bool.or_true])) s7
              · refine w_if0 (decide_eq_false (by omega)) ?_
                walk_at "dd"
                exact e0 G7 (gB_no (by unfold bigT; rw [decide_eq_false b1, decide_eq_false b2]; rfl)) s7
          intro p8 G8 n8 s8 h8
          walk_at "dd"
          intro p9 n9
          refine abs_new n9 fun G9 s9 h9 => ?_
          refine w_neNil (by walk_at "gq") h9 ?_
          have s29 : DD.Sub G2 G9 := s3.trans (s8.trans s9)
          have hq9 := s29 _ _ hq
          have h39 : G9 pm = some (.lst (eTs ([t1]))) := s9 _ _ (s8 _ _ h3)
          rw [hm] at ht
          have ht : (if ([t1]).any bigT = true then Oc.big else toldOs (ops.drop (i + 1)) (cells ++ [t1])) = O := ht
          refine ⟨_, rfl, ?_⟩
          cases hbig : ([t1]).any bigT with
          | true =>
            rw [hbig, if_pos rfl] at ht
            subst ht
            refine w_it (by cases e : (eTs ([t1])).filterMap gB with | nil => exact absurd e (gB_ne hbig) | cons _ _ => rfl) ?_
            walk_at "dd"
            exact ⟨G, s2.trans s29, q2 rfl⟩
          | false =>
            rw [hbig, if_neg Bool.false_ne_true] at ht
            refine w_if0 (by rw [gB_emp hbig]; rfl) ?_
            walk_at "dd"
            refine w_addL hq9 h39 (mid (by rw [eTs_len, eTs_len]; have hmm := (show ([t1]).length ≤ 5 by have := hc.2.2.2.2; show 1 ≤ 5; omega); show cells.length + ([t1]).length ≤ 1000000; omega)) ?_
            intro pa na
            refine abs_new na fun Ga sa ha => ?_
            walk_at "dd"
            refine ⟨pa, cells ++ [t1], _, _, rfl, by rw [ha, eTs_map, eTs_map, eTs_map, List.map_append], s2.trans (s29.trans sa), by rw [List.length_append, hmade]; exact hok.2, by rw [List.length_append, hmade]; exact hfin, fun x hx => ?_, ht⟩
            rcases List.mem_append.mp hx with hx | hx
            · exact hg x hx
            · exact small_gs (by cases e : bigT x with | false => rfl | true => exact absurd e (List.any_eq_false.mp hbig x hx)) (hmt x hx)
    | ite c' as a' b' =>
      have e : eO (.ite c' as a' b') = .tup [.str "if", .int (c' : Int), .tup (as.map nI), eC a', eC b'] := rfl
      rw [e]
      obtain ⟨hcc, ha, la, ta, tb, hu, oA, oB⟩ := hok.1
      have hnk : 1 + max (nC a') (nC b') ≤ nOs ops := nOs_get ho
      have hnk2 : nOs ops < k + 1 := hn
      have hto : toldO (.ite c' as a' b') cells = (match atT cells c' with | .num n => if n = 0 then toldC b' (as.map (atT cells)) else toldC a' (as.map (atT cells)) | _ => .no) := rfl
      walk_at "dd"
      refine w_ixL (i := (c' : Int)) hq (atI_nat (j := c') (by rw [eTs_map, List.getElem?_map, atT_get hcc]; rfl)) ?_
      cases ec' : atT cells c' with
      | row ws =>
        rw [ec'] at hto
        rw [hto] at ht
        have ht : Oc.no = O := ht
        subst ht
        rw [show eT (.row ws) = .tup [.str "row", .tup (eWs ws)] from rfl]
        walk_at "dd"
        exact ⟨G, s2, q1 rfl⟩
      | lst ws =>
        rw [ec'] at hto
        rw [hto] at ht
        have ht : Oc.no = O := ht
        subst ht
        rw [show eT (.lst ws) = .tup [.str "list", .tup (eTs ws)] from rfl]
        walk_at "dd"
        exact ⟨G, s2, q1 rfl⟩
      | num n =>
        rw [ec'] at hto
        have ex : eT (.num n) = .tup [.str "number", .int n] := rfl
        rw [ex]
        walk_at "dd"
        refine w_ixL (i := (c' : Int)) hq (atI_nat (j := c') (by rw [eTs_map, List.getElem?_map, atT_get hcc, ec']; rfl)) ?_
        rw [ex]
        walk_at "dd"
        by_cases n0 : n = 0
        · rw [decide_eq_true n0]
          have hto : toldO (.ite c' as a' b') cells = toldC b' (as.map (atT cells)) := by rw [hto]; show (if n = 0 then _ else _) = _; rw [if_pos n0]
          walk_at "dd"
          refine ⟨eC b', atI_nat (j := 4) rfl, ?_⟩
          walk_at "dd"
          refine lcs_pure (fun d => match d with | .int i => some (eT (atT cells i.toNat)) | _ => none) (fun _ _ => trivial) (by rw [List.length_map]; omega) ?_ ?_
          · intro d hd G' k1 k0 s' e1 e0
            obtain ⟨c2, hc2, rfl⟩ := List.mem_map.mp hd
            have hq' := s' _ _ hq
            walk_at "dd"
            refine w_ixL (i := (c2 : Int)) hq' (atI_nat (j := c2) (by rw [eTs_map, List.getElem?_map, atT_get (ha c2 hc2)]; rfl)) ?_
            exact e1 _ rfl
          intro pz Gz nz sz_ hz
          have ez : (as.map nI).filterMap (fun d => match d with | .int i => some (eT (atT cells i.toNat)) | _ => none) = eTs (as.map (atT cells)) := by
            rw [List.filterMap_map, eTs_map, List.map_map]
            exact List.filterMap_eq_map ▸ rfl
          rw [ez] at hz
          walk_at "dd"
          refine ⟨b', pz, as.map (atT cells), rfl, hz, oB, (by omega), by rw [List.length_map]; omega, gs_map hg ha, fun eno => ?_, fun ebg => ?_, fun ms eok pm G3 s3z h3 => ?_⟩
          · rw [hto, eno] at ht
            have ht : Oc.no = O := ht
            subst ht
            walk_at "dd"
            refine w_it (decide_eq_true rfl) ?_
            walk_at "dd"
            exact ⟨G, s2.trans sz_, q1 rfl⟩
          · rw [hto, ebg] at ht
            have ht : Oc.big = O := ht
            subst ht
            walk_at "dd"
            refine w_if0 (decide_eq_false (fun z => nomatch z)) ?_
            walk_at "dd"
            refine w_eqLSs ?_
            walk_at "dd"
            exact ⟨G, s2.trans sz_, q2 rfl⟩
          have s3 : DD.Sub G2 G3 := sz_.trans s3z
          have hm : toldO (.ite c' as a' b') cells = .ok ms := hto.trans eok
          have ule : made (.ite c' as a' b') ≤ 5 := by cases a' with | mk _ _ u2 => exact oA.2.2.2.2
          obtain ⟨hmade, hmt, hmg⟩ := gsO _ cells _ hok.1 hg hm
          have lm5 : (ms).length ≤ 1000000 := by rw [hmade]; exact Nat.le_trans ule (by omega)
          walk_at "dd"
          refine w_if0 (decide_eq_false (fun z => nomatch z)) ?_
          walk_at "dd"
          refine w_eqLS h3 ?_
          walk_at "dd"
          refine w_inNone h3 (fun d hd => .inr (by
            rw [eTs_map] at hd
            obtain ⟨t9, _, rfl⟩ := List.mem_map.mp hd
            exact ⟨_, eT_eq t9⟩)) ?_
          rw [non_eTs]
          walk_at "dd"
          refine lcs_filt gB (fun G' s => .inl (s _ _ h3)) (by rw [eTs_len]; exact lm5) ?_ ?_
          · intro dd hdd G' k1 k0 s' e1 e0
            rw [eTs_map] at hdd
            obtain ⟨t9, ht9, rfl⟩ := List.mem_map.mp hdd
            walk_at "dd"
            intro p7 n7
            refine abs_new n7 fun G7 s7 h7 => ?_
            have h7 : G7 p7 = some (.lst (eTs [t9])) := h7
            walk_at "dd"
            have gd9 := hmg t9 ht9
            refine .inl ⟨_, [t9], rfl, .inr ⟨p7, rfl, h7⟩, (by show max (dpT t9) 0 < 95; omega), (by show szT t9 + 0 ≤ 100000; omega), ?_⟩
            walk_at "dd"
            by_cases b1 : 300 < szT t9
            · refine w_it (decide_eq_true (by show (300 : Int) < ((szT t9 + 0 : Nat) : Int); omega)) ?_
              walk_at "dd"
              exact e1 _ G7 (gB_yes (by unfold bigT; rw [decide_eq_true b1]; rfl)) s7
            · refine w_if0 (decide_eq_false (by show ¬ ((300 : Int) < ((szT t9 + 0 : Nat) : Int)); omega)) ?_
              walk_at "dd"
              refine ⟨t9, rfl, by omega, by omega, ?_⟩
              walk_at "dd"
              by_cases b2 : 90 < dpT t9
              · refine w_it (decide_eq_true (by omega)) ?_
                walk_at "dd"
                exact e1 _ G7 (gB_yes (by unfold bigT; rw [decide_eq_true b2, Bool.or_true])) s7
              · refine w_if0 (decide_eq_false (by omega)) ?_
                walk_at "dd"
                exact e0 G7 (gB_no (by unfold bigT; rw [decide_eq_false b1, decide_eq_false b2]; rfl)) s7
          intro p8 G8 n8 s8 h8
          walk_at "dd"
          intro p9 n9
          refine abs_new n9 fun G9 s9 h9 => ?_
          refine w_neNil (by walk_at "gq") h9 ?_
          have s29 : DD.Sub G2 G9 := s3.trans (s8.trans s9)
          have hq9 := s29 _ _ hq
          have h39 : G9 pm = some (.lst (eTs (ms))) := s9 _ _ (s8 _ _ h3)
          rw [hm] at ht
          have ht : (if (ms).any bigT = true then Oc.big else toldOs (ops.drop (i + 1)) (cells ++ ms)) = O := ht
          refine ⟨_, rfl, ?_⟩
          cases hbig : (ms).any bigT with
          | true =>
            rw [hbig, if_pos rfl] at ht
            subst ht
            refine w_it (by cases e : (eTs (ms)).filterMap gB with | nil => exact absurd e (gB_ne hbig) | cons _ _ => rfl) ?_
            walk_at "dd"
            exact ⟨G, s2.trans s29, q2 rfl⟩
          | false =>
            rw [hbig, if_neg Bool.false_ne_true] at ht
            refine w_if0 (by rw [gB_emp hbig]; rfl) ?_
            walk_at "dd"
            refine w_addL hq9 h39 (mid (by rw [eTs_len, eTs_len]; have hmm := (show (ms).length ≤ 5 by have := hc.2.2.2.2; rw [hmade]; exact ule); show cells.length + (ms).length ≤ 1000000; omega)) ?_
            intro pa na
            refine abs_new na fun Ga sa ha => ?_
            walk_at "dd"
            refine ⟨pa, cells ++ ms, _, _, rfl, by rw [ha, eTs_map, eTs_map, eTs_map, List.map_append], s2.trans (s29.trans sa), by rw [List.length_append, hmade]; exact hok.2, by rw [List.length_append, hmade]; exact hfin, fun x hx => ?_, ht⟩
            rcases List.mem_append.mp hx with hx | hx
            · exact hg x hx
            · exact small_gs (by cases e : bigT x with | false => rfl | true => exact absurd e (List.any_eq_false.mp hbig x hx)) (hmt x hx)
        · rw [decide_eq_false n0]
          have hto : toldO (.ite c' as a' b') cells = toldC a' (as.map (atT cells)) := by rw [hto]; show (if n = 0 then _ else _) = _; rw [if_neg n0]
          walk_at "dd"
          refine lcs_pure (fun d => match d with | .int i => some (eT (atT cells i.toNat)) | _ => none) (fun _ _ => trivial) (by rw [List.length_map]; omega) ?_ ?_
          · intro d hd G' k1 k0 s' e1 e0
            obtain ⟨c2, hc2, rfl⟩ := List.mem_map.mp hd
            have hq' := s' _ _ hq
            walk_at "dd"
            refine w_ixL (i := (c2 : Int)) hq' (atI_nat (j := c2) (by rw [eTs_map, List.getElem?_map, atT_get (ha c2 hc2)]; rfl)) ?_
            exact e1 _ rfl
          intro pz Gz nz sz_ hz
          have ez : (as.map nI).filterMap (fun d => match d with | .int i => some (eT (atT cells i.toNat)) | _ => none) = eTs (as.map (atT cells)) := by
            rw [List.filterMap_map, eTs_map, List.map_map]
            exact List.filterMap_eq_map ▸ rfl
          rw [ez] at hz
          walk_at "dd"
          refine ⟨a', pz, as.map (atT cells), rfl, hz, oA, (by omega), by rw [List.length_map]; omega, gs_map hg ha, fun eno => ?_, fun ebg => ?_, fun ms eok pm G3 s3z h3 => ?_⟩
          · rw [hto, eno] at ht
            have ht : Oc.no = O := ht
            subst ht
            walk_at "dd"
            refine w_it (decide_eq_true rfl) ?_
            walk_at "dd"
            exact ⟨G, s2.trans sz_, q1 rfl⟩
          · rw [hto, ebg] at ht
            have ht : Oc.big = O := ht
            subst ht
            walk_at "dd"
            refine w_if0 (decide_eq_false (fun z => nomatch z)) ?_
            walk_at "dd"
            refine w_eqLSs ?_
            walk_at "dd"
            exact ⟨G, s2.trans sz_, q2 rfl⟩
          have s3 : DD.Sub G2 G3 := sz_.trans s3z
          have hm : toldO (.ite c' as a' b') cells = .ok ms := hto.trans eok
          have ule : made (.ite c' as a' b') ≤ 5 := by cases a' with | mk _ _ u2 => exact oA.2.2.2.2
          obtain ⟨hmade, hmt, hmg⟩ := gsO _ cells _ hok.1 hg hm
          have lm5 : (ms).length ≤ 1000000 := by rw [hmade]; exact Nat.le_trans ule (by omega)
          walk_at "dd"
          refine w_if0 (decide_eq_false (fun z => nomatch z)) ?_
          walk_at "dd"
          refine w_eqLS h3 ?_
          walk_at "dd"
          refine w_inNone h3 (fun d hd => .inr (by
            rw [eTs_map] at hd
            obtain ⟨t9, _, rfl⟩ := List.mem_map.mp hd
            exact ⟨_, eT_eq t9⟩)) ?_
          rw [non_eTs]
          walk_at "dd"
          refine lcs_filt gB (fun G' s => .inl (s _ _ h3)) (by rw [eTs_len]; exact lm5) ?_ ?_
          · intro dd hdd G' k1 k0 s' e1 e0
            rw [eTs_map] at hdd
            obtain ⟨t9, ht9, rfl⟩ := List.mem_map.mp hdd
            walk_at "dd"
            intro p7 n7
            refine abs_new n7 fun G7 s7 h7 => ?_
            have h7 : G7 p7 = some (.lst (eTs [t9])) := h7
            walk_at "dd"
            have gd9 := hmg t9 ht9
            refine .inl ⟨_, [t9], rfl, .inr ⟨p7, rfl, h7⟩, (by show max (dpT t9) 0 < 95; omega), (by show szT t9 + 0 ≤ 100000; omega), ?_⟩
            walk_at "dd"
            by_cases b1 : 300 < szT t9
            · refine w_it (decide_eq_true (by show (300 : Int) < ((szT t9 + 0 : Nat) : Int); omega)) ?_
              walk_at "dd"
              exact e1 _ G7 (gB_yes (by unfold bigT; rw [decide_eq_true b1]; rfl)) s7
            · refine w_if0 (decide_eq_false (by show ¬ ((300 : Int) < ((szT t9 + 0 : Nat) : Int)); omega)) ?_
              walk_at "dd"
              refine ⟨t9, rfl, by omega, by omega, ?_⟩
              walk_at "dd"
              by_cases b2 : 90 < dpT t9
              · refine w_it (decide_eq_true (by omega)) ?_
                walk_at "dd"
                exact e1 _ G7 (gB_yes (by unfold bigT; rw [decide_eq_true b2, Bool.or_true])) s7
              · refine w_if0 (decide_eq_false (by omega)) ?_
                walk_at "dd"
                exact e0 G7 (gB_no (by unfold bigT; rw [decide_eq_false b1, decide_eq_false b2]; rfl)) s7
          intro p8 G8 n8 s8 h8
          walk_at "dd"
          intro p9 n9
          refine abs_new n9 fun G9 s9 h9 => ?_
          refine w_neNil (by walk_at "gq") h9 ?_
          have s29 : DD.Sub G2 G9 := s3.trans (s8.trans s9)
          have hq9 := s29 _ _ hq
          have h39 : G9 pm = some (.lst (eTs (ms))) := s9 _ _ (s8 _ _ h3)
          rw [hm] at ht
          have ht : (if (ms).any bigT = true then Oc.big else toldOs (ops.drop (i + 1)) (cells ++ ms)) = O := ht
          refine ⟨_, rfl, ?_⟩
          cases hbig : (ms).any bigT with
          | true =>
            rw [hbig, if_pos rfl] at ht
            subst ht
            refine w_it (by cases e : (eTs (ms)).filterMap gB with | nil => exact absurd e (gB_ne hbig) | cons _ _ => rfl) ?_
            walk_at "dd"
            exact ⟨G, s2.trans s29, q2 rfl⟩
          | false =>
            rw [hbig, if_neg Bool.false_ne_true] at ht
            refine w_if0 (by rw [gB_emp hbig]; rfl) ?_
            walk_at "dd"
            refine w_addL hq9 h39 (mid (by rw [eTs_len, eTs_len]; have hmm := (show (ms).length ≤ 5 by have := hc.2.2.2.2; rw [hmade]; exact ule); show cells.length + (ms).length ≤ 1000000; omega)) ?_
            intro pa na
            refine abs_new na fun Ga sa ha => ?_
            walk_at "dd"
            refine ⟨pa, cells ++ ms, _, _, rfl, by rw [ha, eTs_map, eTs_map, eTs_map, List.map_append], s2.trans (s29.trans sa), by rw [List.length_append, hmade]; exact hok.2, by rw [List.length_append, hmade]; exact hfin, fun x hx => ?_, ht⟩
            rcases List.mem_append.mp hx with hx | hx
            · exact hg x hx
            · exact small_gs (by cases e : bigT x with | false => rfl | true => exact absurd e (List.any_eq_false.mp hbig x hx)) (hmt x hx)
  · rintro δ G2 ⟨q, cells, x3, x4, rfl, hq, s2, hok, hfin, hg, ht⟩
    rw [eOs_len, List.drop_length] at hok hfin ht
    have hf : cells.length = fin t ops := hfin
    have ht : Oc.ok cells = O := ht
    subst ht
    walk_at "dd"
    refine lcs_pure (fun d => match d with | .int i => some (eT (atT cells i.toNat)) | _ => none) (fun _ _ => trivial) (by rw [List.length_map]; omega) ?_ ?_
    · intro d hd G' k1 k0 s' e1 e0
      obtain ⟨c', hc', rfl⟩ := List.mem_map.mp hd
      have hq' := s' _ _ hq
      have hu := hc.2.1 c' hc'
      walk_at "dd"
      refine w_ixL (i := (c' : Int)) hq' (atI_nat (j := c') (by rw [eTs_map, List.getElem?_map, atT_get (by omega)]; rfl)) ?_
      exact e1 _ rfl
    intro pz Gz nz sz_ hz
    have e : (us.map nI).filterMap (fun d => match d with | .int i => some (eT (atT cells i.toNat)) | _ => none) = eTs (us.map (atT cells)) := by
      rw [List.filterMap_map, eTs_map, List.map_map]
      exact List.filterMap_eq_map ▸ rfl
    rw [e] at hz
    exact Less.of (q3 _ rfl pz Gz (s2.trans sz_) hz)
end
end K64
/-! a list != a text: true; else as != -/
namespace DD
open PySem PySem.W L2 SX Cm
def rNeLS (K : Frag) : R2 := fun x y H Q => ∃ a xs z, x = .ref a ∧ y = .str z ∧ SqL K H a xs ∧ Q (.bl true) H
section
variable {X : Cx}
theorem op_neLS (hu : X.A.units + 64 < cLine) : OpR X (compareOp .NotEq) (rNeLS X.K) := by
  intro pins s σ H x y v u Q I rx ry h
  obtain ⟨a, xs, z, rfl, rfl, ha, q⟩ := h
  cases rx
  obtain ⟨tk, rfl⟩ := ry
  obtain ⟨us, r1, p1, _⟩ := I.list ha
  have h := SeqAt.RcNeAt.list_str (A := X.A) (s := s) z tk p1.isList (by omega)
  refine h X.prog X.w X.xe (EP X pins σ Q) ?_
  exact ⟨.bl true, H, I, rfl, q⟩
def bNeLS : D2 := fun x y G Q => (∃ p xs z, x = .ref p ∧ y = .str z ∧ G p = some (.lst xs) ∧ Q (.bl true) G) ∨ bEq true x y G Q
theorem od_neLS (hu : X.A.units + 64 < cLine) : OpD X (compareOp .NotEq) bNeLS := by
  obtain ⟨r, hr, ok⟩ := od_ne (X := X) hu
  refine ⟨_, (op_neLS hu).or hr, fun x y vx vy H G R Q rx ry w h f => ?_⟩
  rcases h with ⟨p, xs, z, rfl, rfl, e, h⟩ | h
  · cases rx
    cases ry
    obtain ⟨us, h1, r1⟩ := wd_list w e
    exact .inl ⟨_, us, _, rfl, rfl, SqL.of h1, flat_up w f h⟩
  · exact .inr (ok x y vx vy H G R Q rx ry w h f)
theorem w_neLS {p : Addr} {xs : List DV} {z : Str} {G : DG} {Q : DK} (e : G p = some (.lst xs)) (h : Q (.bl true) G) : bNeLS (.ref p) (.str z) G Q := .inl ⟨p, xs, z, rfl, rfl, e, h⟩
theorem w_neLSs {a b : Str} {G : DG} {Q : DK} (h : Q (.bl (!decide (a = b))) G) : bNeLS (.str a) (.str b) G Q := .inr (w_neSS h)
theorem w_neLSn {b : Str} {G : DG} {Q : DK} (h : Q (.bl true) G) : bNeLS .non (.str b) G Q := .inr (w_eqNS h)
end
end DD
/-! != of deep tuples of texts; what is made of texts alone -/
namespace DD
open PySem PySem.W L2 SX Cm
end DD
set_option maxHeartbeats 1000000
/-! deep things compared, where there is room -/
namespace DD
open PySem PySem.W L2 SX Cm
/-- != of deep data -/
def bNeV : D2 := fun x y G Q => plain x = true ∧ plain y = true ∧ txB x = true ∧ txB y = true ∧ dpt x ≤ 1000 ∧ Q (.bl (!decide (x = y))) G
section
variable {X : Cx}
theorem op_neV (hu : X.A.units + 1000 < cLine) : OpR X (compareOp .NotEq) (fun x y H Q => ∃ d e, Dp X.K H x d ∧ Dp X.K H y e ∧ d.canLay0 = true ∧ e.canLay0 = true ∧ d.depth ≤ 1000 ∧ Q (.bl (!PyData.eqv d e)) H) := by
  intro pins s σ H x y v u Q I rx ry h
  obtain ⟨d, e, hd, he, sd, se, l, q⟩ := h
  obtain ⟨as, r1⟩ := Dp.reads I d x v hd rx
  obtain ⟨bs, r2⟩ := Dp.reads I e y u he ry
  exact SeqAt.compareNe_reads r1 r2 sd se (by have := Nat.min_le_left d.depth e.depth; omega) ⟨.bl _, H, I, rfl, q⟩
theorem od_neV (hu : X.A.units + 1000 < cLine) : OpD X (compareOp .NotEq) bNeV := by
  refine ⟨_, op_neV hu, fun x y vx vy H G R Q rx ry w h f => ?_⟩
  obtain ⟨px, py, tx, ty, lx, q⟩ := h
  obtain ⟨a, b⟩ := lay_dat x tx
  obtain ⟨a', _⟩ := lay_dat y ty
  exact ⟨_, _, rx.dp (plain_pure _ px), ry.dp (plain_pure _ py), a, a', by omega, flat_up w f (by rw [eqv_plain x y px py]; exact q)⟩
end
end DD
set_option maxHeartbeats 1000000
namespace K64
open PySem PySem.W L2 SX Cm DD
local macro_rules | `(tactic| walk_at "d1") => `(tactic| first | (with_reducible refine w_go ?_) | ((with_reducible show dVar _ _ _ _); refine w_var rfl ?_) | (with_reducible refine w_exI ?_) | (with_reducible refine w_exB ?_) | (with_reducible refine w_exT ?_) | (with_reducible refine w_exS ?_) | (with_reducible refine w_parE ?_) | (with_reducible refine ly1 ?_) | (with_reducible refine ly2 ?_) | (with_reducible refine lt1' ?_) | (with_reducible refine lt2' ?_) | (with_reducible refine wx_enumT ?_) | (with_reducible refine w_callX ?_) | (with_reducible refine w_methX ?_) | (with_reducible refine w_raise ?_) | (with_reducible refine w_try ?_) | (with_reducible refine w_xSet ?_) | (with_reducible refine w_xExpr ?_) | (with_reducible refine w_xLst ?_) | (with_reducible refine w_xTup ?_) | (with_reducible refine w_xCons ?_) | (with_reducible refine w_xNil ?_) | (with_reducible refine w_xE ?_) | (with_reducible refine w_xCall ?_) | (with_reducible refine w_call0 ?_) | (with_reducible refine w_asgL ?_) | (with_reducible refine w_tupPd ?_) | (with_reducible refine wi_zip ?_) | (with_reducible refine w_delT ?_) | (with_reducible refine w_dc ?_) | (with_reducible refine w_revL ?_) | (with_reducible refine wi_revT ?_) | (with_reducible refine w_lstZip ?_) | (with_reducible refine w_chain ?_) | (with_reducible refine w_orT ?_) | ((with_reducible show gT _ _ _ _ _ _); refine g_T ?_ rfl) | ((with_reducible show ∃ p, DV.ref _ = _ ∧ (∃ kvs, _) ∧ _); refine wx_get (by walk_at "gq") ?_) | ((with_reducible show ∃ kvs z, _ = _ ∧ _ = some (DO.dct _) ∧ _); refine wx_get2 (by walk_at "gq") ?_) | ((with_reducible show ∃ p kvs z, _ = _ ∧ _ = _ ∧ _ = some (DO.dct _) ∧ _); refine wx_in (by walk_at "gq") ?_) | ((with_reducible show List.length _ = _ ∧ _); refine w_len ?_ rfl) | ((with_reducible show List.length _ ≤ sizeLine ∧ _); refine w_sz ?_ (szl rfl)) | ((with_reducible show bIx _ (.int _) _ _); first | refine w_ix0 ?_ | refine w_ix1 ?_ | refine w_ix2 ?_ | refine w_ix3 ?_) | ((with_reducible show bIsi [_, _] _ _); first | refine w_isi (by decide) (a := "tuple") rfl rfl ?_ | refine w_isi (by decide) (a := "str") rfl rfl ?_ | refine w_isi (by decide) (a := "int") rfl rfl ?_ | refine w_isi (by decide) (a := "bool") rfl rfl ?_ | refine w_isi (by decide) (a := "NoneType") rfl rfl ?_) | ((with_reducible show ∃ ds, _ = DV.tup ds ∧ _); refine w_exT ?_) | ((with_reducible show ∃ z, _ = DV.str z ∧ _); refine w_exS ?_) | ((with_reducible show ∃ ds, [_] = [DV.tup ds] ∧ _); refine wx_enumT ?_) | ((with_reducible show bSl _ _ _ _ _); refine w_slT ?_) | ((with_reducible show bTuple [_] _ _); refine w_tupT ?_) | ((with_reducible show bLen [_] _ _); refine w_lenT ?_) | ((with_reducible show bTru _ _ _); first | refine w_truT ?_ | refine w_truN ?_ | refine w_truB ?_ | refine w_truI ?_) | ((with_reducible show bEq _ _ _ _ _); first | refine w_eqSS ?_ | refine w_eqII ?_ | refine w_neSS ?_ | refine w_neII ?_ | refine w_eqT0 ?_) | ((with_reducible show bInt _ _ (.int _) (.int _) _ _); refine w_int (by first | decide | exact ⟨by decide, by decide, by decide⟩ | exact .inl ⟨by decide, by decide⟩ | exact .inr ⟨by decide, by decide⟩) ?_) | ((with_reducible show if _ = true then _ else _); first | refine w_it (by first | rfl | decide +kernel) ?_ | refine w_if0 (by first | rfl | decide +kernel) ?_) | ((with_reducible show rcv "list" (.ref _) _ ∧ _); refine w_rcvL (by walk_at "gq") ?_) | ((with_reducible show bTuple [.ref _] _ _); refine w_tupL (by walk_at "gq") ?_) | ((with_reducible show bLen [.ref _] _ _); refine w_lenL (by walk_at "gq") ?_) | ((with_reducible show bTru (.ref _) _ _); refine w_truL (by walk_at "gq") ?_) | ((with_reducible show ∃ _ _, DV.ref _ = _ ∧ Ls _ _ _ ∧ _); refine wx_lst (by walk_at "gq") ?_) | ((with_reducible show ∃ _ _, [DV.ref _] = _ ∧ Ls _ _ _ ∧ _); refine wx_lstA (by walk_at "gq") ?_))
local macro_rules | `(tactic| walk_at "dd") => `(tactic| repeat (walk_at "d1"))
local macro_rules | `(tactic| walk_at "gq") => `(tactic| first | assumption | exact dupd_same | exact sub_get (by assumption) (by walk_at "gq") | exact upd_get (by assumption) (by walk_at "gq") (by walk_at "gn") | exact subx_get (by assumption) (by walk_at "gq") (by walk_at "gn") | (refine (dupd_ne ?_).trans ?_; (focus walk_at "gn"); walk_at "gq"))
local macro_rules | `(tactic| walk_at "gs") => `(tactic| first | assumption | exact Sub.refl _ | exact sub_tr (by assumption) (by walk_at "gs") | exact sub_up (by assumption) (by walk_at "gs") (by walk_at "g0") | exact sub_ux (by assumption) (by walk_at "gs") (by walk_at "g0") | (refine Sub.new ?_ ?_; (focus walk_at "gs"); walk_at "g0"))
local macro_rules | `(tactic| walk_at "gk") => `(tactic| first | assumption | exact db_sub (by assumption) (by walk_at "gk") | exact db_upd (by assumption) (by walk_at "gk") ⟨_, by walk_at "gq"⟩ | exact db_updD (by assumption) (by walk_at "gk") ⟨_, by walk_at "gq"⟩)
local macro_rules | `(tactic| walk_at "gu") => `(tactic| first | assumption | exact Upd.refl _ _ | exact upd_in (by assumption) (by walk_at "gu"))
local macro_rules | `(tactic| walk_at "gx") => `(tactic| first | assumption | exact SubX.refl _ _ | exact subx_sub (by assumption) (by walk_at "gx") | exact subx_upd (by assumption) (by walk_at "gx") | exact subx_tr (by assumption) (by walk_at "gx"))
local macro_rules | `(tactic| walk_at "gn") => `(tactic| first | assumption | exact Ne.symm (by assumption) | exact ne_ns (by assumption) ⟨_, by walk_at "gq"⟩ | exact ne_sn (by assumption) ⟨_, by walk_at "gq"⟩)
local macro_rules | `(tactic| walk_at "g0") => `(tactic| first | assumption | exact nn_ (by assumption) (by walk_at "gs"))
theorem hasA_of {P : Program} {w : World} {K : Frag} {mg : Str → Option Value} {base : Heap} {k : Nat} {f : Addr} {nm : Str} {ps : List Str} {dsp : DSp} (h : Has P w K mg base k nm ps dsp) (m : mg nm = some (.ref f)) : HasA P w K mg base k f ps dsp := by
  obtain ⟨f', a, m'⟩ := h.toA
  rw [m] at m'; cases m'; exact a
theorem hu65__ {k : Nat} {A : Around} (h : Room k A) : A.units + 64 < cLine := by have := h.un; omega
theorem hu1000 {k : Nat} {A : Around} (h : Room k A) (hk : 60 ≤ k) : A.units + 1000 < cLine := by have := h.un; omega
theorem acc_ts {P : Th → Prop} : ∀ {acc : List DV}, (∀ (i : Nat) y, acc[i]? = some y → ∃ t, y = eT t ∧ P t) → ∃ ts, acc = eTs ts ∧ ∀ t ∈ ts, P t
  | [], _ => ⟨[], rfl, fun _ h => nomatch h⟩
  | y :: r, h => by
    obtain ⟨t, e, p⟩ := h 0 y rfl
    obtain ⟨ts, e2, p2⟩ := acc_ts (P := P) (acc := r) fun i z hz => h (i + 1) z hz
    exact ⟨t :: ts, by rw [e, e2]; rfl, fun x hx => by
      rcases List.mem_cons.mp hx with rfl | hx
      · exact p
      · exact p2 x hx⟩
theorem dt_gs {t : Th} (h : DT 2 t) : Gs t := by
  obtain ⟨a, b, c⟩ := h
  have := BT_2 (j := 2) (by decide)
  refine ⟨by omega, by omega, fun n e => ?_, okT_tx t c⟩
  rw [e] at c; exact c
theorem num_gs {n : Int} (h : NumOk n) : Gs (.num n) := ⟨by show 1 ≤ 900; decide, by show 0 ≤ 90; decide, fun m e => by cases e; exact h, rfl⟩
theorem BC2 : BC 2 ≤ 2000000 := by decide +kernel
section
variable {P : Program} {w : World} {K : Frag} {mg : Str → Option Value} {base : Heap}
theorem all_told (a : At K mg "_law_told" s_L_told A_L_told) (B : BI mg) (po : Has P w K mg base 1 "_law_pair_op" A_L_pair_op SP_po) (dp : Has P w K mg base 96 "_law_deep" A_L_deep (SP_deep 95)) (sz : Has P w K mg base 96 "_law_size" A_L_size (SP_size 95)) : ∀ k, Has P w K mg base (k + 97) "_law_told" A_L_told (SP_lt k) := by
  intro k
  induction k with
  | zero =>
    refine at_mk a sc_L_told fun f cdv A outer s H E hr ds G R hl h => ?_
    obtain ⟨cd, p, ts, _, _, _, h0, _⟩ := h
    exact absurd h0 (Nat.not_lt_zero _)
  | succ k ih => exact h_L_told (k := k) (l := k + 97) a (by omega) B ih po dp sz
abbrev TFs : List DV := [.bl true, .bl true, .bl false, .bl false]
def SP_rt : DSp := fun ds G R => ∃ cd ts, ds = [eC cd, .tup (eTs ts)] ∧ okC cd ∧ ts.length ≤ 90 ∧ (∀ t ∈ ts, Gd t) ∧ szD (eC cd) ≤ 2000000 ∧ toldC cd ts ≠ .big ∧ (toldC cd ts = .no → ∀ q G', DD.Sub G G' → G' q = some (.lst TFs) → R (.ref q) G') ∧ (∀ ms, toldC cd ts = .ok ms → R (.tup (eTs ms)) G)
abbrev N_L_run_told : List Str := ["_law_code_here", "_law_things", "_law_found", "e"]
abbrev A_L_run_told : List Str := ["_law_code_here", "_law_things"]
theorem sc_L_run_told : FnScope N_L_run_told A_L_run_told (defScope s_L_run_told) := ⟨rfl, rfl, rfl, by decide +kernel, rfl, by decide +kernel, by decide +kernel⟩
theorem h_L_run_told (a : At K mg "_law_run_told" s_L_run_told A_L_run_told) {e_NoStep : Addr} (B : BI mg) (c_p_run_code : HasX P w K mg base 5 "run_code" A_p_run_code (SP_rc e_NoStep)) (m_NoStep : mg "NoStep" = some (.ref e_NoStep)) {e_NoText : Addr} (m_NoText : mg "NoText" = some (.ref e_NoText)) {e_NoCode : Addr} (m_NoCode : mg "NoCode" = some (.ref e_NoCode)) (m_ValueError : mg "ValueError" = none) {e_TakeError : Addr} (m_TakeError : mg "TakeError" = some (.ref e_TakeError)) (XM : exmOne K (.ref e_NoStep) (.ref e_NoStep) = some true) (XE : ExcC K e_NoStep) (k_TakeError : kitOne K (.ref e_NoStep) (.ref e_TakeError) = some true) (k_NoCode : kitOne K (.ref e_NoStep) (.ref e_NoCode) = some false) (k_NoText : kitOne K (.ref e_NoStep) (.ref e_NoText) = some false) (k_ValueError : kitOne K (.ref e_NoStep) (.type "ValueError") = some true) : Has P w K mg base 6 "_law_run_told" A_L_run_told SP_rt := by
  refine at_mk a sc_L_run_told fun f cdv A outer s H E hr ds G R hl h => ?_
  refine ⟨_, (dss_cons (ds_set (i := 2) sc_L_run_told.nd rfl (.inl rfl) de_non)
    (dss_cons (ds_try (i := 3) rfl rfl sc_L_run_told.nd rfl rfl ⟨rfl, by decide, .inl m_NoStep⟩ (dssx_set (i := 2) sc_L_run_told.nd rfl (.inl rfl) (dex_call c_p_run_code (hr.mono (by omega)) rfl (fun _ _ => (da_cons (dv 0) (da_cons (dv 1) da_nil))))) (fun a oe cls d pn hz hv hd => (dss_one (ds_set (i := 2) sc_L_run_told.nd rfl (.inl rfl) (de_lst (da_cons (de_callB (cd_isE hz hv hd) B.isi rfl (by decide +kernel) (da_cons (dv 3) (da_cons (de_gref m_TakeError rfl) da_nil))) (da_cons (de_callB (cd_isE hz hv hd) B.isi rfl (by decide +kernel) (da_cons (dv 3) (da_cons (de_ty (n := "ValueError") m_ValueError rfl (by decide +kernel)) da_nil))) (da_cons (de_callB (cd_isE hz hv hd) B.isi rfl (by decide +kernel) (da_cons (dv 3) (da_cons (de_gref m_NoCode rfl) da_nil))) (da_cons (de_callB (cd_isE hz hv hd) B.isi rfl (by decide +kernel) (da_cons (dv 3) (da_cons (de_gref m_NoText rfl) da_nil))) da_nil)))))))))
    (dss_one (ds_ret (dv 2))))), ?_⟩
  obtain ⟨cd, ts, rfl, hc, lts, hgd, zc, nb, q1, q2⟩ := h
  walk_at "dd"
  refine ⟨cd, ts, rfl, hc, lts, hgd, zc, nb, fun e => ?_, fun ms e => ?_⟩
  · refine ⟨XM, fun ae nae => ?_⟩
    walk_at "dd"
    refine w_isE XE rfl k_TakeError ?_
    walk_at "dd"
    refine w_isE XE rfl k_ValueError ?_
    walk_at "dd"
    refine w_isE XE rfl k_NoCode ?_
    walk_at "dd"
    refine w_isE XE rfl k_NoText ?_
    walk_at "dd"
    intro p np
    refine abs_new np fun G2 s2 h2 => ?_
    intro na2
    walk_at "dd"
    exact Less.of (q1 e p _ (s2.trans ((Sub.refl G2).new na2)) ((dupd_ne (ne_some h2 na2)).trans h2))
  · walk_at "dd"
    exact Less.of (q2 ms e)
abbrev N_L_law : List Str := ["_law_script", "_law_deck_here", "_law_code_here", "_law_turn", "_law_many", "_law_k", "_law_things", "_law_due", "_law_again", "_law_got"]
abbrev A_L_law : List Str := ["_law_script"]
theorem sc_L_law : FnScope N_L_law A_L_law (defScope s_L_law) := ⟨rfl, rfl, rfl, by decide +kernel, rfl, by decide +kernel, by decide +kernel⟩
theorem ok_law {f gd : Addr} {fd dd : FuncData} (F : Fun K "law" "law" s_L_law f fd) (B : BI mg) (DE : FnOk P w K mg base CX0 2 gd dd ["_law_script", "_law_most"] (spDeckB K)) (bDE : L2.Binds K dd ["_law_script", "_law_most"] []) (kDE : keepIn K (.ref gd) = true) (mDE : mg "_law_deck" = some (.ref gd))
    (c_L_draw : Has P w K mg base 2 "_law_draw" A_L_draw SP_drawB)
    (c_L_code : Has P w K mg base 19 "_law_code" A_L_code (SP_lcode 3))
    (c_L_number : Has P w K mg base 3 "_law_number" A_L_number SP_num)
    (c_L_thing : Has P w K mg base 13 "_law_thing" A_L_thing (SP_thing 3))
    (c_L_told : Has P w K mg base 100 "_law_told" A_L_told (SP_lt 3))
    (c_L_run_told : Has P w K mg base 6 "_law_run_told" A_L_run_told SP_rt)
    : FnOk P w K mg base CX0 101 f fd ["_law_script"] (spLaw K) := by
  refine F.ok sc_L_law (fun vs H Q E h => ?_) (fun cdv A outer s H vs Q E hr h => ?_)
  · obtain ⟨a, ns, rfl, _⟩ := h
    rfl
  obtain ⟨a, ns, rfl, hS, h63, q⟩ := h
  refine ⟨_, pss_cons (ps_set (i := 1) sc_L_law.nd rfl (.inr rfl) (pe_call DE (hr.mono (by omega)) rfl mDE kDE bDE .nil pass0 (pa_cons (pv 0) (pa_cons pe_int pa_nil))))
    (dss_cons (ds_set (i := 2) sc_L_law.nd rfl (.inl rfl) (de_call c_L_code (hr.mono (by omega)) rfl (da_cons (dv 1) (da_cons (de_call c_L_draw (hr.mono (by omega)) rfl (da_cons (dv 1) (da_cons de_int da_nil))) (da_cons (de_call c_L_draw (hr.mono (by omega)) rfl (da_cons (dv 1) (da_cons de_int da_nil))) (da_cons de_int da_nil))))))
    (dss_cons (ds_for PassesOwn.never rfl (di_range B.range rfl (da_cons de_int da_nil)) (dg_name (i := 3) sc_L_law.nd rfl (.inl rfl)) (dss_cons (ds_set (i := 4) sc_L_law.nd rfl (.inl rfl) (de_op od_add (de_ix (dv 2) de_int) (de_ix (de_lst (da_cons de_int (da_cons de_int (da_cons de_int (da_cons de_int (da_cons de_int (da_cons de_int (da_cons de_int (da_cons (de_neg de_int) da_nil))))))))) (de_call c_L_draw (hr.mono (by omega)) rfl (da_cons (dv 1) (da_cons de_int da_nil))))))
      (dss_cons (ds_setLc (i := 6) (own := [("_law_k", 5)]) (lt1 (i := 5) (by decide)) rfl sc_L_law.nd rfl rfl (sw_true rfl rfl rfl (by decide +kernel)) (di_range B.range rfl (da_cons (dv 4) da_nil)) (blkOk_by (own := [("_law_k", 5)]) (N := N_L_law) (sc := defScope s_L_law) (by decide +kernel)) (fun _ _ _ _ _ => pg_name (i := 5) sc_L_law.nd rfl (Or.inl rfl)) (fun _ _ _ _ _ => dts_nil) (fun _ _ _ _ _ => (de_tup (da_cons de_str (da_cons (de_call c_L_number (hr.mono (by omega)) rfl (da_cons (dv 1) da_nil)) da_nil)))))
      (dss_cut (ds_if (dt_cmp (od_eq hr.units) (de_call c_L_draw (hr.mono (by omega)) rfl (da_cons (dv 1) (da_cons de_int da_nil))) de_int (nomark _)) (dss_one (ds_setLc (i := 6) (own := [("_law_k", 5)]) (lt1 (i := 5) (by decide)) rfl sc_L_law.nd rfl rfl (sw_true rfl rfl rfl (by decide +kernel)) (di_range B.range rfl (da_cons (dv 4) da_nil)) (blkOk_by (own := [("_law_k", 5)]) (N := N_L_law) (sc := defScope s_L_law) (by decide +kernel)) (fun _ _ _ _ _ => pg_name (i := 5) sc_L_law.nd rfl (Or.inl rfl)) (fun _ _ _ _ _ => dts_nil) (fun _ _ _ _ _ => (de_call c_L_thing (hr.mono (by omega)) rfl (da_cons (dv 1) (da_cons de_int da_nil)))))) dss_nil)
      (dss_cons (ds_set (i := 7) sc_L_law.nd rfl (.inl rfl) (de_call c_L_told (hr.mono (by omega)) rfl (da_cons (dv 2) (da_cons (dv 6) da_nil))))
      (dss_one (ds_for PassesOwn.never rfl (di_range B.range rfl (da_cons (de_op od_mul de_int (de_callTy cd_int B.int rfl (by decide +kernel) (da_cons (de_cmp (od_neLS (hu65__ hr)) (dv 7) de_str (nomark _)) da_nil))) da_nil)) (dg_name (i := 8) sc_L_law.nd rfl (.inl rfl)) (dss_cons (ds_set (i := 9) sc_L_law.nd rfl (.inl rfl) (de_call c_L_run_told (hr.mono (by omega)) rfl (da_cons (dv 2) (da_cons (de_callTy cd_tuple B.tup rfl (by decide +kernel) (da_cons (dv 6) da_nil)) da_nil))))
        (dss_one (ds_if (dt_cmp od_is (dv 7) de_non (nomark _)) (dss_one (ds_if (dt_cmp (od_ne hr.units) (dv 9) (de_lst (da_cons de_bl (da_cons de_bl (da_cons de_bl (da_cons de_bl da_nil))))) (nomark _)) (dss_one (ds_ret de_bl)) dss_nil)) (dss_one (ds_if (dt_w (dw_or (dt_not (dt_e (de_callB cd_isi B.isi rfl (by decide +kernel) (da_cons (dv 9) (da_cons (de_ty (n := "tuple") B.tup rfl (by decide +kernel)) da_nil))))) (dw_or1 (dt_cmp (od_neV (hu1000 hr (by decide))) (dv 9) (de_callTy cd_tuple B.tup rfl (by decide +kernel) (da_cons (dv 7) da_nil)) (nomark _))))) (dss_one (ds_ret de_bl)) dss_nil))))))))))))
    (dss_one (ds_ret de_bl)))), ?_⟩
  refine ⟨_, rfl, a, ns, 600, rfl, hS, h63, by decide, fun d H1 s1 nd D1 => ?_⟩
  refine law_goB (δ := [some (.ref a), some (.ref d), none, none, none, none, none, none, none, none]) D1 (.cons (.ref a) (.cons (.ref d) (Sl.nones 8))) (fun H' => q H') fun G hk => ?_
  clear D1 s1 nd
  walk_at "dd"
  refine ⟨d, 5, rfl, hk, by decide, by decide, fun t a1 b1 => ?_⟩
  obtain ⟨t, rfl⟩ := Int.eq_ofNat_of_zero_le a1
  walk_at "dd"
  refine ⟨d, 6, rfl, hk, by decide, by decide, fun wd a2 b2 => ?_⟩
  obtain ⟨wd, rfl⟩ := Int.eq_ofNat_of_zero_le a2
  walk_at "dd"
  refine ⟨d, t, wd, 2, rfl, Nat.le_refl _, rfl, by omega, by omega, hk, fun cd ok tk _ zc nc => ?_⟩
  have zc : szD (eC cd) ≤ 2000000 := Nat.le_trans zc BC2
  walk_at "dd"
  refine wx_rng (by decide) (by decide) ?_
  refine for_by (fun i δ G' => ∃ x3 x4 x6 x7 x8 x9, δ = [some (.ref a), some (.ref d), some (eC cd), x3, x4, none, x6, x7, x8, x9] ∧ HasDb G' d) (fun _ _ _ _ => trivial) ⟨none, none, none, none, none, none, rfl, hk⟩ ?_ ?_
  · rintro i y δ G2 hy ⟨x3, x4, x6, x7, x8, x9, rfl, hk2⟩
    cases cd with
    | mk t0 ops us =>
    have tk : t0 = t := tk
    subst tk
    have ec : eC (.mk t0 ops us) = .tup [.int (t0 : Int), .tup (eOs ops), .tup (us.map nI)] := rfl
    rw [ec]
    walk_at "dd"
    intro p4 n4
    refine abs_new n4 fun G4 s4 h4 => ?_
    have h4 : G4 p4 = some (.lst [.int 0, .int 0, .int 0, .int 1, .int 0, .int 0, .int 0, .int (-1)]) := h4
    have hk4 : HasDb G4 d := by walk_at "gk"
    walk_at "dd"
    refine ⟨d, 8, rfl, hk4, by decide, by decide, fun r a3 b3 => ?_⟩
    obtain ⟨m, em, hm1, hm2⟩ : ∃ m : Int, atI [DV.int 0, .int 0, .int 0, .int 1, .int 0, .int 0, .int 0, .int (-1)] r = some (.int m) ∧ -1 ≤ m ∧ m ≤ 1 := by
      obtain ⟨x, hx, ex⟩ := pick (xs := [DV.int 0, .int 0, .int 0, .int 1, .int 0, .int 0, .int 0, .int (-1)]) a3 (n := 8) b3 rfl
      simp only [List.mem_cons, List.not_mem_nil, or_false] at hx
      rcases hx with rfl | rfl | rfl | rfl | rfl | rfl | rfl | rfl
      all_goals first | exact ⟨0, ex, by decide, by decide⟩ | exact ⟨1, ex, by decide, by decide⟩ | exact ⟨-1, ex, by decide, by decide⟩
    refine w_ixL h4 em ?_
    walk_at "dd"
    generalize hmany : ((t0 : Int) + m) = many
    have l5 : many.toNat ≤ 5 := by omega
    refine wx_rng (by omega) (by omega) ?_
    refine lcs_each (fun _ y => ∃ t, y = eT t ∧ Gs t) (fun _ _ => trivial) (by rw [rng_len]; omega) ?_ ?_
    · intro i2 y2 hy2 G' k1 k0 s' e1
      walk_at "dd"
      refine ⟨d, rfl, by walk_at "gk", fun n hn => ?_⟩
      walk_at "dd"
      exact e1 _ ⟨.num n, rfl, num_gs hn⟩
    intro p6 G6 acc n6 s6 h6 la he
    rw [rng_len] at la
    obtain ⟨ts6, rfl, g6⟩ := acc_ts he
    rw [eTs_len] at la
    walk_at "dd"
    have hk6 : HasDb G6 d := by walk_at "gk"
    refine w_cut (fun δ' G' => ∃ (p : Addr) (ts : List Th), δ' = [some (.ref a), some (.ref d), some (eC (.mk t0 ops us)), some y, some (.int many), none, some (.ref p), x7, x8, x9] ∧ HasDb G' d ∧ G' p = some (.lst (eTs ts)) ∧ ts.length ≤ 5 ∧ ∀ t ∈ ts, Gs t) ?_ ?_
    · walk_at "dd"
      refine ⟨d, 2, rfl, hk6, by decide, by decide, fun r5 a5 b5 => ?_⟩
      walk_at "dd"
      refine w_iteD (fun _ => ?_) (fun _ => ?_)
      · walk_at "dd"
        refine wx_rng (by omega) (by omega) ?_
        refine lcs_each (fun _ y => ∃ t, y = eT t ∧ Gs t) (fun _ _ => trivial) (by rw [rng_len]; omega) ?_ ?_
        · intro i2 y2 hy2 G' k1 k0 s' e1
          walk_at "dd"
          refine ⟨d, 2, rfl, Nat.le_refl _, rfl, by walk_at "gk", fun t2 ht2 => ?_⟩
          exact e1 _ ⟨t2, rfl, dt_gs ht2⟩
        intro p7 G7 acc7 n7 s7 h7 la7 he7
        rw [rng_len] at la7
        obtain ⟨ts7, rfl, g7⟩ := acc_ts he7
        rw [eTs_len] at la7
        walk_at "dd"
        exact ⟨p7, ts7, rfl, by walk_at "gk", h7, by omega, g7⟩
      · walk_at "dd"
        exact ⟨p6, ts6, rfl, hk6, h6, by omega, g6⟩
    · rintro δ' G7 ⟨p, ts, rfl, hk7, hp, lts, hgs⟩
      clear h6 h4 hk6 s6 s4 g6 he n6 n4 la hk4 hk2 hk
      walk_at "dd"
      have gds : ∀ t ∈ ts, Gd t := fun t ht => (hgs t ht).gd
      refine ⟨.mk t0 ops us, p, ts, rfl, hp, ok, by omega, by omega, hgs, fun e => ?_, fun e => ?_, fun ms e q' G8 s8 h8 => ?_⟩
      · walk_at "dd"
        refine w_neLSn ?_
        walk_at "dd"
        refine wx_rng (by decide) (by decide) ?_
        refine for_by (fun i δ G' => ∃ x8 x9, δ = [some (.ref a), some (.ref d), some (eC (.mk t0 ops us)), some y, some (.int many), none, some (.ref p), some .non, x8, x9] ∧ HasDb G' d ∧ G' p = some (.lst (eTs ts))) (fun _ _ _ _ => trivial) ⟨_, _, rfl, hk7, hp⟩ ?_ ?_
        · rintro i3 y3 δ3 G9 hy3 ⟨x8', x9', rfl, hk9, hp9⟩
          walk_at "dd"
          refine ⟨.mk t0 ops us, ts, rfl, ok, by omega, gds, zc, (by rw [e]; exact fun z => nomatch z), fun _ q9 G10 s10 h10 => ?_, fun ms e2 => absurd (e.symm.trans e2) (fun z => nomatch z)⟩
          walk_at "dd"
          refine w_it (decide_eq_true rfl) ?_
          walk_at "dd"
          intro p11 n11
          refine abs_new n11 fun G11 s11 h11 => ?_
          have h10' := s11 _ _ h10
          refine ⟨_, _, .inl h10', .inl h11, .inr ⟨⟨rfl, rfl, by decide⟩, ⟨rfl, rfl, by decide⟩, ?_⟩⟩
          walk_at "dd"
          exact ⟨_, _, rfl, by walk_at "gk", by walk_at "gq"⟩
        · rintro δ3 G9 ⟨x8', x9', rfl, hk9, hp9⟩
          exact ⟨_, _, _, _, _, _, rfl, hk9⟩
      · walk_at "dd"
        refine w_neLSs ?_
        walk_at "dd"
        refine wx_rng (by decide) (by decide) ?_
        refine for_by (fun i δ G' => ∃ x8 x9, δ = [some (.ref a), some (.ref d), some (eC (.mk t0 ops us)), some y, some (.int many), none, some (.ref p), some (.str "great"), x8, x9] ∧ HasDb G' d) (fun _ _ _ _ => trivial) ⟨_, _, rfl, hk7⟩ ?_ ?_
        · rintro i3 y3 δ3 G9 hy3 _
          exact absurd hy3 (by rw [show rng 0 (2 * (if (!decide (("great" : Str) = "great")) = true then 1 else 0) : Int).toNat = [] from by rw [decide_eq_true rfl]; rfl]; exact fun z => nomatch z)
        · rintro δ3 G9 ⟨x8', x9', rfl, hk9⟩
          exact ⟨_, _, _, _, _, _, rfl, hk9⟩
      · have hk8 : HasDb G8 d := by walk_at "gk"
        have hp8 := s8 _ _ hp
        walk_at "dd"
        refine w_neLS h8 ?_
        walk_at "dd"
        refine wx_rng (by decide) (by decide) ?_
        refine for_by (fun i δ G' => ∃ x8 x9, δ = [some (.ref a), some (.ref d), some (eC (.mk t0 ops us)), some y, some (.int many), none, some (.ref p), some (.ref q'), x8, x9] ∧ HasDb G' d ∧ G' p = some (.lst (eTs ts)) ∧ G' q' = some (.lst (eTs ms))) (fun _ _ _ _ => trivial) ⟨_, _, rfl, hk8, hp8, h8⟩ ?_ ?_
        · rintro i3 y3 δ3 G9 hy3 ⟨x8', x9', rfl, hk9, hp9, hq9⟩
          walk_at "dd"
          refine ⟨.mk t0 ops us, ts, rfl, ok, by omega, gds, zc, (by rw [e]; exact fun z => nomatch z), fun e2 => absurd (e.symm.trans e2) (fun z => nomatch z), fun ms2 e2 => ?_⟩
          have em2 : ms2 = ms := by have := e.symm.trans e2; cases this; rfl
          subst em2
          walk_at "dd"
          refine w_if0 (decide_eq_false (fun z => nomatch z)) ?_
          walk_at "dd"
          obtain ⟨gm, _⟩ := gsC _ ts ms2 ok hgs e
          obtain ⟨_, dm, tm⟩ := szTs_gs gm
          obtain ⟨c1, c2, c3⟩ := eTs_cmp ms2
          refine ⟨c1, c1, c3 tm, c3 tm, (by show 1 + dpts (eTs ms2) ≤ 1000; omega), ?_⟩
          rw [decide_eq_true (rfl : DV.tup (eTs ms2) = DV.tup (eTs ms2))]
          walk_at "dd"
          exact ⟨_, _, rfl, hk9, hp9, hq9⟩
        · rintro δ3 G9 ⟨x8', x9', rfl, hk9, hp9, hq9⟩
          exact ⟨_, _, _, _, _, _, rfl, hk9⟩
  · rintro δ G2 ⟨x3, x4, x6, x7, x8, x9, rfl, hk2⟩
    walk_at "dd"
    rfl
end
end K64
namespace K64
open PySem PySem.W L2 SX Cm DD
theorem all_mk {l : PySem.W.OpenLaw} {w : World} {K : PySem.W.Frag} {h : Heap} {mg : Str → Option Value} {fa f1 f2 f3 f4 f5 f6 f7 f8 f9 f10 f11 f12 f13 f14 f15 f16 f17 f18 f19 f20 f21 f22 f23 f24 f25 f26 f27 f28 f29 f30 f31 : Addr} {es3 es4 : Array DictEntry} {en3 en4 : Nat} {q0 q1 C : Addr} {mod0 man0 mod1 man1 : Option Addr} {msl0 msl1 : Array (Option Value)} {moc0 mkV0 mdc0 mpm0 mcd0 mct0 moc1 mkV1 mdc1 mpm1 mcd1 mct1 : Value} (X : K.In h) (G : h.Ns mainGlobals mg) (hfa : mg "law" = some (.ref fa))
    {od1 an1 od2 an2 od3 an3 od4 an4 od5 an5 od6 an6 od7 an7 od8 an8 od9 an9 od10 an10 od11 an11 od12 an12 od13 an13 od14 an14 od15 an15 od16 an16 od17 an17 od18 an18 od19 an19 od20 an20 od21 an21 od22 an22 od23 an23 od24 an24 od25 an25 od26 an26 od27 an27 od28 an28 od29 an29 od30 an30 od31 an31 : Option Addr} {sl1 sl2 sl3 sl4 sl5 sl6 sl7 sl8 sl9 sl10 sl11 sl12 sl13 sl14 sl15 sl16 sl17 sl18 sl19 sl20 sl21 sl22 sl23 sl24 sl25 sl26 sl27 sl28 sl29 sl30 sl31 : Array (Option Value)} {oc1 kV1 dc1 pm1 cd1 ct1 oc2 kV2 dc2 pm2 cd2 ct2 oc3 kV3 dc3 pm3 cd3 ct3 oc4 kV4 dc4 pm4 cd4 ct4 oc5 kV5 dc5 pm5 cd5 ct5 oc6 kV6 dc6 pm6 cd6 ct6 oc7 kV7 dc7 pm7 cd7 ct7 oc8 kV8 dc8 pm8 cd8 ct8 oc9 kV9 dc9 pm9 cd9 ct9 oc10 kV10 dc10 pm10 cd10 ct10 oc11 kV11 dc11 pm11 cd11 ct11 oc12 kV12 dc12 pm12 cd12 ct12 oc13 kV13 dc13 pm13 cd13 ct13 oc14 kV14 dc14 pm14 cd14 ct14 oc15 kV15 dc15 pm15 cd15 ct15 oc16 kV16 dc16 pm16 cd16 ct16 oc17 kV17 dc17 pm17 cd17 ct17 oc18 kV18 dc18 pm18 cd18 ct18 oc19 kV19 dc19 pm19 cd19 ct19 oc20 kV20 dc20 pm20 cd20 ct20 oc21 kV21 dc21 pm21 cd21 ct21 oc22 kV22 dc22 pm22 cd22 ct22 oc23 kV23 dc23 pm23 cd23 ct23 oc24 kV24 dc24 pm24 cd24 ct24 oc25 kV25 dc25 pm25 cd25 ct25 oc26 kV26 dc26 pm26 cd26 ct26 oc27 kV27 dc27 pm27 cd27 ct27 oc28 kV28 dc28 pm28 cd28 ct28 oc29 kV29 dc29 pm29 cd29 ct29 oc30 kV30 dc30 pm30 cd30 ct30 oc31 kV31 dc31 pm31 cd31 ct31 : Value}
    (a1 : PySem.W.nsIn K mainGlobals "number_thing" = some (some (.ref f1))) (l1 : K.lookup f1 = some ⟨oc1, od1, .func (PySem.W.fnOf "number_thing" "number_thing" (defArgs s_p_number_thing) (defBody s_p_number_thing) (defScope s_p_number_thing) .none kV1 dc1 pm1 an1 cd1 ct1), sl1⟩) (c1 : PySem.W.codeIn K cd1 "number_thing" = true) (k1 : PySem.W.keepIn K (.ref f1) = true)
    (a2 : PySem.W.nsIn K mainGlobals "plus_does" = some (some (.ref f2))) (l2 : K.lookup f2 = some ⟨oc2, od2, .func (PySem.W.fnOf "plus_does" "plus_does" (defArgs s_p_plus_does) (defBody s_p_plus_does) (defScope s_p_plus_does) .none kV2 dc2 pm2 an2 cd2 ct2), sl2⟩) (c2 : PySem.W.codeIn K cd2 "plus_does" = true) (k2 : PySem.W.keepIn K (.ref f2) = true)
    (a3 : PySem.W.nsIn K mainGlobals "minus_does" = some (some (.ref f3))) (l3 : K.lookup f3 = some ⟨oc3, od3, .func (PySem.W.fnOf "minus_does" "minus_does" (defArgs s_p_minus_does) (defBody s_p_minus_does) (defScope s_p_minus_does) .none kV3 dc3 pm3 an3 cd3 ct3), sl3⟩) (c3 : PySem.W.codeIn K cd3 "minus_does" = true) (k3 : PySem.W.keepIn K (.ref f3) = true)
    (a4 : PySem.W.nsIn K mainGlobals "times_does" = some (some (.ref f4))) (l4 : K.lookup f4 = some ⟨oc4, od4, .func (PySem.W.fnOf "times_does" "times_does" (defArgs s_p_times_does) (defBody s_p_times_does) (defScope s_p_times_does) .none kV4 dc4 pm4 an4 cd4 ct4), sl4⟩) (c4 : PySem.W.codeIn K cd4 "times_does" = true) (k4 : PySem.W.keepIn K (.ref f4) = true)
    (a5 : PySem.W.nsIn K mainGlobals "less_does" = some (some (.ref f5))) (l5 : K.lookup f5 = some ⟨oc5, od5, .func (PySem.W.fnOf "less_does" "less_does" (defArgs s_p_less_does) (defBody s_p_less_does) (defScope s_p_less_does) .none kV5 dc5 pm5 an5 cd5 ct5), sl5⟩) (c5 : PySem.W.codeIn K cd5 "less_does" = true) (k5 : PySem.W.keepIn K (.ref f5) = true)
    (a6 : PySem.W.nsIn K mainGlobals "same_does" = some (some (.ref f6))) (l6 : K.lookup f6 = some ⟨oc6, od6, .func (PySem.W.fnOf "same_does" "same_does" (defArgs s_p_same_does) (defBody s_p_same_does) (defScope s_p_same_does) .none kV6 dc6 pm6 an6 cd6 ct6), sl6⟩) (c6 : PySem.W.codeIn K cd6 "same_does" = true) (k6 : PySem.W.keepIn K (.ref f6) = true)
    (a7 : PySem.W.nsIn K mainGlobals "join_does" = some (some (.ref f7))) (l7 : K.lookup f7 = some ⟨oc7, od7, .func (PySem.W.fnOf "join_does" "join_does" (defArgs s_p_join_does) (defBody s_p_join_does) (defScope s_p_join_does) .none kV7 dc7 pm7 an7 cd7 ct7), sl7⟩) (c7 : PySem.W.codeIn K cd7 "join_does" = true) (k7 : PySem.W.keepIn K (.ref f7) = true)
    (a8 : PySem.W.nsIn K mainGlobals "wrap_does" = some (some (.ref f8))) (l8 : K.lookup f8 = some ⟨oc8, od8, .func (PySem.W.fnOf "wrap_does" "wrap_does" (defArgs s_p_wrap_does) (defBody s_p_wrap_does) (defScope s_p_wrap_does) .none kV8 dc8 pm8 an8 cd8 ct8), sl8⟩) (c8 : PySem.W.codeIn K cd8 "wrap_does" = true) (k8 : PySem.W.keepIn K (.ref f8) = true)
    (a9 : PySem.W.nsIn K mainGlobals "put_does" = some (some (.ref f9))) (l9 : K.lookup f9 = some ⟨oc9, od9, .func (PySem.W.fnOf "put_does" "put_does" (defArgs s_p_put_does) (defBody s_p_put_does) (defScope s_p_put_does) .none kV9 dc9 pm9 an9 cd9 ct9), sl9⟩) (c9 : PySem.W.codeIn K cd9 "put_does" = true) (k9 : PySem.W.keepIn K (.ref f9) = true)
    (a10 : PySem.W.nsIn K mainGlobals "effect_of_basic" = some (some (.ref f10))) (l10 : K.lookup f10 = some ⟨oc10, od10, .func (PySem.W.fnOf "effect_of_basic" "effect_of_basic" (defArgs s_p_effect_of_basic) (defBody s_p_effect_of_basic) (defScope s_p_effect_of_basic) .none kV10 dc10 pm10 an10 cd10 ct10), sl10⟩) (c10 : PySem.W.codeIn K cd10 "effect_of_basic" = true) (k10 : PySem.W.keepIn K (.ref f10) = true)
    (a11 : PySem.W.nsIn K mainGlobals "top_of" = some (some (.ref f11))) (l11 : K.lookup f11 = some ⟨oc11, od11, .func (PySem.W.fnOf "top_of" "top_of" (defArgs s_p_top_of) (defBody s_p_top_of) (defScope s_p_top_of) .none kV11 dc11 pm11 an11 cd11 ct11), sl11⟩) (c11 : PySem.W.codeIn K cd11 "top_of" = true) (k11 : PySem.W.keepIn K (.ref f11) = true)
    (a12 : PySem.W.nsIn K mainGlobals "held_as" = some (some (.ref f12))) (l12 : K.lookup f12 = some ⟨oc12, od12, .func (PySem.W.fnOf "held_as" "held_as" (defArgs s_p_held_as) (defBody s_p_held_as) (defScope s_p_held_as) .none kV12 dc12 pm12 an12 cd12 ct12), sl12⟩) (c12 : PySem.W.codeIn K cd12 "held_as" = true) (k12 : PySem.W.keepIn K (.ref f12) = true)
    (a13 : PySem.W.nsIn K mainGlobals "run_code" = some (some (.ref f13))) (l13 : K.lookup f13 = some ⟨oc13, od13, .func (PySem.W.fnOf "run_code" "run_code" (defArgs s_p_run_code) (defBody s_p_run_code) (defScope s_p_run_code) .none kV13 dc13 pm13 an13 cd13 ct13), sl13⟩) (c13 : PySem.W.codeIn K cd13 "run_code" = true) (k13 : PySem.W.keepIn K (.ref f13) = true)
    (a14 : PySem.W.nsIn K mainGlobals "do_op" = some (some (.ref f14))) (l14 : K.lookup f14 = some ⟨oc14, od14, .func (PySem.W.fnOf "do_op" "do_op" (defArgs s_p_do_op) (defBody s_p_do_op) (defScope s_p_do_op) .none kV14 dc14 pm14 an14 cd14 ct14), sl14⟩) (c14 : PySem.W.codeIn K cd14 "do_op" = true) (k14 : PySem.W.keepIn K (.ref f14) = true)
    (a15 : PySem.W.nsIn K mainGlobals "_law_mixed" = some (some (.ref f15))) (l15 : K.lookup f15 = some ⟨oc15, od15, .func (PySem.W.fnOf "_law_mixed" "_law_mixed" (defArgs s_L_mixed) (defBody s_L_mixed) (defScope s_L_mixed) .none kV15 dc15 pm15 an15 cd15 ct15), sl15⟩) (c15 : PySem.W.codeIn K cd15 "_law_mixed" = true) (k15 : PySem.W.keepIn K (.ref f15) = true)
    (a16 : PySem.W.nsIn K mainGlobals "_law_deck" = some (some (.ref f16))) (l16 : K.lookup f16 = some ⟨oc16, od16, .func (PySem.W.fnOf "_law_deck" "_law_deck" (defArgs s_L_deck) (defBody s_L_deck) (defScope s_L_deck) .none kV16 dc16 pm16 an16 cd16 ct16), sl16⟩) (c16 : PySem.W.codeIn K cd16 "_law_deck" = true) (k16 : PySem.W.keepIn K (.ref f16) = true)
    (a17 : PySem.W.nsIn K mainGlobals "_law_draw" = some (some (.ref f17))) (l17 : K.lookup f17 = some ⟨oc17, od17, .func (PySem.W.fnOf "_law_draw" "_law_draw" (defArgs s_L_draw) (defBody s_L_draw) (defScope s_L_draw) .none kV17 dc17 pm17 an17 cd17 ct17), sl17⟩) (c17 : PySem.W.codeIn K cd17 "_law_draw" = true) (k17 : PySem.W.keepIn K (.ref f17) = true)
    (a18 : PySem.W.nsIn K mainGlobals "_law_size" = some (some (.ref f18))) (l18 : K.lookup f18 = some ⟨oc18, od18, .func (PySem.W.fnOf "_law_size" "_law_size" (defArgs s_L_size) (defBody s_L_size) (defScope s_L_size) .none kV18 dc18 pm18 an18 cd18 ct18), sl18⟩) (c18 : PySem.W.codeIn K cd18 "_law_size" = true) (k18 : PySem.W.keepIn K (.ref f18) = true)
    (a19 : PySem.W.nsIn K mainGlobals "_law_cut" = some (some (.ref f19))) (l19 : K.lookup f19 = some ⟨oc19, od19, .func (PySem.W.fnOf "_law_cut" "_law_cut" (defArgs s_L_cut) (defBody s_L_cut) (defScope s_L_cut) .none kV19 dc19 pm19 an19 cd19 ct19), sl19⟩) (c19 : PySem.W.codeIn K cd19 "_law_cut" = true) (k19 : PySem.W.keepIn K (.ref f19) = true)
    (a20 : PySem.W.nsIn K mainGlobals "_law_number" = some (some (.ref f20))) (l20 : K.lookup f20 = some ⟨oc20, od20, .func (PySem.W.fnOf "_law_number" "_law_number" (defArgs s_L_number) (defBody s_L_number) (defScope s_L_number) .none kV20 dc20 pm20 an20 cd20 ct20), sl20⟩) (c20 : PySem.W.codeIn K cd20 "_law_number" = true) (k20 : PySem.W.keepIn K (.ref f20) = true)
    (a21 : PySem.W.nsIn K mainGlobals "_law_thing" = some (some (.ref f21))) (l21 : K.lookup f21 = some ⟨oc21, od21, .func (PySem.W.fnOf "_law_thing" "_law_thing" (defArgs s_L_thing) (defBody s_L_thing) (defScope s_L_thing) .none kV21 dc21 pm21 an21 cd21 ct21), sl21⟩) (c21 : PySem.W.codeIn K cd21 "_law_thing" = true) (k21 : PySem.W.keepIn K (.ref f21) = true)
    (a22 : PySem.W.nsIn K mainGlobals "_law_shuffle" = some (some (.ref f22))) (l22 : K.lookup f22 = some ⟨oc22, od22, .func (PySem.W.fnOf "_law_shuffle" "_law_shuffle" (defArgs s_L_shuffle) (defBody s_L_shuffle) (defScope s_L_shuffle) .none kV22 dc22 pm22 an22 cd22 ct22), sl22⟩) (c22 : PySem.W.codeIn K cd22 "_law_shuffle" = true) (k22 : PySem.W.keepIn K (.ref f22) = true)
    (a23 : PySem.W.nsIn K mainGlobals "_law_any_word" = some (some (.ref f23))) (l23 : K.lookup f23 = some ⟨oc23, od23, .func (PySem.W.fnOf "_law_any_word" "_law_any_word" (defArgs s_L_any_word) (defBody s_L_any_word) (defScope s_L_any_word) .none kV23 dc23 pm23 an23 cd23 ct23), sl23⟩) (c23 : PySem.W.codeIn K cd23 "_law_any_word" = true) (k23 : PySem.W.keepIn K (.ref f23) = true)
    (a24 : PySem.W.nsIn K mainGlobals "_law_op" = some (some (.ref f24))) (l24 : K.lookup f24 = some ⟨oc24, od24, .func (PySem.W.fnOf "_law_op" "_law_op" (defArgs s_L_op) (defBody s_L_op) (defScope s_L_op) .none kV24 dc24 pm24 an24 cd24 ct24), sl24⟩) (c24 : PySem.W.codeIn K cd24 "_law_op" = true) (k24 : PySem.W.keepIn K (.ref f24) = true)
    (a25 : PySem.W.nsIn K mainGlobals "_law_made" = some (some (.ref f25))) (l25 : K.lookup f25 = some ⟨oc25, od25, .func (PySem.W.fnOf "_law_made" "_law_made" (defArgs s_L_made) (defBody s_L_made) (defScope s_L_made) .none kV25 dc25 pm25 an25 cd25 ct25), sl25⟩) (c25 : PySem.W.codeIn K cd25 "_law_made" = true) (k25 : PySem.W.keepIn K (.ref f25) = true)
    (a26 : PySem.W.nsIn K mainGlobals "_law_code" = some (some (.ref f26))) (l26 : K.lookup f26 = some ⟨oc26, od26, .func (PySem.W.fnOf "_law_code" "_law_code" (defArgs s_L_code) (defBody s_L_code) (defScope s_L_code) .none kV26 dc26 pm26 an26 cd26 ct26), sl26⟩) (c26 : PySem.W.codeIn K cd26 "_law_code" = true) (k26 : PySem.W.keepIn K (.ref f26) = true)
    (a27 : PySem.W.nsIn K mainGlobals "_law_deep" = some (some (.ref f27))) (l27 : K.lookup f27 = some ⟨oc27, od27, .func (PySem.W.fnOf "_law_deep" "_law_deep" (defArgs s_L_deep) (defBody s_L_deep) (defScope s_L_deep) .none kV27 dc27 pm27 an27 cd27 ct27), sl27⟩) (c27 : PySem.W.codeIn K cd27 "_law_deep" = true) (k27 : PySem.W.keepIn K (.ref f27) = true)
    (a28 : PySem.W.nsIn K mainGlobals "_law_pair_op" = some (some (.ref f28))) (l28 : K.lookup f28 = some ⟨oc28, od28, .func (PySem.W.fnOf "_law_pair_op" "_law_pair_op" (defArgs s_L_pair_op) (defBody s_L_pair_op) (defScope s_L_pair_op) .none kV28 dc28 pm28 an28 cd28 ct28), sl28⟩) (c28 : PySem.W.codeIn K cd28 "_law_pair_op" = true) (k28 : PySem.W.keepIn K (.ref f28) = true)
    (a29 : PySem.W.nsIn K mainGlobals "_law_told" = some (some (.ref f29))) (l29 : K.lookup f29 = some ⟨oc29, od29, .func (PySem.W.fnOf "_law_told" "_law_told" (defArgs s_L_told) (defBody s_L_told) (defScope s_L_told) .none kV29 dc29 pm29 an29 cd29 ct29), sl29⟩) (c29 : PySem.W.codeIn K cd29 "_law_told" = true) (k29 : PySem.W.keepIn K (.ref f29) = true)
    (a30 : PySem.W.nsIn K mainGlobals "_law_run_told" = some (some (.ref f30))) (l30 : K.lookup f30 = some ⟨oc30, od30, .func (PySem.W.fnOf "_law_run_told" "_law_run_told" (defArgs s_L_run_told) (defBody s_L_run_told) (defScope s_L_run_told) .none kV30 dc30 pm30 an30 cd30 ct30), sl30⟩) (c30 : PySem.W.codeIn K cd30 "_law_run_told" = true) (k30 : PySem.W.keepIn K (.ref f30) = true)
    (a31 : PySem.W.nsIn K mainGlobals "law" = some (some (.ref f31))) (l31 : K.lookup f31 = some ⟨oc31, od31, .func (PySem.W.fnOf "law" "law" (defArgs s_L_law) (defBody s_L_law) (defScope s_L_law) .none kV31 dc31 pm31 an31 cd31 ct31), sl31⟩) (c31 : PySem.W.codeIn K cd31 "law" = true) (k31 : PySem.W.keepIn K (.ref f31) = true)
    (z_len : PySem.W.nsIn K mainGlobals "len" = some none)
    (z_isinstance : PySem.W.nsIn K mainGlobals "isinstance" = some none)
    (z_int : PySem.W.nsIn K mainGlobals "int" = some none)
    (z_str : PySem.W.nsIn K mainGlobals "str" = some none)
    (z_tuple : PySem.W.nsIn K mainGlobals "tuple" = some none)
    (z_list : PySem.W.nsIn K mainGlobals "list" = some none)
    (z_bool : PySem.W.nsIn K mainGlobals "bool" = some none)
    (z_dict : PySem.W.nsIn K mainGlobals "dict" = some none)
    (z_all : PySem.W.nsIn K mainGlobals "all" = some none)
    (z_any : PySem.W.nsIn K mainGlobals "any" = some none)
    (z_sum : PySem.W.nsIn K mainGlobals "sum" = some none)
    (z_sorted : PySem.W.nsIn K mainGlobals "sorted" = some none)
    (z_set : PySem.W.nsIn K mainGlobals "set" = some none)
    (z_range : PySem.W.nsIn K mainGlobals "range" = some none)
    (z_enumerate : PySem.W.nsIn K mainGlobals "enumerate" = some none)
    (z_zip : PySem.W.nsIn K mainGlobals "zip" = some none)
    (z_reversed : PySem.W.nsIn K mainGlobals "reversed" = some none)
    (z_ValueError : PySem.W.nsIn K mainGlobals "ValueError" = some none)
    (z_max : PySem.W.nsIn K mainGlobals "max" = some none)
    {tN : Tok} (g_NUMBERS : PySem.W.nsIn K mainGlobals "NUMBERS" = some (some (.int 1000000000000 tN)))
    {dS : Addr} (g_SORTS_TAKEN : PySem.W.nsIn K mainGlobals "SORTS_TAKEN" = some (some (.ref dS)))
    {dD : Addr} (g_DOES : PySem.W.nsIn K mainGlobals "DOES" = some (some (.ref dD)))
    {e_TakeError : Addr} (g_TakeError : PySem.W.nsIn K mainGlobals "TakeError" = some (some (.ref e_TakeError)))
    {e_NoStep : Addr} (g_NoStep : PySem.W.nsIn K mainGlobals "NoStep" = some (some (.ref e_NoStep)))
    {e_NoText : Addr} (g_NoText : PySem.W.nsIn K mainGlobals "NoText" = some (some (.ref e_NoText)))
    {e_NoCode : Addr} (g_NoCode : PySem.W.nsIn K mainGlobals "NoCode" = some (some (.ref e_NoCode)))
    (aC : PySem.W.nsIn K mainGlobals "CodeRun" = some (some (.ref C)))
    (am0 : PySem.W.findIn K (.ref C) "__init__" = some (some (.ref q0)))
    (im0 : PySem.W.isFn K (.ref q0) = true)
    (lm0 : K.lookup q0 = some ⟨moc0, mod0, .func (PySem.W.fnOf "__init__" "CodeRun.__init__" (defArgs s_p_CodeRun_init) (defBody s_p_CodeRun_init) (defScope s_p_CodeRun_init) .none mkV0 mdc0 mpm0 man0 mcd0 mct0), msl0⟩)
    (cm0 : PySem.W.codeIn K mcd0 "CodeRun.__init__" = true)
    (km0 : PySem.W.keepIn K (.ref q0) = true)
    (am1 : PySem.W.findIn K (.ref C) "things_in" = some (some (.ref q1)))
    (im1 : PySem.W.isFn K (.ref q1) = true)
    (lm1 : K.lookup q1 = some ⟨moc1, mod1, .func (PySem.W.fnOf "things_in" "CodeRun.things_in" (defArgs s_p_CodeRun_things_in) (defBody s_p_CodeRun_things_in) (defScope s_p_CodeRun_things_in) .none mkV1 mdc1 mpm1 man1 mcd1 mct1), msl1⟩)
    (cm1 : PySem.W.codeIn K mcd1 "CodeRun.things_in" = true)
    (km1 : PySem.W.keepIn K (.ref q1) = true)
    (pgC : PySem.W.plainGet K C Str.empty = true)
    (hdC : PySem.W.hasDictIn K C = true)
    (poC : PySem.W.plainOver K C = true)
    (saC : PySem.W.findIn K (.ref C) "__setattr__" = some (some (.builtin "object.__setattr__")))
    (mkC : PySem.W.makesIn K C = true)
    (kcC : PySem.W.keepIn K (.ref C) = true)
    (nC1 : PySem.W.findIn K (.ref C) "cells" = some none)
    (nT1 : PySem.W.findIn K (.ref C) "todo" = some none)
    (nO1 : PySem.W.findIn K (.ref C) "outs" = some none)
    (xt3 : K.lookup dS = some ⟨.type "dict", none, .dict es3 en3, #[]⟩)
    (xk3 : PySem.W.KeysLit w.params es3.toList)
    (xi3 : K64.MAK.all (fun z => match DD.itTx K dS z with | some l => decide (l = K64.srt z) | none => false) = true)
    (xt4 : K.lookup dD = some ⟨.type "dict", none, .dict es4 en4, #[]⟩)
    (xk4 : PySem.W.KeysLit w.params es4.toList)
    (y_plus_ : PySem.W.nsIn K dD "plus" = some (some (.ref f2)))
    (y_minus_ : PySem.W.nsIn K dD "minus" = some (some (.ref f3)))
    (y_times_ : PySem.W.nsIn K dD "times" = some (some (.ref f4)))
    (y_less_ : PySem.W.nsIn K dD "less" = some (some (.ref f5)))
    (y_same_ : PySem.W.nsIn K dD "same" = some (some (.ref f6)))
    (y_put_ : PySem.W.nsIn K dD "put" = some (some (.ref f9)))
    (y_join_ : PySem.W.nsIn K dD "join" = some (some (.ref f7)))
    (y_wrap_ : PySem.W.nsIn K dD "wrap" = some (some (.ref f8)))
    (xP : PySem.W.excIn K e_NoStep [.type "ValueError", .type "Exception", .type "BaseException", .type "object"] "ValueError.__new__" = true)
    (kP : PySem.W.keepIn K (.ref e_NoStep) = true)
    (bP : PySem.W.subIn K (.ref e_NoStep) (.type "BaseException") = some true)
    (tP : PySem.W.typeIn K (.ref e_NoStep) = some (.type "type"))
    (e1 : PySem.W.subIn K (.ref e_TakeError) (.type "BaseException") = some true)
    (e2 : PySem.W.hasDictIn K e_TakeError = true)
    (e3 : PySem.W.typeIn K (.ref e_TakeError) = some (.type "type"))
    (e4 : PySem.W.subIn K (.ref e_NoStep) (.ref e_TakeError) = some true)
    (h1 : PySem.W.findIn K (.ref e_NoStep) "__getattribute__" = some (some (.builtin "BaseException.__getattribute__")))
    (h2 : PySem.W.findIn K (.ref e_NoStep) "__getattr__" = some none)
    (h4 : PySem.W.hasDictIn K e_NoStep = true)
    (h5 : PySem.W.findIn K (.ref e_NoStep) "__class__" = some (some (.builtin "object.__class__")))
    (h6 : PySem.W.specialIn K (.builtin "object.__class__") "__get__" = some (some (.builtin "getset_descriptor.__get__")))
    (h7 : PySem.W.takesIn K (.builtin "object.__class__") = some true)
    (h8 : PySem.W.mroIn K e_NoStep (.type "object") = some true)
    (ktt : PySem.W.kitOne K (.ref e_NoStep) (.ref e_NoStep) = some true)
    (qv : PySem.W.kitOne K (.ref e_NoStep) (.type "ValueError") = some true)
    (kz_NoText : PySem.W.kitOne K (.ref e_NoStep) (.ref e_NoText) = some false)
    (kz_NoCode : PySem.W.kitOne K (.ref e_NoStep) (.ref e_NoCode) = some false)
    (sNN : PySem.W.subIn K (.ref e_NoStep) (.ref e_NoStep) = some true)
    (kzT : PySem.W.kitOne K (.ref e_NoStep) (.ref e_TakeError) = some true)
    : ∃ fd : FuncData, (∀ (s : Shared) (v : Value), BindsTo s fd ⟨[v], []⟩ [("_law_script", v)]) ∧ ∀ base : Heap, K.In base → base.Ns mainGlobals mg → FnOk l.prog w K mg base CX0 101 fa fd ["_law_script"] (spLaw K) := by
  have e := hfa.symm.trans (PySem.W.mg_of X G a31)
  cases e
  have F1 := fun_mk (st := s_p_number_thing) l1 c1 k1
  have b1 := F1.binds (ps := ["n"]) fun _ _ _ _ _ _ us hl => match us, hl with | [_], _ => rfl
  have m1 := PySem.W.mg_of X G a1
  have F2 := fun_mk (st := s_p_plus_does) l2 c2 k2
  have b2 := F2.binds (ps := ["held"]) fun _ _ _ _ _ _ us hl => match us, hl with | [_], _ => rfl
  have m2 := PySem.W.mg_of X G a2
  have F3 := fun_mk (st := s_p_minus_does) l3 c3 k3
  have b3 := F3.binds (ps := ["held"]) fun _ _ _ _ _ _ us hl => match us, hl with | [_], _ => rfl
  have m3 := PySem.W.mg_of X G a3
  have F4 := fun_mk (st := s_p_times_does) l4 c4 k4
  have b4 := F4.binds (ps := ["held"]) fun _ _ _ _ _ _ us hl => match us, hl with | [_], _ => rfl
  have m4 := PySem.W.mg_of X G a4
  have F5 := fun_mk (st := s_p_less_does) l5 c5 k5
  have b5 := F5.binds (ps := ["held"]) fun _ _ _ _ _ _ us hl => match us, hl with | [_], _ => rfl
  have m5 := PySem.W.mg_of X G a5
  have F6 := fun_mk (st := s_p_same_does) l6 c6 k6
  have b6 := F6.binds (ps := ["held"]) fun _ _ _ _ _ _ us hl => match us, hl with | [_], _ => rfl
  have m6 := PySem.W.mg_of X G a6
  have F7 := fun_mk (st := s_p_join_does) l7 c7 k7
  have b7 := F7.binds (ps := ["held"]) fun _ _ _ _ _ _ us hl => match us, hl with | [_], _ => rfl
  have m7 := PySem.W.mg_of X G a7
  have F8 := fun_mk (st := s_p_wrap_does) l8 c8 k8
  have b8 := F8.binds (ps := ["held"]) fun _ _ _ _ _ _ us hl => match us, hl with | [_], _ => rfl
  have m8 := PySem.W.mg_of X G a8
  have F9 := fun_mk (st := s_p_put_does) l9 c9 k9
  have b9 := F9.binds (ps := ["held"]) fun _ _ _ _ _ _ us hl => match us, hl with | [_], _ => rfl
  have m9 := PySem.W.mg_of X G a9
  have F10 := fun_mk (st := s_p_effect_of_basic) l10 c10 k10
  have b10 := F10.binds (ps := ["word", "stack"]) fun _ _ _ _ _ _ us hl => match us, hl with | [_, _], _ => rfl
  have m10 := PySem.W.mg_of X G a10
  have F11 := fun_mk (st := s_p_top_of) l11 c11 k11
  have b11 := F11.binds (ps := ["stack", "many"]) fun _ _ _ _ _ _ us hl => match us, hl with | [_, _], _ => rfl
  have m11 := PySem.W.mg_of X G a11
  have F12 := fun_mk (st := s_p_held_as) l12 c12 k12
  have b12 := F12.binds (ps := ["sort", "thing"]) fun _ _ _ _ _ _ us hl => match us, hl with | [_, _], _ => rfl
  have m12 := PySem.W.mg_of X G a12
  have F13 := fun_mk (st := s_p_run_code) l13 c13 k13
  have b13 := F13.binds (ps := ["code", "things"]) fun _ _ _ _ _ _ us hl => match us, hl with | [_, _], _ => rfl
  have m13 := PySem.W.mg_of X G a13
  have F14 := fun_mk (st := s_p_do_op) l14 c14 k14
  have b14 := F14.binds (ps := ["runs", "now", "op"]) fun _ _ _ _ _ _ us hl => match us, hl with | [_, _, _], _ => rfl
  have m14 := PySem.W.mg_of X G a14
  have F15 := fun_mk (st := s_L_mixed) l15 c15 k15
  have b15 := F15.binds (ps := ["_law_number_here"]) fun _ _ _ _ _ _ us hl => match us, hl with | [_], _ => rfl
  have m15 := PySem.W.mg_of X G a15
  have F16 := fun_mk (st := s_L_deck) l16 c16 k16
  have b16 := F16.binds (ps := ["_law_script", "_law_most"]) fun _ _ _ _ _ _ us hl => match us, hl with | [_, _], _ => rfl
  have m16 := PySem.W.mg_of X G a16
  have F17 := fun_mk (st := s_L_draw) l17 c17 k17
  have b17 := F17.binds (ps := ["_law_deck_here", "_law_most"]) fun _ _ _ _ _ _ us hl => match us, hl with | [_, _], _ => rfl
  have m17 := PySem.W.mg_of X G a17
  have F18 := fun_mk (st := s_L_size) l18 c18 k18
  have b18 := F18.binds (ps := ["_law_things"]) fun _ _ _ _ _ _ us hl => match us, hl with | [_], _ => rfl
  have m18 := PySem.W.mg_of X G a18
  have F19 := fun_mk (st := s_L_cut) l19 c19 k19
  have b19 := F19.binds (ps := ["_law_words", "_law_most"]) fun _ _ _ _ _ _ us hl => match us, hl with | [_, _], _ => rfl
  have m19 := PySem.W.mg_of X G a19
  have F20 := fun_mk (st := s_L_number) l20 c20 k20
  have b20 := F20.binds (ps := ["_law_deck_here"]) fun _ _ _ _ _ _ us hl => match us, hl with | [_], _ => rfl
  have m20 := PySem.W.mg_of X G a20
  have F21 := fun_mk (st := s_L_thing) l21 c21 k21
  have b21 := F21.binds (ps := ["_law_deck_here", "_law_deep_here"]) fun _ _ _ _ _ _ us hl => match us, hl with | [_, _], _ => rfl
  have m21 := PySem.W.mg_of X G a21
  have F22 := fun_mk (st := s_L_shuffle) l22 c22 k22
  have b22 := F22.binds (ps := ["_law_deck_here", "_law_most"]) fun _ _ _ _ _ _ us hl => match us, hl with | [_, _], _ => rfl
  have m22 := PySem.W.mg_of X G a22
  have F23 := fun_mk (st := s_L_any_word) l23 c23 k23
  have b23 := F23.binds (ps := ["_law_deck_here", "_law_deep_here"]) fun _ _ _ _ _ _ us hl => match us, hl with | [_, _], _ => rfl
  have m23 := PySem.W.mg_of X G a23
  have F24 := fun_mk (st := s_L_op) l24 c24 k24
  have b24 := F24.binds (ps := ["_law_deck_here", "_law_many", "_law_deep_here"]) fun _ _ _ _ _ _ us hl => match us, hl with | [_, _, _], _ => rfl
  have m24 := PySem.W.mg_of X G a24
  have F25 := fun_mk (st := s_L_made) l25 c25 k25
  have b25 := F25.binds (ps := ["_law_op_here"]) fun _ _ _ _ _ _ us hl => match us, hl with | [_], _ => rfl
  have m25 := PySem.W.mg_of X G a25
  have F26 := fun_mk (st := s_L_code) l26 c26 k26
  have b26 := F26.binds (ps := ["_law_deck_here", "_law_takes", "_law_wide", "_law_deep_here"]) fun _ _ _ _ _ _ us hl => match us, hl with | [_, _, _, _], _ => rfl
  have m26 := PySem.W.mg_of X G a26
  have F27 := fun_mk (st := s_L_deep) l27 c27 k27
  have b27 := F27.binds (ps := ["_law_thing_here"]) fun _ _ _ _ _ _ us hl => match us, hl with | [_], _ => rfl
  have m27 := PySem.W.mg_of X G a27
  have F28 := fun_mk (st := s_L_pair_op) l28 c28 k28
  have b28 := F28.binds (ps := ["_law_word", "_law_one", "_law_other"]) fun _ _ _ _ _ _ us hl => match us, hl with | [_, _, _], _ => rfl
  have m28 := PySem.W.mg_of X G a28
  have F29 := fun_mk (st := s_L_told) l29 c29 k29
  have b29 := F29.binds (ps := ["_law_code_here", "_law_things"]) fun _ _ _ _ _ _ us hl => match us, hl with | [_, _], _ => rfl
  have m29 := PySem.W.mg_of X G a29
  have F30 := fun_mk (st := s_L_run_told) l30 c30 k30
  have b30 := F30.binds (ps := ["_law_code_here", "_law_things"]) fun _ _ _ _ _ _ us hl => match us, hl with | [_, _], _ => rfl
  have m30 := PySem.W.mg_of X G a30
  have F31 := fun_mk (st := s_L_law) l31 c31 k31
  have y_len := PySem.W.mg_none_of X G z_len
  have y_isinstance := PySem.W.mg_none_of X G z_isinstance
  have y_int := PySem.W.mg_none_of X G z_int
  have y_str := PySem.W.mg_none_of X G z_str
  have y_tuple := PySem.W.mg_none_of X G z_tuple
  have y_list := PySem.W.mg_none_of X G z_list
  have y_bool := PySem.W.mg_none_of X G z_bool
  have y_dict := PySem.W.mg_none_of X G z_dict
  have y_all := PySem.W.mg_none_of X G z_all
  have y_any := PySem.W.mg_none_of X G z_any
  have y_sum := PySem.W.mg_none_of X G z_sum
  have y_sorted := PySem.W.mg_none_of X G z_sorted
  have y_set := PySem.W.mg_none_of X G z_set
  have y_range := PySem.W.mg_none_of X G z_range
  have y_enumerate := PySem.W.mg_none_of X G z_enumerate
  have y_zip := PySem.W.mg_none_of X G z_zip
  have y_reversed := PySem.W.mg_none_of X G z_reversed
  have y_ValueError := PySem.W.mg_none_of X G z_ValueError
  have y_max := PySem.W.mg_none_of X G z_max
  have v_NUMBERS := PySem.W.mg_of X G g_NUMBERS
  have v_SORTS_TAKEN := PySem.W.mg_of X G g_SORTS_TAKEN
  have v_DOES := PySem.W.mg_of X G g_DOES
  have v_TakeError := PySem.W.mg_of X G g_TakeError
  have v_NoStep := PySem.W.mg_of X G g_NoStep
  have v_NoText := PySem.W.mg_of X G g_NoText
  have v_NoCode := PySem.W.mg_of X G g_NoCode
  refine ⟨PySem.W.fnOf "law" "law" (defArgs s_L_law) (defBody s_L_law) (defScope s_L_law) .none kV31 dc31 pm31 an31 cd31 ct31, fun s v => .of_eq rfl, fun base _ _ => ?_⟩
  have B : BI mg := ⟨y_len, y_isinstance, y_int, y_str, y_tuple, y_list, y_bool, y_dict, y_all, y_any, y_sum, y_sorted, y_set, y_range, y_enumerate, y_zip, y_reversed⟩
  have t_p_number_thing : At K mg "number_thing" s_p_number_thing ["n"] := ⟨f1, _, F1, b1, m1⟩
  have t_p_plus_does : At K mg "plus_does" s_p_plus_does ["held"] := ⟨f2, _, F2, b2, m2⟩
  have t_p_minus_does : At K mg "minus_does" s_p_minus_does ["held"] := ⟨f3, _, F3, b3, m3⟩
  have t_p_times_does : At K mg "times_does" s_p_times_does ["held"] := ⟨f4, _, F4, b4, m4⟩
  have t_p_less_does : At K mg "less_does" s_p_less_does ["held"] := ⟨f5, _, F5, b5, m5⟩
  have t_p_same_does : At K mg "same_does" s_p_same_does ["held"] := ⟨f6, _, F6, b6, m6⟩
  have t_p_join_does : At K mg "join_does" s_p_join_does ["held"] := ⟨f7, _, F7, b7, m7⟩
  have t_p_wrap_does : At K mg "wrap_does" s_p_wrap_does ["held"] := ⟨f8, _, F8, b8, m8⟩
  have t_p_put_does : At K mg "put_does" s_p_put_does ["held"] := ⟨f9, _, F9, b9, m9⟩
  have t_p_effect_of_basic : At K mg "effect_of_basic" s_p_effect_of_basic ["word", "stack"] := ⟨f10, _, F10, b10, m10⟩
  have t_p_top_of : At K mg "top_of" s_p_top_of ["stack", "many"] := ⟨f11, _, F11, b11, m11⟩
  have t_p_held_as : At K mg "held_as" s_p_held_as ["sort", "thing"] := ⟨f12, _, F12, b12, m12⟩
  have t_p_run_code : At K mg "run_code" s_p_run_code ["code", "things"] := ⟨f13, _, F13, b13, m13⟩
  have t_p_do_op : At K mg "do_op" s_p_do_op ["runs", "now", "op"] := ⟨f14, _, F14, b14, m14⟩
  have t_L_mixed : At K mg "_law_mixed" s_L_mixed ["_law_number_here"] := ⟨f15, _, F15, b15, m15⟩
  have t_L_deck : At K mg "_law_deck" s_L_deck ["_law_script", "_law_most"] := ⟨f16, _, F16, b16, m16⟩
  have t_L_draw : At K mg "_law_draw" s_L_draw ["_law_deck_here", "_law_most"] := ⟨f17, _, F17, b17, m17⟩
  have t_L_size : At K mg "_law_size" s_L_size ["_law_things"] := ⟨f18, _, F18, b18, m18⟩
  have t_L_cut : At K mg "_law_cut" s_L_cut ["_law_words", "_law_most"] := ⟨f19, _, F19, b19, m19⟩
  have t_L_number : At K mg "_law_number" s_L_number ["_law_deck_here"] := ⟨f20, _, F20, b20, m20⟩
  have t_L_thing : At K mg "_law_thing" s_L_thing ["_law_deck_here", "_law_deep_here"] := ⟨f21, _, F21, b21, m21⟩
  have t_L_shuffle : At K mg "_law_shuffle" s_L_shuffle ["_law_deck_here", "_law_most"] := ⟨f22, _, F22, b22, m22⟩
  have t_L_any_word : At K mg "_law_any_word" s_L_any_word ["_law_deck_here", "_law_deep_here"] := ⟨f23, _, F23, b23, m23⟩
  have t_L_op : At K mg "_law_op" s_L_op ["_law_deck_here", "_law_many", "_law_deep_here"] := ⟨f24, _, F24, b24, m24⟩
  have t_L_made : At K mg "_law_made" s_L_made ["_law_op_here"] := ⟨f25, _, F25, b25, m25⟩
  have t_L_code : At K mg "_law_code" s_L_code ["_law_deck_here", "_law_takes", "_law_wide", "_law_deep_here"] := ⟨f26, _, F26, b26, m26⟩
  have t_L_deep : At K mg "_law_deep" s_L_deep ["_law_thing_here"] := ⟨f27, _, F27, b27, m27⟩
  have t_L_pair_op : At K mg "_law_pair_op" s_L_pair_op ["_law_word", "_law_one", "_law_other"] := ⟨f28, _, F28, b28, m28⟩
  have t_L_told : At K mg "_law_told" s_L_told ["_law_code_here", "_law_things"] := ⟨f29, _, F29, b29, m29⟩
  have t_L_run_told : At K mg "_law_run_told" s_L_run_told ["_law_code_here", "_law_things"] := ⟨f30, _, F30, b30, m30⟩
  have FM0 := fun_mk (st := s_p_CodeRun_init) lm0 cm0 km0
  have bm0 := FM0.binds (ps := ["self", "code", "things"]) fun _ _ _ _ _ _ us hl => match us, hl with | [_, _, _], _ => rfl
  have tm0 : AtI K mg C "CodeRun" "CodeRun.__init__" s_p_CodeRun_init ["self", "code", "things"] := ⟨q0, _, FM0, bm0, ⟨mkC, am0, im0, kcC⟩, PySem.W.mg_of X G aC⟩
  have FM1 := fun_mk (st := s_p_CodeRun_things_in) lm1 cm1 km1
  have bm1 := FM1.binds (ps := ["self", "cells"]) fun _ _ _ _ _ _ us hl => match us, hl with | [_, _], _ => rfl
  have tm1 : AtM K C "things_in" "CodeRun.things_in" s_p_CodeRun_things_in ["self", "cells"] := ⟨q1, _, FM1, bm1, ⟨am1, im1, km1⟩, ⟨pgC, hdC, poC, saC⟩⟩
  have T : ClsT K C := ⟨⟨pgC, hdC, poC, saC⟩, nC1, nT1, nO1⟩
  have hS : ∀ z ∈ MAK, ItK K w dS z (.tup ((srt z).map .str)) := fun z hz => by
    have h := List.all_eq_true.mp xi3 z hz
    cases e : itTx K dS z with
    | none => rw [e] at h; cases h
    | some l =>
      rw [e] at h
      have h : decide (l = srt z) = true := h
      have h : l = srt z := of_decide_eq_true h
      subst h
      exact itK_tx xt3 xk3 e
  have XC : ErrC K mg "NoStep" e_NoStep := ⟨v_NoStep, xP, kP, bP, tP⟩
  have XM : exmOne K (.ref e_NoStep) (.ref e_NoStep) = some true := PySem.W.exm_ref bP h4 tP sNN
  have XE : ExcC K e_NoStep := ⟨h1, h2, bP, h4, h5, h6, h7, h8⟩
  have DE : FnOk l.prog w K mg base CX0 2 _ _ ["_law_script", "_law_most"] (spDeckB K) := ok_deck F16 (ok_mixed F15) b15 k15 m15 y_list y_sum y_len
  have cd := h_draw (P := l.prog) (w := w) (base := base) t_L_draw t_L_mixed
  have cn := h_L_number t_L_number B cd
  have cs := h_L_shuffle t_L_shuffle B cd
  have sz := all_size (P := l.prog) (w := w) (base := base) t_L_size B
  have cc := h_L_cut t_L_cut B (sz 4)
  have tw := all_tw t_L_thing t_L_any_word B cd cn cc cs
  have md := h_L_made (P := l.prog) (w := w) (base := base) t_L_made B
  have oc := all_oc t_L_op t_L_code B cd (tw 3).1 (tw 2).1 md
  have nt := h_p_number_thing (P := l.prog) (w := w) (base := base) t_p_number_thing B ⟨_, v_NUMBERS⟩
  have hD : ∀ z ∈ MAK, ∃ f, ItK K w dD z (.ref f) ∧ HasA l.prog w K mg base 2 f ["held"] (SP_dm z) := fun z hz => by
    simp only [MAK, NUMS, List.mem_cons, List.mem_append, List.not_mem_nil, or_false] at hz
    rcases hz with rfl | rfl | rfl | rfl | rfl | rfl | rfl | rfl
    · exact ⟨f2, itK_ref xt4 xk4 y_plus_, hasA_of (h_p_plus_does (P := l.prog) (w := w) (base := base) t_p_plus_does B nt) m2⟩
    · exact ⟨f3, itK_ref xt4 xk4 y_minus_, hasA_of (h_p_minus_does (P := l.prog) (w := w) (base := base) t_p_minus_does B nt) m3⟩
    · exact ⟨f4, itK_ref xt4 xk4 y_times_, hasA_of (h_p_times_does (P := l.prog) (w := w) (base := base) t_p_times_does B nt) m4⟩
    · exact ⟨f5, itK_ref xt4 xk4 y_less_, hasA_of (h_p_less_does (P := l.prog) (w := w) (base := base) t_p_less_does B nt) m5⟩
    · exact ⟨f6, itK_ref xt4 xk4 y_same_, hasA_of (h_p_same_does (P := l.prog) (w := w) (base := base) t_p_same_does B nt) m6⟩
    · exact ⟨f9, itK_ref xt4 xk4 y_put_, hasA_of (h_p_put_does (P := l.prog) (w := w) (base := base) t_p_put_does B) m9⟩
    · exact ⟨f7, itK_ref xt4 xk4 y_join_, hasA_of (h_p_join_does (P := l.prog) (w := w) (base := base) t_p_join_does B) m7⟩
    · exact ⟨f8, itK_ref xt4 xk4 y_wrap_, hasA_of (h_p_wrap_does (P := l.prog) (w := w) (base := base) t_p_wrap_does B) m8⟩
  have to_ := h_p_top_of (P := l.prog) (w := w) (base := base) t_p_top_of B XC
  have ha := h_p_held_as (P := l.prog) (w := w) (base := base) t_p_held_as B XC
  have eb := h_p_effect_of_basic (c_p_top_of := to_) (c_p_held_as := ha) (a := t_p_effect_of_basic) (B := B) (hS := hS) (hD := hD) (g_SORTS_TAKEN := v_SORTS_TAKEN) (g_DOES := v_DOES)
  have ci := h_p_CodeRun_init (P := l.prog) (w := w) (base := base) tm0 B T XC
  have ti := h_p_CodeRun_things_in (P := l.prog) (w := w) (mg := mg) (base := base) tm1 B T
  have do_ := h_p_do_op (a := t_p_do_op) (B := B) (T := T) (c_p_held_as := ha) (c_p_effect_of_basic := eb) (i_CodeRun := ci) (m_things_in := ti)
  have rc := h_p_run_code (a := t_p_run_code) (B := B) (T := T) (c_p_do_op := do_) (i_CodeRun := ci) (m_things_in := ti)
  have dp := all_deep (P := l.prog) (w := w) (base := base) t_L_deep B y_max
  have po := h_L_pair_op (P := l.prog) (w := w) (base := base) t_L_pair_op B
  have lt := all_told t_L_told B po (dp 95) (sz 95)
  have rt := h_L_run_told (a := t_L_run_told) (B := B) (c_p_run_code := rc) (m_NoStep := v_NoStep) (m_NoText := v_NoText) (m_NoCode := v_NoCode) (m_ValueError := y_ValueError) (m_TakeError := v_TakeError) (XM := XM) (XE := XE) (k_TakeError := kzT) (k_NoCode := kz_NoCode) (k_NoText := kz_NoText) (k_ValueError := qv)
  exact ok_law F31 B DE b16 k16 m16 cd (oc 3) cn (tw 3).1 (lt 3) rt
theorem walk_law {l : PySem.W.OpenLaw} {q : Program} {loose : List Str} {XP : (Str → Option Value) → Heap → Prop} {YP : World → Heap → Prop} {d : DefRec} {K : Params → PySem.W.Frag} (hn : l.most = some 63) (hdf : d.params.defaults = [])
    (hY : ∀ (w : World) (h : Heap), YP w h → (K w.params).In h)
    (F : ∀ (w : World) (mg : Str → Option Value) (fa : Addr) (h : Heap), (K w.params).In h → h.Ns mainGlobals mg → mg d.name = some (.ref fa) →
      ∃ fd : FuncData, (∀ (s : Shared) (u : Value), BindsTo s fd ⟨[u], []⟩ [("_law_script", u)]) ∧ ∀ base : Heap, (K w.params).In base → base.Ns mainGlobals mg → FnOk l.prog w (K w.params) mg base CX0 101 fa fd ["_law_script"] (spLaw (K w.params))) :
    PySem.W.WalkO q loose XP YP l.row.toRowW d [] (fun f vs => PySem.call f vs) :=
  L2.walk_of (n := 63) (k := 101) (x := "_law_script") (CX := fun _ => CX0) (sp := fun w => spLaw (K w.params)) hn (by decide) hdf ⟨rfl, by decide, by decide⟩ hY F (fun _ _ a ns hl _ hS => ⟨a, ns, rfl, hS, hl, fun _ => rfl⟩) fun _ _ _ _ _ z => z
end K64
open PySem PySem.W PyProof.Rows
set_option maxRecDepth 100000 in
set_option maxHeartbeats 0 in
theorem PySem.Challenge.cw_takeleave_k64_codes_run_holds : PySem.Challenge.rw_takeleave_k64_codes_run.Holds := by
  w_on; o_law; k_head; (case hw => w_witness2)
  k_fill
  refine K64.walk_law (l := PySem.Challenge.rw_takeleave_k64_codes_run) rfl rfl (fun w h Y => PySem.W.kIn_of Y) ?F
  case F =>
    intro w mg fa h KX G hmg
    refine' K64.all_mk (w := w) KX G hmg ?a1 ?l1 ?c1 ?k1 ?a2 ?l2 ?c2 ?k2 ?a3 ?l3 ?c3 ?k3 ?a4 ?l4 ?c4 ?k4 ?a5 ?l5 ?c5 ?k5 ?a6 ?l6 ?c6 ?k6 ?a7 ?l7 ?c7 ?k7 ?a8 ?l8 ?c8 ?k8 ?a9 ?l9 ?c9 ?k9 ?a10 ?l10 ?c10 ?k10 ?a11 ?l11 ?c11 ?k11 ?a12 ?l12 ?c12 ?k12 ?a13 ?l13 ?c13 ?k13 ?a14 ?l14 ?c14 ?k14 ?a15 ?l15 ?c15 ?k15 ?a16 ?l16 ?c16 ?k16 ?a17 ?l17 ?c17 ?k17 ?a18 ?l18 ?c18 ?k18 ?a19 ?l19 ?c19 ?k19 ?a20 ?l20 ?c20 ?k20 ?a21 ?l21 ?c21 ?k21 ?a22 ?l22 ?c22 ?k22 ?a23 ?l23 ?c23 ?k23 ?a24 ?l24 ?c24 ?k24 ?a25 ?l25 ?c25 ?k25 ?a26 ?l26 ?c26 ?k26 ?a27 ?l27 ?c27 ?k27 ?a28 ?l28 ?c28 ?k28 ?a29 ?l29 ?c29 ?k29 ?a30 ?l30 ?c30 ?k30 ?a31 ?l31 ?c31 ?k31 ?z_len ?z_isinstance ?z_int ?z_str ?z_tuple ?z_list ?z_bool ?z_dict ?z_all ?z_any ?z_sum ?z_sorted ?z_set ?z_range ?z_enumerate ?z_zip ?z_reversed ?z_ValueError ?z_max ?g_NUMBERS ?g_SORTS_TAKEN ?g_DOES ?g_TakeError ?g_NoStep ?g_NoText ?g_NoCode ?aC ?am0 ?im0 ?lm0 ?cm0 ?km0 ?am1 ?im1 ?lm1 ?cm1 ?km1 ?pgC ?hdC ?poC ?saC ?mkC ?kcC ?nC1 ?nT1 ?nO1 ?xt3 ?xk3 ?xi3 ?xt4 ?xk4 ?y_plus_ ?y_minus_ ?y_times_ ?y_less_ ?y_same_ ?y_put_ ?y_join_ ?y_wrap_ ?xP ?kP ?bP ?tP ?e1 ?e2 ?e3 ?e4 ?h1 ?h2 ?h4 ?h5 ?h6 ?h7 ?h8 ?ktt ?qv ?kz_NoText ?kz_NoCode ?sNN ?kzT
    (case a1 => k_is)
    (case l1 => k_is)
    (case c1 => k_is)
    (case k1 => k_is)
    (case a2 => k_is)
    (case l2 => k_is)
    (case c2 => k_is)
    (case k2 => k_is)
    (case a3 => k_is)
    (case l3 => k_is)
    (case c3 => k_is)
    (case k3 => k_is)
    (case a4 => k_is)
    (case l4 => k_is)
    (case c4 => k_is)
    (case k4 => k_is)
    (case a5 => k_is)
    (case l5 => k_is)
    (case c5 => k_is)
    (case k5 => k_is)
    (case a6 => k_is)
    (case l6 => k_is)
    (case c6 => k_is)
    (case k6 => k_is)
    (case a7 => k_is)
    (case l7 => k_is)
    (case c7 => k_is)
    (case k7 => k_is)
    (case a8 => k_is)
    (case l8 => k_is)
    (case c8 => k_is)
    (case k8 => k_is)
    (case a9 => k_is)
    (case l9 => k_is)
    (case c9 => k_is)
    (case k9 => k_is)
    (case a10 => k_is)
    (case l10 => k_is)
    (case c10 => k_is)
    (case k10 => k_is)
    (case a11 => k_is)
    (case l11 => k_is)
    (case c11 => k_is)
    (case k11 => k_is)
    (case a12 => k_is)
    (case l12 => k_is)
    (case c12 => k_is)
    (case k12 => k_is)
    (case a13 => k_is)
    (case l13 => k_is)
    (case c13 => k_is)
    (case k13 => k_is)
    (case a14 => k_is)
    (case l14 => k_is)
    (case c14 => k_is)
    (case k14 => k_is)
    (case a15 => k_is)
    (case l15 => k_is)
    (case c15 => k_is)
    (case k15 => k_is)
    (case a16 => k_is)
    (case l16 => k_is)
    (case c16 => k_is)
    (case k16 => k_is)
    (case a17 => k_is)
    (case l17 => k_is)
    (case c17 => k_is)
    (case k17 => k_is)
    (case a18 => k_is)
    (case l18 => k_is)
    (case c18 => k_is)
    (case k18 => k_is)
    (case a19 => k_is)
    (case l19 => k_is)
    (case c19 => k_is)
    (case k19 => k_is)
    (case a20 => k_is)
    (case l20 => k_is)
    (case c20 => k_is)
    (case k20 => k_is)
    (case a21 => k_is)
    (case l21 => k_is)
    (case c21 => k_is)
    (case k21 => k_is)
    (case a22 => k_is)
    (case l22 => k_is)
    (case c22 => k_is)
    (case k22 => k_is)
    (case a23 => k_is)
    (case l23 => k_is)
    (case c23 => k_is)
    (case k23 => k_is)
    (case a24 => k_is)
    (case l24 => k_is)
    (case c24 => k_is)
    (case k24 => k_is)
    (case a25 => k_is)
    (case l25 => k_is)
    (case c25 => k_is)
    (case k25 => k_is)
    (case a26 => k_is)
    (case l26 => k_is)
    (case c26 => k_is)
    (case k26 => k_is)
    (case a27 => k_is)
    (case l27 => k_is)
    (case c27 => k_is)
    (case k27 => k_is)
    (case a28 => k_is)
    (case l28 => k_is)
    (case c28 => k_is)
    (case k28 => k_is)
    (case a29 => k_is)
    (case l29 => k_is)
    (case c29 => k_is)
    (case k29 => k_is)
    (case a30 => k_is)
    (case l30 => k_is)
    (case c30 => k_is)
    (case k30 => k_is)
    (case a31 => k_is)
    (case l31 => k_is)
    (case c31 => k_is)
    (case k31 => k_is)
    (case z_len => k_is)
    (case z_isinstance => k_is)
    (case z_int => k_is)
    (case z_str => k_is)
    (case z_tuple => k_is)
    (case z_list => k_is)
    (case z_bool => k_is)
    (case z_dict => k_is)
    (case z_all => k_is)
    (case z_any => k_is)
    (case z_sum => k_is)
    (case z_sorted => k_is)
    (case z_set => k_is)
    (case z_range => k_is)
    (case z_enumerate => k_is)
    (case z_zip => k_is)
    (case z_reversed => k_is)
    (case z_ValueError => k_is)
    (case z_max => k_is)
    (case g_NUMBERS => k_is)
    (case g_SORTS_TAKEN => k_is)
    (case g_DOES => k_is)
    (case g_TakeError => k_is)
    (case g_NoStep => k_is)
    (case g_NoText => k_is)
    (case g_NoCode => k_is)
    (case aC => k_is)
    (case am0 => k_is)
    (case im0 => k_is)
    (case lm0 => k_is)
    (case cm0 => k_is)
    (case km0 => k_is)
    (case am1 => k_is)
    (case im1 => k_is)
    (case lm1 => k_is)
    (case cm1 => k_is)
    (case km1 => k_is)
    (case pgC => k_is)
    (case hdC => k_is)
    (case poC => k_is)
    (case saC => k_is)
    (case mkC => k_is)
    (case kcC => k_is)
    (case nC1 => k_is)
    (case nT1 => k_is)
    (case nO1 => k_is)
    (case xt3 => k_is)
    (case xk3 => first | k_is | (refine ⟨⟨_, _, rfl, rfl⟩, ⟨_, _, rfl, rfl⟩, ⟨_, _, rfl, rfl⟩, ⟨_, _, rfl, rfl⟩, ⟨_, _, rfl, rfl⟩, ⟨_, _, rfl, rfl⟩, ⟨_, _, rfl, rfl⟩, ⟨_, _, rfl, rfl⟩, ⟨_, _, rfl, rfl⟩, ⟨_, _, rfl, rfl⟩, ⟨_, _, rfl, rfl⟩, ⟨_, _, rfl, rfl⟩, ⟨_, _, rfl, rfl⟩, ⟨_, _, rfl, rfl⟩, ⟨_, _, rfl, rfl⟩, trivial⟩))
    (case xi3 => first | rfl | k_is | kernel_rfl | decide +kernel)
    (case xt4 => k_is)
    (case xk4 => first | k_is | (refine ⟨⟨_, _, rfl, rfl⟩, ⟨_, _, rfl, rfl⟩, ⟨_, _, rfl, rfl⟩, ⟨_, _, rfl, rfl⟩, ⟨_, _, rfl, rfl⟩, ⟨_, _, rfl, rfl⟩, ⟨_, _, rfl, rfl⟩, ⟨_, _, rfl, rfl⟩, ⟨_, _, rfl, rfl⟩, ⟨_, _, rfl, rfl⟩, ⟨_, _, rfl, rfl⟩, ⟨_, _, rfl, rfl⟩, ⟨_, _, rfl, rfl⟩, ⟨_, _, rfl, rfl⟩, ⟨_, _, rfl, rfl⟩, trivial⟩))
    (case y_plus_ => k_is)
    (case y_minus_ => k_is)
    (case y_times_ => k_is)
    (case y_less_ => k_is)
    (case y_same_ => k_is)
    (case y_put_ => k_is)
    (case y_join_ => k_is)
    (case y_wrap_ => k_is)
    (case xP => first | k_exc | k_is)
    (case kP => k_is)
    (case bP => k_is)
    (case tP => k_is)
    (case e1 => k_is)
    (case e2 => k_is)
    (case e3 => k_is)
    (case e4 => k_is)
    (case h1 => k_is)
    (case h2 => k_is)
    (case h4 => k_is)
    (case h5 => k_is)
    (case h6 => k_is)
    (case h7 => k_is)
    (case h8 => k_is)
    (case ktt => first | k_is | kernel_rfl)
    (case qv => first | k_is | kernel_rfl)
    (case kz_NoText => first | k_is | kernel_rfl)
    (case kz_NoCode => first | k_is | kernel_rfl)
    (case sNN => k_is)
    (case kzT => first | k_is | kernel_rfl)
