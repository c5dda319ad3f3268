import PyProof.Rows.All
import Wide.All
import OpenK.AllK
import Wide.FinOn
import HandS.ForMost
import HandS.Rev
import KE.KDictList
import HandS.Style
import HandS.More
import HandS.IsInst
import HandS.StrMore
import HandS.Wide
import HandS.Codes
import HandS.Walk
import HandS.NoneIn
import HandS.WordsExc
import PyProof.AutoSeq1
import HandS.TupAny
import HandS.Conv
import HandS.SetFor
import HandS.ListEq
import HandS.ForExc
import HandS.ExcIs
import HandS.ExcOwn
import HandS.TupLe
import HandS.Deep
import HandS.Strs
import HandS.WordsDict
import KE.GoesMore
import KE.GoesEnum
import KE.SortData
import HandS.RevRange
import HandS.DictComp
import HandS.Text
import HandS.Zip
import HandS.CallLocal
import KE.KDictPairs
import HandS.Replace
import HandS.TryOnly
import HandS.Call
import HandS.Flow
import HandS.CallSlots
import HandS.Defaults
import HandS.Comp
import PySem.Challenge.RW_takeleave_k14_whole_what_lies_beneath
set_option Elab.async false
set_option linter.all false
set_option maxRecDepth 100000
set_option maxHeartbeats 4000000
namespace Cm
open PySem PySem.Spec PyProof.Rows L2 RT
end Cm
namespace Cm
open PySem PySem.W L2 SX
theorem same_new {H : Hp} {p : Addr} (h : H p = none) (o : HO) : Same H (upd H p o) := fun b u q => by rw [upd_ne (ne_of_none q h)]; exact q
theorem own_new {H H' : Hp} {p : Addr} {o : HO} (s : Same H H') (h : H p = none) : Same H (upd H' p o) := fun b u q => by rw [upd_ne (ne_of_none q h)]; exact s _ _ q
theorem cut_map {α : Type} (f : α → V) (xs : List α) (lo hi : Option Int) : ∃ ys : List α, cutV (xs.map f) lo hi = ys.map f ∧ ys.length ≤ xs.length := by
  unfold cutV
  refine ⟨(xs.drop (HT.sIx (xs.map f).length 0 lo)).take (HT.sIx (xs.map f).length (xs.map f).length hi - HT.sIx (xs.map f).length 0 lo), ?_, ?_⟩
  · rw [List.map_take, List.map_drop]
  · rw [List.length_take, List.length_drop]; omega
theorem dp_ints {K : PySem.W.Frag} {H : Hp} : ∀ ns : List Int, DpAll K H (ns.map V.int) (ns.map PyData.int)
  | [] => .nil
  | n :: r => .cons (.int n) (dp_ints r)
theorem lay_ints : ∀ ns : List Int, PyData.canLayAll0 (ns.map PyData.int) = true
  | [] => rfl
  | n :: r => by
    show (PyData.canLay0 (PyData.int n) && PyData.canLayAll0 (r.map PyData.int)) = true
    rw [lay_ints r]; rfl
theorem deep_ints : ∀ ns : List Int, PyData.depthAll (ns.map PyData.int) = 0
  | [] => rfl
  | n :: r => by
    show max (PyData.depth (PyData.int n)) (PyData.depthAll (r.map PyData.int)) = 0
    rw [deep_ints r]; rfl
theorem shaped_ints (ns : List Int) : SeqAt.shaped (.list (ns.map PyData.int)) = true := by
  show (PyData.canLayAll0 (ns.map PyData.int) && decide (PyData.depthAll (ns.map PyData.int) + 1 ≤ 64)) = true
  rw [lay_ints, deep_ints]; rfl
theorem kn {H : Hp} {a t : Addr} {o o' : HO} (h : H a = some o) (n : H t = none) : upd H t o' a = some o := by rw [upd_ne (ne_of_none h n)]; exact h
/-- all but what stands at the places L is kept -/
def Kp (L : List Addr) (H H' : Hp) : Prop := ∀ b o, b ∉ L → H b = some o → H' b = some o
theorem Kp.refl (L : List Addr) (H : Hp) : Kp L H H := fun _ _ _ h => h
theorem Kp.trans {L : List Addr} {H H1 H2 : Hp} (a : Kp L H H1) (b : Kp L H1 H2) : Kp L H H2 := fun c o n h => b c o n (a c o n h)
theorem Kp.of {L : List Addr} {H H' : Hp} (s : Same H H') : Kp L H H' := fun b o _ h => s b o h
theorem Kp.new {L : List Addr} {p : Addr} {H H' : Hp} {o : HO} (a : Kp L H H') (h : H' p = none) : Kp L H (upd H' p o) := a.trans (.of (same_new h o))
theorem Kp.own {L : List Addr} {d : Addr} {H H' : Hp} {o : HO} (a : Kp L H H') (m : d ∈ L) : Kp L H (upd H' d o) := fun b u n h => by rw [upd_ne (show b ≠ d from fun z => n (by rw [z]; exact m))]; exact a b u n h
theorem Kp.mono {L M : List Addr} {H H' : Hp} (a : Kp L H H') (h : ∀ b ∈ L, b ∈ M) : Kp M H H' := fun b o n e => a b o (fun z => n (h b z)) e
theorem Kp.free {L : List Addr} {p : Addr} {H H' : Hp} (k : Kp L H H') (n : H' p = none) (m : p ∉ L) : H p = none := by
  cases e : H p with
  | none => rfl
  | some o => rw [k p o m e] at n; cases n
theorem Kp.put {L : List Addr} {p : Addr} {H H' : Hp} {o : HO} (k : Kp L H H') (n : H p = none) : Kp L H (upd H' p o) := fun b u m e => by rw [upd_ne (ne_of_none e n)]; exact k b u m e
theorem Kp.same {L : List Addr} {H0 H H' : Hp} (a : Kp L H H') (s : Same H0 H) (h : ∀ b ∈ L, H0 b = none) : Same H0 H' := fun b o e => a b o (fun z => by rw [h b z] at e; cases e) (s b o e)
def nn : List V := [V.str "number", V.str "number"]
end Cm
namespace Cm
open PySem PySem.W L2 SX
/-- a text, or something else that the law hands in -/
def Vl (H : Hp) (v : V) : Option (List Nat) → Prop
  | some x => v = .str (S x) ∧ x.length ≤ 1000
  | none => (v = .non ∨ (∃ b, v = .bl b) ∨ (∃ i, v = .int i) ∨ (∃ a xs, v = .ref a ∧ H a = some (.lst xs)) ∨ (∃ a kvs, v = .ref a ∧ H a = some (.dK kvs))) ∨ (∃ a xs, v = .ref a ∧ H a = some (.tup xs) ∧ (xs = [] ∨ ∃ z, xs = [.str z]))
theorem Vl.same {H H' : Hp} {v : V} {o : Option (List Nat)} (h : Vl H v o) (s : Same H H') : Vl H' v o := by
  cases o with
  | some x => exact h
  | none =>
    rcases h with (h | h | h | ⟨a, xs, e, h⟩ | ⟨a, xs, e, h⟩) | ⟨a, xs, e, h, g⟩
    · exact .inl (.inl h)
    · exact .inl (.inr (.inl h))
    · exact .inl (.inr (.inr (.inl h)))
    · exact .inl (.inr (.inr (.inr (.inl ⟨a, xs, e, s _ _ h⟩))))
    · exact .inl (.inr (.inr (.inr (.inr ⟨a, xs, e, s _ _ h⟩))))
    · exact .inr ⟨a, xs, e, s _ _ h, g⟩
theorem Vl.isStr {K : Frag} {H : Hp} {v : V} {o : Option (List Nat)} (h : Vl H v o) : ∃ t, TyX K H v t ∧ kitOne K t (.type "str") = some o.isSome := by
  cases o with
  | some x => exact ⟨_, by rw [h.1]; exact .base (.str _), kit_ty (r := true) (by decide +kernel)⟩
  | none =>
    rcases h with (h | ⟨b, h⟩ | ⟨i, h⟩ | ⟨a, xs, e, h⟩ | ⟨a, xs, e, h⟩) | ⟨a, xs, e, h, g⟩
    · exact ⟨_, by rw [h]; exact .base .non, kit_ty (r := false) (by decide +kernel)⟩
    · exact ⟨_, by rw [h]; exact .base (.bl _), kit_ty (r := false) (by decide +kernel)⟩
    · exact ⟨_, by rw [h]; exact .base (.int _), kit_ty (r := false) (by decide +kernel)⟩
    · exact ⟨_, by rw [e]; exact .base (.lst h), kit_ty (r := false) (by decide +kernel)⟩
    · exact ⟨_, by rw [e]; exact .base (.dK h), kit_ty (r := false) (by decide +kernel)⟩
    · exact ⟨_, by rw [e]; exact .base (.tup h), kit_ty (r := false) (by decide +kernel)⟩
/-- the small letters -/
def az : List Nat := [97, 98, 99, 100, 101, 102, 103, 104, 105, 106, 107, 108, 109, 110, 111, 112, 113, 114, 115, 116, 117, 118, 119, 120, 121, 122]
end Cm
namespace Cm
open PySem PySem.W L2 SX
/-- a text of at most n signs that a text may have -/
structure Tx (z : Str) (n : Nat) : Prop where
  len : z.length ≤ n
  ch : ∀ c ∈ z.cps.toList, c < 1114112
theorem Tx.mono {a : Str} {m n : Nat} (h : Tx a m) (l : m ≤ n) : Tx a n := ⟨Nat.le_trans h.len l, h.ch⟩
theorem Tx.cut {z : Str} {n : Nat} (h : Tx z n) (lo hi : Option Int) : Tx (cutS z lo hi) n := by
  refine ⟨Nat.le_trans (cutS_length z lo hi) h.len, fun c hc => h.ch c ?_⟩
  have e : c ∈ (z.cps.toList.drop (HT.sIx z.length 0 lo)).take (HT.sIx z.length z.length hi - HT.sIx z.length 0 lo) := hc
  exact List.mem_of_mem_drop (List.mem_of_mem_take e)
theorem Tx.at_ {z : Str} {n : Nat} (h : Tx z n) {i : Int} {c : Nat} (e : atI z.cps.toList i = some c) : Tx ⟨#[c]⟩ 1 := by
  refine ⟨Nat.le_refl 1, fun d hd => ?_⟩
  have hd' : d ∈ [c] := hd
  rw [List.mem_singleton.mp hd']
  refine h.ch c ?_
  unfold atI at e
  cases q : ixN z.cps.toList.length i with
  | none => rw [q] at e; cases e
  | some j => rw [q] at e; exact List.mem_of_getElem? e
theorem Tx.sz {z : Str} {n : Nat} (h : Tx z n) (l : n ≤ 1000 := by decide) : z.length ≤ sizeLine := Nat.le_of_lt (small1000 (Nat.le_trans h.len l))
theorem joinL_nil : ∀ l : List (List Nat), TL.joinL [] l = l.flatten
  | [] => rfl
  | [x] => by show x = [x].flatten; simp
  | x :: y :: r => by
    have ih := joinL_nil (y :: r)
    show x ++ ([] ++ TL.joinL [] (y :: r)) = (x :: y :: r).flatten
    rw [ih]; simp
theorem Tx.join {ys : List Str} (h : ∀ y ∈ ys, Tx y 1) : Tx (Txt.join ("" : Str) ys) ys.length := by
  have e0 : ("" : Str) = S [] := by decide +kernel
  have e1 : ys = (ys.map TL.tl).map S := by
    rw [List.map_map]
    conv => lhs; rw [← List.map_id ys]
    exact List.map_congr_left fun y _ => (S_tl y).symm
  have e2 : Txt.join ("" : Str) ys = S ((ys.map TL.tl).flatten) := by
    rw [e0]; conv => lhs; rw [e1]
    rw [join_S, joinL_nil]
  rw [e2]
  refine ⟨?_, fun c hc => ?_⟩
  · rw [S_len, List.length_flatten]
    have : ∀ l : List Str, (∀ y ∈ l, Tx y 1) → ((l.map TL.tl).map List.length).sum ≤ l.length := by
      intro l
      induction l with
      | nil => intro _; exact Nat.le_refl 0
      | cons y r ih =>
        intro hh
        have h1 := (hh y (List.mem_cons_self ..)).len
        rw [TL.len_tl] at h1
        have h2 := ih fun z hz => hh z (List.mem_cons_of_mem _ hz)
        rw [List.map_cons, List.map_cons, List.sum_cons, List.length_cons]
        omega
    exact this ys h
  · have hc' : c ∈ (ys.map TL.tl).flatten := hc
    obtain ⟨l, hl, hcl⟩ := List.mem_flatten.mp hc'
    obtain ⟨y, hy, rfl⟩ := List.mem_map.mp hl
    exact (h y hy).ch c hcl
end Cm
namespace Cm
open PySem PySem.Spec PyProof.Rows L2
theorem ext_tup (l : Addr) (its : Array Value) (n : Nat) (b : Addr) (js : Array Value) (m : Nat) (dd : Option Addr) (sl : Array (Option Value)) (h0 : ¬(!its.isEmpty && Builtin.List.listTooLong (its.size + js.size)) = true) (h1 : its.size ≤ sizeLine) (h2 : its.size + js.size ≤ sizeLine + 1) :
    Meets (Builtin.«list.extend» ⟨[.ref l, .ref b], []⟩) (fun _ R s => s.heap.get? l = some { cls := .type "list", dict := none, data := .seq its n, slots := #[] } ∧ s.heap.get? b = some { cls := .type "tuple", dict := dd, data := .seq js m, slots := sl } ∧ R (.ok (.ret Value.none)) { s with heap := s.heap.update l (Obj.mapSeq fun x => x ++ js), toks := s.toks }) :=
  .of_wp fun prog w A R s h => by
    obtain ⟨hp, g, d, tk, os⟩ := s
    obtain ⟨hl, hb, h⟩ := h
    have f2 := sub_tuple_tuple; have f3 := sub_list_list; have f4 := sub_tuple_list; have f5 := sub_list_tuple; have f1 := AutoSeq1.idx_int
    have hz : (its ++ js).size ≤ sizeLine + 1 := by rw [Array.size_append]; exact h2
    wp_walk using (wpAny_updateSeq hl rfl (hz := h1) (_hz' := hz)), wpAny_loadPart' hl, wpAny_loadPart' hb
    exact ⟨_, rfl, h⟩
def rExtT (K : PySem.W.Frag) : V → List V → Hp → VK → Prop := fun x vs H Q => ∃ l b xs zs, x = .ref l ∧ vs = [.ref b] ∧ H l = some (.lst xs) ∧ SqT K H b zs ∧ xs.length + zs.length ≤ sizeLine ∧ Q .non (upd H l (.lst (xs ++ zs)))
/-- xs.extend(t), t a tuple -/
theorem mt_extT {X : Cx} : MtM X "list.extend" (rExtT X.K) := by
  intro pins s σ H x vs v us Q I rx rv h
  obtain ⟨l, b, xs, zs, rfl, rfl, hH, hB, hz, q⟩ := h
  cases rx
  obtain ⟨u, rfl, ru⟩ := rv.one
  cases ru
  obtain ⟨z, its, n, r, hl, e⟩ := I.lstM hH
  obtain ⟨js, r2, ⟨ob, e2, c2, m, d2⟩, z2⟩ := I.tuple hB
  obtain ⟨oc, od, dt, sl⟩ := ob
  cases (show oc = .type "tuple" from c2)
  cases (show dt = .seq js.toArray m from d2)
  have l2 := r2.length
  have hsz : its.toArray.size + js.toArray.size ≤ sizeLine := by rw [List.size_toArray, List.size_toArray]; omega
  have hlong : ¬ (!its.toArray.isEmpty && Builtin.List.listTooLong (its.toArray.size + js.toArray.size)) = true := by
    rw [notLongL hsz, Bool.and_false]; exact Bool.false_ne_true
  refine call_meets F.slot_list_extend ⟨_, e, rfl⟩ F.entry_list_extend (F.args_list_extend_2 _ _)
    (ext_tup l its.toArray n b js.toArray m od sl hlong (by rw [List.size_toArray]; omega) (by omega)) ⟨e, e2, ?_⟩
  refine ⟨.non, _, I.lset (its' := its ++ js) hH e (by simp) (r.append r2) ?_, rfl, q⟩
  rw [List.length_append]; omega
end Cm
namespace Cm
open PySem PySem.W L2 SX
/-! ### data of tuples, texts and numbers as it lies in the heap -/
mutual
inductive Tr (K : Frag) (H : Hp) : V → PyData → Prop
  | int (i : Int) : Tr K H (.int i) (.int i)
  | str (x : Str) : Tr K H (.str x) (.str x)
  | tup {a : Addr} {xs : List V} {ds : List PyData} : SqT K H a xs → TrAll K H xs ds → Tr K H (.ref a) (.tuple ds)
inductive TrAll (K : Frag) (H : Hp) : List V → List PyData → Prop
  | nil : TrAll K H [] []
  | cons {v : V} {vs : List V} {d : PyData} {ds : List PyData} : Tr K H v d → TrAll K H vs ds → TrAll K H (v :: vs) (d :: ds)
end
/-- tuples are kept -/
def TKs (K : Frag) (H H' : Hp) : Prop := ∀ a xs, SqT K H a xs → SqT K H' a xs
theorem TKs.refl {K : Frag} (H : Hp) : TKs K H H := fun _ _ h => h
theorem TKs.trans {K : Frag} {H H1 H2 : Hp} (a : TKs K H H1) (b : TKs K H1 H2) : TKs K H H2 := fun c x h => b c x (a c x h)
theorem TKs.of {K : Frag} {H H' : Hp} (s : Same H H') : TKs K H H' := fun a xs h => by
  rcases h with (h | ⟨o, h⟩) | h
  · exact .inl (.inl (s _ _ h))
  · exact .inl (.inr ⟨o, s _ _ h⟩)
  · exact .inr h
theorem TKs.kp {K : Frag} {L : List Addr} {H H' : Hp} (k : Kp L H H') (hl : ∀ b ∈ L, ∃ xs, H b = some (.lst xs)) : TKs K H H' := fun a xs h => by
  have nm : ∀ o, H a = some o → (∀ ys, o ≠ .lst ys) → a ∉ L := fun o e n z => by
    obtain ⟨ys, ey⟩ := hl a z
    rw [ey] at e
    exact n ys (Option.some.inj e).symm
  rcases h with (h | ⟨o, h⟩) | h
  · exact .inl (.inl (k _ _ (nm _ h (fun _ z => by cases z)) h))
  · exact .inl (.inr ⟨o, k _ _ (nm _ h (fun _ z => by cases z)) h⟩)
  · exact .inr h
theorem TKs.lst {K : Frag} {H : Hp} {d : Addr} {xs ys : List V} (h : H d = some (.lst xs)) : TKs K H (upd H d (.lst ys)) :=
  TKs.kp (L := [d]) (fun b o m e => by rw [upd_ne (fun z => m (List.mem_singleton.mpr z))]; exact e) (fun b hb => by rw [List.mem_singleton.mp hb]; exact ⟨xs, h⟩)
mutual
theorem Tr.mono {K : Frag} {H H' : Hp} (k : TKs K H H') : ∀ {v : V} {d : PyData}, Tr K H v d → Tr K H' v d
  | _, _, .int i => .int i
  | _, _, .str x => .str x
  | _, _, .tup h t => .tup (k _ _ h) (TrAll.mono k t)
theorem TrAll.mono {K : Frag} {H H' : Hp} (k : TKs K H H') : ∀ {v : List V} {d : List PyData}, TrAll K H v d → TrAll K H' v d
  | _, _, .nil => .nil
  | _, _, .cons h t => .cons (Tr.mono k h) (TrAll.mono k t)
end
mutual
theorem Tr.dp {K : Frag} {H : Hp} : ∀ {v : V} {d : PyData}, Tr K H v d → Dp K H v d
  | _, _, .int i => .int i
  | _, _, .str x => .str x
  | _, _, .tup h t => .tup h (TrAll.dp t)
theorem TrAll.dp {K : Frag} {H : Hp} : ∀ {v : List V} {d : List PyData}, TrAll K H v d → DpAll K H v d
  | _, _, .nil => .nil
  | _, _, .cons h t => .cons (Tr.dp h) (TrAll.dp t)
end
theorem TrAll.len {K : Frag} {H : Hp} : ∀ {v : List V} {d : List PyData}, TrAll K H v d → v.length = d.length
  | _, _, .nil => rfl
  | _, _, .cons _ t => congrArg (· + 1) (TrAll.len t)
theorem TrAll.append {K : Frag} {H : Hp} : ∀ {v v' : List V} {d d' : List PyData}, TrAll K H v d → TrAll K H v' d' → TrAll K H (v ++ v') (d ++ d')
  | _, _, _, _, .nil, h => h
  | _, _, _, _, .cons h t, h' => .cons h (TrAll.append t h')
theorem TrAll.get {K : Frag} {H : Hp} : ∀ {v : List V} {d : List PyData} {i : Nat} {x : V}, TrAll K H v d → v[i]? = some x → ∃ y, d[i]? = some y ∧ Tr K H x y
  | _, _, i, x, .nil, h => by simp at h
  | _, _, 0, x, .cons h t, e => ⟨_, rfl, by cases e; exact h⟩
  | _, _, i + 1, x, .cons h t, e => by
    rw [List.getElem?_cons_succ] at e ⊢
    exact TrAll.get t e
theorem TrAll.snoc {K : Frag} {H : Hp} {v : List V} {d : List PyData} {x : V} (h : TrAll K H (v ++ [x]) d) : ∃ d' y, d = d' ++ [y] ∧ TrAll K H v d' ∧ Tr K H x y := by
  induction v generalizing d with
  | nil =>
    cases h with
    | cons a b => cases b; exact ⟨[], _, rfl, .nil, a⟩
  | cons u r ih =>
    cases h with
    | cons a b =>
      obtain ⟨d', y, rfl, h1, h2⟩ := ih b
      exact ⟨_ :: d', y, rfl, .cons a h1, h2⟩
/-! ### things, rows, stacks: depth, words in all, size -/
mutual
inductive Thg : Nat → Nat → Nat → PyData → Prop
  | num {k : Nat} (n : Int) (h0 : 0 ≤ n) (h1 : n < 10 ^ 12) : Thg k 0 1 (.tuple [.str "number", .int n])
  | row {k k' w m : Nat} {ws : List PyData} : Rw k w m ws → k < k' → Thg k' w (m + 1) (.tuple [.str "row", .tuple ws])
  | lst {k k' w m : Nat} {ts : List PyData} : Stk k w m ts → k < k' → Thg k' w (m + 1) (.tuple [.str "list", .tuple ts])
inductive Rw : Nat → Nat → Nat → List PyData → Prop
  | nil {k : Nat} : Rw k 0 0 []
  | txt {k w m : Nat} {z : Str} {ws : List PyData} : Tx z 100 → Rw k w m ws → Rw k (w + 1) (m + 1) (.str z :: ws)
  | push {k w m w' m' : Nat} {t : PyData} {ws : List PyData} : Thg k w m t → Rw k w' m' ws → Rw k (w + w' + 1) (m + m' + 1) (.tuple [.str "push", t] :: ws)
inductive Stk : Nat → Nat → Nat → List PyData → Prop
  | nil {k : Nat} : Stk k 0 0 []
  | cons {k w m w' m' : Nat} {t : PyData} {ts : List PyData} : Thg k w m t → Stk k w' m' ts → Stk k (w + w') (m + m') (t :: ts)
end
theorem Rw.append {k : Nat} : ∀ {a b : List PyData} {w m w' m' : Nat}, Rw k w m a → Rw k w' m' b → Rw k (w + w') (m + m') (a ++ b)
  | _, _, _, _, _, _, .nil, h => by rw [Nat.zero_add, Nat.zero_add]; exact h
  | _, _, _, _, w', m', .txt (w := w) (m := m) h t, h' => by
    have := Rw.txt h (Rw.append t h')
    rw [show w + 1 + w' = w + w' + 1 by omega, show m + 1 + m' = m + m' + 1 by omega]
    exact this
  | _, _, _, _, w', m', .push (w := w) (m := m) (w' := x) (m' := y) h t, h' => by
    have := Rw.push h (Rw.append t h')
    rw [show w + x + 1 + w' = w + (x + w') + 1 by omega, show m + y + 1 + m' = m + (y + m') + 1 by omega]
    exact this
theorem Stk.append {k : Nat} : ∀ {a b : List PyData} {w m w' m' : Nat}, Stk k w m a → Stk k w' m' b → Stk k (w + w') (m + m') (a ++ b)
  | _, _, _, _, _, _, .nil, h => by rw [Nat.zero_add, Nat.zero_add]; exact h
  | _, _, _, _, _, _, .cons h t, h' => by
    rw [Nat.add_assoc, Nat.add_assoc]; exact .cons h (Stk.append t h')
theorem Stk.snoc {k : Nat} : ∀ {a : List PyData} {t : PyData} {w m : Nat}, Stk k w m (a ++ [t]) → ∃ w1 m1 w2 m2, Stk k w1 m1 a ∧ Thg k w2 m2 t ∧ w = w1 + w2 ∧ m = m1 + m2
  | [], t, w, m, h => by
    have h' : Stk k w m [t] := h
    cases h' with
    | cons a b => cases b; exact ⟨0, 0, _, _, .nil, a, by omega, by omega⟩
  | x :: r, t, w, m, h => by
    have h' : Stk k w m (x :: (r ++ [t])) := h
    cases h' with
    | cons a q =>
      obtain ⟨w1, m1, w2, m2, a', b, rfl, rfl⟩ := Stk.snoc q
      exact ⟨_, _, w2, m2, .cons a a', b, by omega, by omega⟩
theorem Thg.pos {k w m : Nat} {t : PyData} (h : Thg k w m t) : 1 ≤ m := by
  cases h <;> omega
theorem Stk.len {k : Nat} : ∀ {a : List PyData} {w m : Nat}, Stk k w m a → a.length ≤ m
  | _, _, _, .nil => Nat.le_refl 0
  | _, _, _, .cons h t => by
    have h1 := Stk.len t
    have h2 := h.pos
    rw [List.length_cons]; omega
theorem Rw.len {k : Nat} : ∀ {a : List PyData} {w m : Nat}, Rw k w m a → a.length ≤ m
  | _, _, _, .nil => Nat.le_refl 0
  | _, _, _, .txt h t => by have := Rw.len t; rw [List.length_cons]; omega
  | _, _, _, .push h t => by have := Rw.len t; rw [List.length_cons]; omega
theorem Rw.at_ {k : Nat} : ∀ {ws : List PyData} {w m i : Nat} {d : PyData}, Rw k w m ws → ws[i]? = some d → (∃ z, d = .str z) ∨ (∃ t, d = .tuple [.str "push", t])
  | _, _, _, i, d, .nil, h => by simp at h
  | _, _, _, 0, d, .txt (z := z) h t, e => .inl ⟨z, by cases e; rfl⟩
  | _, _, _, 0, d, .push (t := t) h _, e => .inr ⟨t, by cases e; rfl⟩
  | _, _, _, i + 1, d, .txt h t, e => Rw.at_ t e
  | _, _, _, i + 1, d, .push h t, e => Rw.at_ t e
theorem mid {n : Nat} (h : n ≤ 1000000) : n ≤ sizeLine := Nat.le_trans h (by decide)
theorem midlt {n : Nat} (h : n < 1000000) : n < sizeLine := Nat.lt_of_lt_of_le h (by decide)
theorem tyTup {K : Frag} {H : Hp} {a : Addr} {xs : List V} (h : SqT K H a xs) : TyX K H (.ref a) (.type "tuple") := by
  rcases h with (h | ⟨o, h⟩) | ⟨o, _, _, e, c, _⟩
  · exact .base (.tup h)
  · exact .fTuple h
  · exact .kTuple e c
mutual
theorem Thg.lay : ∀ {k w m : Nat} {t : PyData}, Thg k w m t → PyData.canLay0 t = true ∧ PyData.depth t ≤ 3 * k + 1
  | k, _, _, _, .num n h0 h1 => ⟨by show (PyData.canLay0 (.str "number") && (true && true)) = true; decide +kernel, Nat.le_add_left 1 _⟩
  | k', _, _, _, .row (k := k) (ws := ws) h l => by
    obtain ⟨a, b⟩ := Rw.lay h
    refine ⟨?_, ?_⟩
    · show (PyData.canLay0 (.str "row") && (PyData.canLayAll0 ws && true)) = true
      rw [a]; decide +kernel
    · show max 0 (max (PyData.depthAll ws + 1) 0) + 1 ≤ _
      omega
  | k', _, _, _, .lst (k := k) (ts := ts) h l => by
    obtain ⟨a, b⟩ := Stk.lay h
    refine ⟨?_, ?_⟩
    · show (PyData.canLay0 (.str "list") && (PyData.canLayAll0 ts && true)) = true
      rw [a]; decide +kernel
    · show max 0 (max (PyData.depthAll ts + 1) 0) + 1 ≤ _
      omega
theorem Rw.lay : ∀ {k w m : Nat} {ws : List PyData}, Rw k w m ws → PyData.canLayAll0 ws = true ∧ PyData.depthAll ws ≤ 3 * k + 2
  | k, _, _, _, .nil => ⟨rfl, Nat.zero_le _⟩
  | k, _, _, _, .txt (z := z) (ws := ws) h t => by
    obtain ⟨a, b⟩ := Rw.lay t
    refine ⟨?_, ?_⟩
    · show (z.cps.all (· < 0x110000) && PyData.canLayAll0 ws) = true
      rw [a, Bool.and_true, ← Array.all_toList, List.all_eq_true]
      intro c hc
      exact decide_eq_true (h.ch c hc)
    · show max 0 (PyData.depthAll ws) ≤ _
      omega
  | k, _, _, _, .push (t := t) (ws := ws) h r => by
    obtain ⟨a, b⟩ := Rw.lay r
    obtain ⟨a', b'⟩ := Thg.lay h
    refine ⟨?_, ?_⟩
    · show ((PyData.canLay0 (.str "push") && (PyData.canLay0 t && true)) && PyData.canLayAll0 ws) = true
      rw [a, a']; decide +kernel
    · show max (max 0 (max (PyData.depth t) 0) + 1) (PyData.depthAll ws) ≤ _
      omega
theorem Stk.lay : ∀ {k w m : Nat} {ts : List PyData}, Stk k w m ts → PyData.canLayAll0 ts = true ∧ PyData.depthAll ts ≤ 3 * k + 1
  | k, _, _, _, .nil => ⟨rfl, Nat.zero_le _⟩
  | k, _, _, _, .cons (t := t) (ts := ts) h r => by
    obtain ⟨a, b⟩ := Stk.lay r
    obtain ⟨a', b'⟩ := Thg.lay h
    refine ⟨?_, ?_⟩
    · show (PyData.canLay0 t && PyData.canLayAll0 ts) = true
      rw [a, a']; rfl
    · show max (PyData.depth t) (PyData.depthAll ts) ≤ _
      omega
end
theorem Stk.shaped {k w m : Nat} {ts : List PyData} (h : Stk k w m ts) (l : k ≤ 20) : SeqAt.shaped (.list ts) = true := by
  obtain ⟨a, b⟩ := h.lay
  show (PyData.canLayAll0 ts && decide (PyData.depthAll ts + 1 ≤ 64)) = true
  rw [a, Bool.true_and]; exact decide_eq_true (by omega)
end Cm
namespace Cm
open PySem PySem.W L2 SX
theorem Tr.tupD {K : Frag} {H : Hp} {v : V} {ds : List PyData} (h : Tr K H v (.tuple ds)) : ∃ a xs, v = .ref a ∧ SqT K H a xs ∧ TrAll K H xs ds := by
  cases h with
  | tup h t => exact ⟨_, _, rfl, h, t⟩
end Cm
namespace Cm
open PySem PySem.W L2 SX
/-! ### maps: what stays lowest -/
/-- the thing c stays where it is and stands nowhere behind -/
def Stays (ps : List Int) (c : Nat) : Prop := ps[c]? = some (c : Int) ∧ (c : Int) ∉ ps.drop (c + 1)
/-- as many as c may be cut -/
def IsCut (ps : List Int) (c : Nat) : Prop := (∀ j, j < c → Stays ps j) ∧ ¬ Stays ps c
theorem IsCut.uniq {ps : List Int} {c d : Nat} (a : IsCut ps c) (b : IsCut ps d) : c = d := by
  rcases Nat.lt_trichotomy c d with h | h | h
  · exact absurd (b.1 c h) a.2
  · exact h
  · exact absurd (a.1 d h) b.2
theorem Stays.lt {ps : List Int} {c : Nat} (h : Stays ps c) : c < ps.length := by
  have := h.1
  exact (List.getElem?_eq_some_iff.mp this).1
/-- a map as data: a number and a tuple of numbers -/
def mapD (n : Int) (ps : List Int) : PyData := .tuple [.int n, .tuple (ps.map PyData.int)]
/-- a map stands at p -/
def MapAt (K : Frag) (H : Hp) (p : Addr) (n : Int) (ps : List Int) : Prop := ∃ t, SqT K H p [.int n, .ref t] ∧ SqT K H t (ps.map V.int)
/-! ### rules -/
theorem Same.seqT {K : PySem.W.Frag} {H H' : Hp} {a : Addr} {xs : List V} (e : Same H H') (h : SqT K H a xs) : SqT K H' a xs := by
  rcases h with (h | ⟨o, h⟩) | h
  · exact .inl (.inl (e _ _ h))
  · exact .inl (.inr ⟨o, e _ _ h⟩)
  · exact .inr h
theorem MapAt.same {K : Frag} {H H' : Hp} {p : Addr} {n : Int} {ps : List Int} (h : MapAt K H p n ps) (s : Same H H') : MapAt K H' p n ps := by
  obtain ⟨t, h1, h2⟩ := h
  exact ⟨t, Same.seqT s h1, Same.seqT s h2⟩
theorem MapAt.dp {K : Frag} {H : Hp} {p : Addr} {n : Int} {ps : List Int} (h : MapAt K H p n ps) : Dp K H (.ref p) (mapD n ps) := by
  obtain ⟨t, h1, h2⟩ := h
  exact .tup h1 (.cons (.int _) (.cons (.tup h2 (dp_ints ps)) .nil))
/-! ### a tuple's method: the tuple is kept as the object that was made, which has no dict -/
/-- a tuple of xs stands at p, as an object without a dict -/
def TupO (H : Hp) (p : Addr) (xs : List V) : Prop := ∃ o : Obj, o.dict = none ∧ H p = some (.frz o (.tup xs))
theorem TupO.same {H H' : Hp} {p : Addr} {xs : List V} (h : TupO H p xs) (s : Same H H') : TupO H' p xs := by
  obtain ⟨o, d, h⟩ := h
  exact ⟨o, d, s _ _ h⟩
theorem TupO.kp {H H' : Hp} {d p : Addr} {xs ys : List V} (h : TupO H p xs) (hd : H d = some (.lst ys)) (s : Kp [d] H H') : TupO H' p xs := by
  obtain ⟨o, e, h⟩ := h
  exact ⟨o, e, s p _ (fun z => by rw [List.mem_singleton.mp z, hd] at h; cases h) h⟩
end Cm
/-! xs == [] of any list, and t[::-1] of a tuple -/
namespace PySem.SeqAt
open AutoSeq1 (wpAny_loadPart')
open MeetsSeq MeetsSeq2 MeetsSeq3 SeqRoads2
section
variable {prog : Program} {w : World}
theorem cm_list_neIn (l b : Addr) (items items2 : Array Value) (n n2 : Nat) (dd dd2 : Option Addr) (sl sl2 : Array (Option Value)) (hsz : items.size ≠ items2.size) :
    MeetsIn prog w (Builtin.«list.__eq__» ⟨[.ref l, .ref b], []⟩)
      (fun A R s => s.heap.get? l = some { cls := .type "list", dict := dd, data := .seq items n, slots := sl } ∧ s.heap.get? b = some { cls := .type "list", dict := dd2, data := .seq items2 n2, slots := sl2 } ∧
        R (.ok (.ret (.bool false))) s) := by
  intro A R s h
  obtain ⟨hp, g, d, tk, os⟩ := s; obtain ⟨hl, hb, h⟩ := h
  have f3 := AutoSeq1.sub_list_list
  have hne : (items.size != items2.size) = true := by simp [hsz]
  wp_walk using wpAny_loadPart' hl, wpAny_loadPart' hb
  exact h
theorem cm_rcP_ne {A : Around} {s : Shared} {l b : Addr} {items items2 : Array Value} (hl : s.heap.IsList l items) (hb : s.heap.IsList b items2) (hsz : items.size ≠ items2.size) (hu : A.units < cLine)
    (E Q : Value → Shared → Prop) (h : Q (.bool false) s) : wpAny (model prog w) A (richCompare .Eq (.ref l) (.ref b)) Q E s := by
  obtain ⟨⟨cls, dd, data, sl⟩, ho, hc, n, hd⟩ := id hl
  obtain ⟨⟨cls2, dd2, data2, sl2⟩, ho2, hc2, n2, hd2⟩ := id hb
  simp only at hc hd hc2 hd2
  subst hc hd hc2 hd2
  have ta : s.TypeIs (.ref l) "list" := ⟨_, ho, rfl⟩
  have tb : s.TypeIs (.ref b) "list" := ⟨_, ho2, rfl⟩
  exact wpAny_richCompare_same_room (op := .Eq) ta tb F.slot_list_eq (call_meetsIn F.slot_list_eq ta F.entry_list_eq (F.args_list_eq_2 _ _) (cm_list_neIn l b items items2 n n2 dd dd2 sl sl2 hsz)
    ⟨ho, ho2, show Value.bool false ≠ Value.notImplemented ∧ Q (.bool false) s from ⟨(fun x => nomatch x), h⟩⟩) hu
end
end PySem.SeqAt
namespace Cm
open PySem PySem.Spec PyProof.Rows PySem.W L2 SX
section
variable {X : Cx}
/-- xs == [] -/
def rEqNil (K : Frag) : R2 := fun x y H Q => ∃ a b xs, x = .ref a ∧ y = .ref b ∧ SqL K H a xs ∧ SqL K H b [] ∧ Q (.bl xs.isEmpty) H
theorem op_eqNil (hu : X.A.units + 64 < cLine) : OpR X (compareOp .Eq) (rEqNil X.K) := by
  intro pins s σ H x y v u Q I rx ry h
  obtain ⟨a, b, xs, rfl, rfl, ha, hb, q⟩ := h
  cases rx
  cases ry
  obtain ⟨us, r1, p1, _⟩ := I.list ha
  obtain ⟨ws, r2, p2, _⟩ := I.list hb
  cases r2
  cases r1 with
  | nil =>
    refine SeqAt.rcP_lists (e := fun _ => true) p1.isList p2.isList rfl (by omega) (fun j h1 h2 => ?_) _ _ ⟨.bl true, H, I, rfl, q⟩
    exact absurd h1 (Nat.not_lt_zero j)
  | cons h t =>
    refine SeqAt.cm_rcP_ne p1.isList p2.isList (by simp) (by omega) _ _ ⟨.bl false, H, I, rfl, q⟩
end
end Cm
namespace HT
open PySem PyProof.Rows
section
variable {prog : Program} {w : World} {A : Around} {E : Value → Shared → Prop} {s : Shared}
theorem cm_adjust (n : Nat) : Builtin.Slice.sliceAdjust none none (-1) (n : Int) = ((n : Int) - 1, -1) := rfl
theorem cm_places (n : Nat) : Builtin.Slice.slicePlaces ((n : Int) - 1) (-1) (-1) = n := by
  unfold Builtin.Slice.slicePlaces
  rw [if_neg (show ¬ ((-1 : Int) > 0) by omega)]
  cases n with
  | zero => rfl
  | succ n =>
    rw [if_pos (show ((n + 1 : Nat) : Int) - 1 > -1 by omega)]
    show ((((n + 1 : Nat) : Int) - 1 - -1 - 1) / 1 + 1).toNat = n + 1
    rw [Int.ediv_one]; omega
theorem cm_applied {sl : Addr} {vl vu vs : Value} {n : Nat} {Q : Int × Int × Nat → Shared → Prop} (hs : s.heap.IsSliceOf sl vl vu vs) (pl : IsPart vl none) (pu : IsPart vu none) (ps : IsPart vs (some (-1)))
    (h : Q ((n : Int) - 1, -1, n) s) : wpAny (model prog w) A (Builtin.Slice.sliceApplied (.ref sl) (pure (n : Int))) Q E s := by
  obtain ⟨os, hos, hcs, hds⟩ := id hs
  unfold Builtin.Slice.sliceApplied Builtin.Slice.sliceFields
  refine wpAny_bind (wpAny_bind (wpAny_field hos hds (x := vl) rfl (wpAny_bind (wpAny_field hos hds (x := vu) rfl (wpAny_bind (wpAny_field hos hds (x := vs) rfl (wpAny_pure ?_)))))))
  refine wpAny_bind (slicePart_ ps ?_)
  show wpAny _ _ (if ((-1 : Int) == 0) = true then _ else _) _ _ s
  rw [if_neg (by decide)]
  refine wpAny_bind (slicePart_ pl (wpAny_bind (slicePart_ pu (wpAny_bind (wpAny_pure ?_)))))
  show wpAny _ _ (match Builtin.Slice.sliceAdjust none none (-1) (n : Int) with | (lo, hi) => pure (lo, (-1 : Int), Builtin.Slice.slicePlaces lo hi (-1))) _ _ s
  rw [cm_adjust n]
  show wpAny _ _ (pure ((n : Int) - 1, (-1 : Int), Builtin.Slice.slicePlaces ((n : Int) - 1) (-1) (-1))) _ _ s
  rw [cm_places]
  exact wpAny_pure h
theorem cm_pick (xs : List Value) : ((List.range xs.length).filterMap fun (m : Nat) => xs.toArray[((xs.length : Int) - 1 + (m : Int) * -1).toNat]?).toArray = xs.reverse.toArray := by
  congr 1
  have e : ∀ m ∈ List.range xs.length, xs.toArray[((xs.length : Int) - 1 + (m : Int) * -1).toNat]? = xs.reverse[m]? := by
    intro m hm
    have hm := List.mem_range.mp hm
    rw [List.getElem?_reverse hm, show ((xs.length : Int) - 1 + (m : Int) * -1).toNat = xs.length - 1 - m by omega]
    simp
  have e2 : ∀ (l : List Nat), (∀ m ∈ l, m ∈ List.range xs.length) → (l.filterMap fun (m : Nat) => xs.toArray[((xs.length : Int) - 1 + (m : Int) * -1).toNat]?) = l.filterMap fun m => xs.reverse[m]? := by
    intro l
    induction l with
    | nil => intro _; rfl
    | cons a r ih =>
      intro h
      rw [List.filterMap_cons, List.filterMap_cons, e a (h a (List.mem_cons_self ..)), ih (fun m hm => h m (List.mem_cons_of_mem _ hm))]
  rw [e2 _ (fun _ h => h), ← List.length_reverse (as := xs)]
  generalize xs.reverse = ys
  induction ys with
  | nil => rfl
  | cons y r ih =>
    rw [List.length_cons, List.range_succ_eq_map, List.filterMap_cons]
    show y :: List.filterMap _ _ = _
    rw [List.filterMap_map]
    exact congrArg (y :: ·) ih
theorem cm_tuple_rev {t sl : Addr} {items : List Value} {vl vu vs : Value} {Q : Value → Shared → Prop} (ht : IsTup s.heap t items.toArray) (hs : s.heap.IsSliceOf sl vl vu vs) (pl : IsPart vl none) (pu : IsPart vu none) (ps : IsPart vs (some (-1)))
    (h : Q (.ref s.heap.objs.size) { s with heap := s.heap.push { cls := .type "tuple", data := .seq items.reverse.toArray } })
    (hsz : items.length ≤ sizeLine) : wpAny (model prog w) A (getItem (.ref t) (.ref sl)) Q E s := by
  have htake : sizeOk (.seq items.reverse.toArray) := by
    show items.reverse.toArray.size ≤ sizeLine
    rw [List.size_toArray, List.length_reverse]; exact hsz
  obtain ⟨os, hos, hcs, hds⟩ := id hs
  have hTs : s.TypeIs (.ref sl) "slice" := ⟨os, hos, hcs⟩
  unfold getItem
  try with_reducible refine wpAny_holding ?_
  first | refine wpAny_bind (wpAny_pure ?_) | skip
  refine wpAny_bind (wpAny_sequenceKey ht.typeIs (by decide) ?_)
  refine wpAny_bind (wpAny_callSpecial?_slot (name := Str.ofString "__getitem__") ht.typeIs PyProof.Rows.slot_tuple_getitem
    (wpAny_call_entry PyProof.Rows.slot_tuple_getitem ht.typeIs entry_tuple_getitem ?_ (args_tuple_getitem _ _)))
  show wpAny _ _ (Builtin.Tuple.tupleItemsOf (.ref t) >>= _) _ _ s
  refine wpAny_bind (tupleItemsOf_ ht ?_)
  refine wpAny_bind (wpAny_typeOf hTs ?_)
  rw [if_pos (by decide)]
  refine wpAny_bind (cm_applied (n := items.length) hs pl pu ps ?_)
  have hno : ¬ ((((items.length : Int) - 1) == 0 && (-1 : Int) == 1 && items.length == items.toArray.size) = true) := by
    intro q
    rw [Bool.and_eq_true, Bool.and_eq_true] at q
    exact absurd q.1.2 (by decide)
  show wpAny _ _ (if (((items.length : Int) - 1) == 0 && (-1 : Int) == 1 && items.length == items.toArray.size) = true then _ else _) _ _ s
  rw [if_neg hno, cm_pick]
  first
    | exact wpAny_bind (m := Builtin.Tuple.tupleExact _) (wpAny_newObj_type (wpAny_pure ⟨_, rfl, wpAny_pure h⟩) htake)
    | exact wpAny_bind (m := Builtin.Tuple.tupleExact _) (wpAny_newObj_type (wpAny_bind (wpAny_pure (wpAny_pure ⟨_, rfl, wpAny_pure h⟩))) htake)
    | exact wpAny_bind (wpAny_bind (m := Builtin.Tuple.tupleExact _) (wpAny_newObj_type (wpAny_pure (wpAny_pure ⟨_, rfl, wpAny_pure h⟩)) htake))
    | exact wpAny_bind (wpAny_bind (m := Builtin.Tuple.tupleExact _) (wpAny_newObj_type (wpAny_pure ⟨_, rfl, wpAny_pure h⟩) htake))
end
end HT
namespace Cm
open PySem PySem.Spec PyProof.Rows PySem.W L2 SX
section
variable {X : Cx}
/-- t[::-1] -/
def tRevT (K : Frag) (te : TE) : TE := fun σ H Q => te σ H fun x H1 => ∃ a xs, x = .ref a ∧ SqT K H1 a xs ∧ ∀ p, H1 p = none → Q (.ref p) (upd H1 p (.tup xs.reverse))
theorem pe_revT {e : Expr} {te : TE} {k : Nat} {p1 p2 p3 pos : Pos} (he : PE X e te) : PE X (.Subscript e (.Slice none none (some (.UnaryOp .USub (.Constant (.int 1) k p1) p2)) p3) pos) (tRevT X.K te) := by
  refine ⟨fun pins s σ H Q I h => ?_⟩
  refine Subscript_ (thn (he.run pins s σ H _ I h) fun v s1 ⟨x, H1, I1, r1, q1⟩ => ?_)
  obtain ⟨a, xs, ex, hx, q⟩ := q1
  subst ex
  cases r1
  have hst : PO X (some (.UnaryOp .USub (.Constant (.int 1) k p1) p2)) (tPart (tUn (rU fun i => .int (-i)) (tC (.int 1)))) := po_some (pe_un un_neg pe_int)
  refine wpAny_Slice (thn (po_none.run pins s1 σ H1 (fun o H2 => o = none ∧ H2 = H1) I1 ⟨rfl, rfl⟩) fun vl s2 ⟨l, H2, I2, pl, el, e2⟩ => ?_)
  subst el e2
  refine thn (po_none.run pins s2 σ H2 (fun o H3 => o = none ∧ H3 = H2) I2 ⟨rfl, rfl⟩) fun vu s3 ⟨u, H3, I3, pu, eu, e3⟩ => ?_
  subst eu e3
  refine thn (hst.run pins s3 σ H3 (fun o H4 => o = some (-1) ∧ H4 = H3) I3 ⟨1, rfl, -1, rfl, rfl, rfl⟩) fun vs s4 ⟨o, H4, I4, ps, eo, e4⟩ => ?_
  subst eo e4
  have I5 : Inv X pins σ H4 { s4 with heap := s4.heap.push { cls := .type "slice", data := .fields #[vl, vu, vs] } } := I4.kept (t' := s4.toks) fun b ob q => Heap.get?_push_of_some _ q
  obtain ⟨its, r, ht, hz⟩ := I5.tuple hx
  have hlen := r.length
  show wpAny (model X.prog X.w) X.A (subscriptTail e (.Slice none none (some (.UnaryOp .USub (.Constant (.int 1) k p1) p2)) p3) (.ref a) (.ref s4.heap.objs.size)) (EP X pins σ Q) X.xe { s4 with heap := s4.heap.push { cls := .type "slice", data := .fields #[vl, vu, vs] } }
  refine tail_any (ops := [.ref a, .ref s4.heap.objs.size]) ht.typeIs (PyProof.Rows.slot_tuple_getitem.lookup) ?_ (by with_unfolding_all rfl)
  refine HT.cm_tuple_rev ht (Heap.IsSliceOf.new _ vl vu vs) pl pu ps ?_ (by omega)
  refine ⟨.ref _, _, I5.laid (t' := s4.toks) (o := .tup xs.reverse) (fun b ob q => Heap.get?_push_of_some _ q) (Nat.le_refl _) ?_, rfl, q _ (I5.hok.fresh (Nat.le_refl _))⟩
  exact ⟨by rw [List.length_reverse]; exact hz, _, r.reverse, IsTup.new _ _⟩
end
end Cm
namespace Cm
open PySem PySem.Spec PyProof.Rows PySem.W L2 SX
section
variable {X : Cx}
/-- t == () -/
def rEqNilT (K : Frag) : R2 := fun x y H Q => ∃ a b xs, x = .ref a ∧ y = .ref b ∧ SqT K H a xs ∧ SqT K H b [] ∧ Q (.bl xs.isEmpty) H
theorem op_eqNilT (hu : X.A.units + 64 < cLine) : OpR X (compareOp .Eq) (rEqNilT X.K) := by
  intro pins s σ H x y v u Q I rx ry h
  obtain ⟨a, b, xs, rfl, rfl, ha, hb, q⟩ := h
  cases rx
  cases ry
  obtain ⟨us, r1, p1, _⟩ := I.tuple ha
  obtain ⟨ws, r2, p2, _⟩ := I.tuple hb
  cases r2
  have e : xs.isEmpty = ((List.range (min us.toArray.size (#[] : Array Value).size)).all (fun _ => true) && us.toArray.size == (#[] : Array Value).size) := by
    cases r1 with
    | nil => rfl
    | cons h t => rw [List.size_toArray]; rfl
  rw [e] at q
  obtain ⟨⟨cls, dd, data, sl⟩, ho, hc, n, hd⟩ := id p1
  obtain ⟨⟨cls2, dd2, data2, sl2⟩, ho2, hc2, n2, hd2⟩ := id p2
  simp only at hc hd hc2 hd2
  subst hc hd hc2 hd2
  refine richCompare_meets_room (op := .Eq) ⟨_, ho, rfl⟩ ⟨_, ho2, rfl⟩ F.slot_tuple_eq F.entry_tuple_eq (F.args_tuple_eq_2 _ _) (SeqAt.tuple_eqAt a b us.toArray #[] n n2 dd dd2 sl sl2 (fun _ => true)) ?_ (by omega)
  exact ⟨ho, ho2, (fun j h1 h2 => absurd h2 (Nat.not_lt_zero j)), (fun z => nomatch z), ⟨.bl _, H, I, rfl, q⟩⟩
end
end Cm
namespace Cm
open PySem PySem.W L2 SX
/-! ### isinstance of a caught error, its class and dict told by the reading -/
end Cm
/-! an error that is caught and held beyond its suite: behind the suite its place is told by what its object is -/
namespace Cm
open PySem PySem.W L2 SX
/-- an error of the class cls, with the dict d, stands at a -/
def ExcAt (a : Addr) (cls : Value) (d : Option Addr) : Heap → Prop := fun h => ∃ oe vs, h.get? a = some oe ∧ Zc cls d oe ∧ oe.data = .fields vs
def eOb (a : Addr) (cls : Value) (d : Option Addr) : HO := .ext (ExcAt a cls d)
end Cm
/-! The layer of data: tuples are values, what can change stands in a store of its own. -/
namespace DD
open PySem PySem.W L2 SX Cm
inductive DV where
  | non | bl (b : Bool) | int (i : Int) | str (z : Str) | ty (n : String) | tup (xs : List DV) | ref (a : Addr)
noncomputable instance : DecidableEq DV := fun a b => Classical.propDecidable (a = b)
mutual
inductive RV (K : Frag) (H : Hp) : V → DV → Prop
  | non : RV K H .non .non
  | bl (b : Bool) : RV K H (.bl b) (.bl b)
  | int (i : Int) : RV K H (.int i) (.int i)
  | str (z : Str) : RV K H (.str z) (.str z)
  | ty (n : String) : RV K H (.ty n) (.ty n)
  | ref (a : Addr) : RV K H (.ref a) (.ref a)
  | tup {a : Addr} {xs : List V} {ds : List DV} : SqT K H a xs → RVs K H xs ds → RV K H (.ref a) (.tup ds)
inductive RVs (K : Frag) (H : Hp) : List V → List DV → Prop
  | nil : RVs K H [] []
  | cons {v : V} {vs : List V} {d : DV} {ds : List DV} : RV K H v d → RVs K H vs ds → RVs K H (v :: vs) (d :: ds)
end
mutual
theorem RV.mono {K : Frag} {H H' : Hp} (k : TKs K H H') : ∀ {v : V} {d : DV}, RV K H v d → RV K H' v d
  | _, _, .non => .non
  | _, _, .bl b => .bl b
  | _, _, .int i => .int i
  | _, _, .str z => .str z
  | _, _, .ty n => .ty n
  | _, _, .ref a => .ref a
  | _, _, .tup h t => .tup (k _ _ h) (RVs.mono k t)
theorem RVs.mono {K : Frag} {H H' : Hp} (k : TKs K H H') : ∀ {v : List V} {d : List DV}, RVs K H v d → RVs K H' v d
  | _, _, .nil => .nil
  | _, _, .cons h t => .cons (RV.mono k h) (RVs.mono k t)
end
section
variable {K : Frag} {H H' : Hp}
theorem RVs.len : ∀ {v : List V} {d : List DV}, RVs K H v d → v.length = d.length
  | _, _, .nil => rfl
  | _, _, .cons _ t => congrArg (· + 1) (RVs.len t)
theorem RVs.append : ∀ {v v' : List V} {d d' : List DV}, RVs K H v d → RVs K H v' d' → RVs K H (v ++ v') (d ++ d')
  | _, _, _, _, .nil, h => h
  | _, _, _, _, .cons h t, h' => .cons h (RVs.append t h')
theorem RVs.get : ∀ {v : List V} {d : List DV} {i : Nat} {y : DV}, RVs K H v d → d[i]? = some y → ∃ x, v[i]? = some x ∧ RV K H x y
  | _, _, _, _, .nil, e => by simp at e
  | _, _, 0, _, .cons h t, e => by cases e; exact ⟨_, rfl, h⟩
  | _, _, i + 1, _, .cons h t, e => RVs.get (i := i) t (by simpa using e)
theorem RVs.getV : ∀ {v : List V} {d : List DV} {i : Nat} {x : V}, RVs K H v d → v[i]? = some x → ∃ y, d[i]? = some y ∧ RV K H x y
  | _, _, _, _, .nil, e => by simp at e
  | _, _, 0, _, .cons h t, e => by cases e; exact ⟨_, rfl, h⟩
  | _, _, i + 1, _, .cons h t, e => RVs.getV (i := i) t (by simpa using e)
theorem RVs.drop : ∀ (n : Nat) {v : List V} {d : List DV}, RVs K H v d → RVs K H (v.drop n) (d.drop n)
  | 0, _, _, h => h
  | _ + 1, _, _, .nil => .nil
  | n + 1, _, _, .cons _ t => RVs.drop n t
theorem RVs.take : ∀ (n : Nat) {v : List V} {d : List DV}, RVs K H v d → RVs K H (v.take n) (d.take n)
  | 0, _, _, _ => .nil
  | _ + 1, _, _, .nil => .nil
  | n + 1, _, _, .cons h t => .cons h (RVs.take n t)
theorem RVs.reverse : ∀ {v : List V} {d : List DV}, RVs K H v d → RVs K H v.reverse d.reverse
  | _, _, .nil => .nil
  | _, _, .cons h t => by rw [List.reverse_cons, List.reverse_cons]; exact (RVs.reverse t).append (.cons h .nil)
theorem RVs.set {x : V} {y : DV} (r : RV K H x y) : ∀ {v : List V} {d : List DV} (i : Nat), RVs K H v d → RVs K H (v.set i x) (d.set i y)
  | _, _, _, .nil => .nil
  | _, _, 0, .cons _ t => .cons r t
  | _, _, i + 1, .cons h t => .cons h (RVs.set r i t)
theorem RVs.dropLast : ∀ {v : List V} {d : List DV}, RVs K H v d → RVs K H v.dropLast d.dropLast
  | _, _, .nil => .nil
  | _, _, .cons h .nil => .nil
  | _, _, .cons h (.cons h' t) => .cons h (RVs.dropLast (.cons h' t))
theorem RVs.isEmpty {v : List V} {d : List DV} (h : RVs K H v d) : v.isEmpty = d.isEmpty := by cases h <;> rfl
theorem RVs.strs' : ∀ (ns : List Str), RVs K H (ns.map V.str) (ns.map DV.str)
  | [] => .nil
  | n :: r => .cons (.str n) (RVs.strs' r)
theorem RV.tupD {v : V} {ds : List DV} (h : RV K H v (.tup ds)) : ∃ a xs, v = .ref a ∧ SqT K H a xs ∧ RVs K H xs ds := by
  cases h with
  | tup a b => exact ⟨_, _, rfl, a, b⟩
end
/-! ### the store -/
inductive DO where
  | lst (xs : List DV)
  /-- a list that is only read -/
  | ro (xs : List DV)
  | dct (kvs : List (Key × DV))
  /-- a list of one number, whatever it is -/
  | cnt
  /-- a tuple kept as the object that was made -/
  | ptp (ds : List DV)
  /-- an instance of the class at C, its attributes -/
  | obj (C : Addr) (fs : List (Str × DV))
  /-- a caught error of this class -/
  | err (cls : Value)
  /-- what is true of the objects at L, the first of which it is -/
  | abs (L : List Addr) (φ : Hp → Prop)
abbrev DG := Addr → Option DO
def dupd (G : DG) (a : Addr) (o : DO) : DG := fun b => if b = a then some o else G b
theorem dupd_same {G : DG} {a : Addr} {o : DO} : dupd G a o a = some o := if_pos rfl
theorem dupd_ne {G : DG} {a b : Addr} {o : DO} (h : b ≠ a) : dupd G a o b = G b := if_neg h
theorem dupd_dupd {G : DG} {a : Addr} {o o' : DO} : dupd (dupd G a o) a o' = dupd G a o' := by
  funext b; unfold dupd; split <;> rfl
inductive KRV (K : Frag) (H : Hp) : List (Key × V) → List (Key × DV) → Prop
  | nil : KRV K H [] []
  | cons {k : Key} {v : V} {d : DV} {vs : List (Key × V)} {ds : List (Key × DV)} : RV K H v d → KRV K H vs ds → KRV K H ((k, v) :: vs) ((k, d) :: ds)
theorem KRV.mono {K : Frag} {H H' : Hp} (k : TKs K H H') {vs : List (Key × V)} {ds : List (Key × DV)} (h : KRV K H vs ds) : KRV K H' vs ds := by
  induction h with
  | nil => exact .nil
  | cons h _ ih => exact .cons (h.mono k) ih
inductive FRV (K : Frag) (H : Hp) : List (Str × V) → List (Str × DV) → Prop
  | nil : FRV K H [] []
  | cons {k : Str} {v : V} {d : DV} {vs : List (Str × V)} {ds : List (Str × DV)} : RV K H v d → FRV K H vs ds → FRV K H ((k, v) :: vs) ((k, d) :: ds)
theorem FRV.mono {K : Frag} {H H' : Hp} (k : TKs K H H') {vs : List (Str × V)} {ds : List (Str × DV)} (h : FRV K H vs ds) : FRV K H' vs ds := by
  induction h with
  | nil => exact .nil
  | cons h _ ih => exact .cons (h.mono k) ih
def OR (K : Frag) (H : Hp) (O : Addr → Option Addr) (a : Addr) : DO → Prop
  | .lst ds => ∃ xs, H a = some (.lst xs) ∧ RVs K H xs ds
  | .ro ds => ∃ xs, Rd H a (.lst xs) ∧ RVs K H xs ds
  | .dct kvs => ∃ ks, H a = some (.dK ks) ∧ KRV K H ks kvs
  | .cnt => ∃ n : Int, H a = some (.lst [.int n])
  | .ptp ds => ∃ o xs, o.dict = Option.none ∧ H a = some (.frz o (.tup xs)) ∧ RVs K H xs ds
  | .obj C fs => ∃ dx vs, H a = some (.ins C dx vs) ∧ FRV K H vs fs
  | .err cls => H a = some (eOb a cls Option.none)
  | .abs L φ => a ∈ L ∧ (∃ xs, H a = some (.lst xs)) ∧ φ H ∧ (∀ H1 H2, (∀ b ∈ L, H1 b = H2 b) → φ H1 → φ H2) ∧ ∀ b ∈ L, b ≠ a → O b = some a
/-- the store stands in the heap; O: who owns what does not stand in the store -/
structure WdO (K : Frag) (H : Hp) (O : Addr → Option Addr) (G : DG) : Prop where
  own : ∀ b a, O b = some a → G b = none ∧ ∃ xs, H b = some (.lst xs)
  ob : ∀ a o, G a = some o → OR K H O a o
def Wd (K : Frag) (H : Hp) (G : DG) : Prop := ∃ O, WdO K H O G
section
variable {K : Frag} {H H' : Hp} {G G' : DG} {O : Addr → Option Addr} {a p : Addr} {o : DO}
theorem OR.some (h : OR K H O a o) : ∃ u, H a = some u := by
  cases o with
  | lst ds => obtain ⟨xs, e, _⟩ := h; exact ⟨_, e⟩
  | ro ds =>
    obtain ⟨xs, e | ⟨o, e⟩, _⟩ := h
    · exact ⟨_, e⟩
    · exact ⟨_, e⟩
  | dct kvs => obtain ⟨xs, e, _⟩ := h; exact ⟨_, e⟩
  | cnt => obtain ⟨xs, e⟩ := h; exact ⟨_, e⟩
  | ptp ds => obtain ⟨_, _, _, e, _⟩ := h; exact ⟨_, e⟩
  | obj C fs => obtain ⟨_, _, e, _⟩ := h; exact ⟨_, e⟩
  | err cls => exact ⟨_, h⟩
  | abs L φ => obtain ⟨xs, e⟩ := h.2.1; exact ⟨_, e⟩
theorem WdO.free (w : WdO K H O G) (n : H p = none) : G p = none ∧ O p = none := by
  refine ⟨?_, ?_⟩
  · cases e : G p with
    | none => rfl
    | some o => obtain ⟨u, h⟩ := (w.ob p o e).some; rw [n] at h; cases h
  · cases e : O p with
    | none => rfl
    | some o => obtain ⟨_, xs, h⟩ := w.own p o e; rw [n] at h; cases h
theorem Wd.free (w : Wd K H G) (n : H p = none) : G p = none := by
  obtain ⟨O, w⟩ := w
  exact (w.free n).1
/-- what stays of an object where its addresses stay -/
theorem OR.keep (w : WdO K H O G) (t : TKs K H H') (e : G a = Option.some o) (h : ∀ b, (b = a ∨ O b = Option.some a) → H' b = H b) : OR K H' O a o := by
  have x := w.ob a o e
  have ha : H' a = H a := h a (.inl rfl)
  cases o with
  | lst ds => obtain ⟨xs, e, r⟩ := x; exact ⟨xs, by rw [ha]; exact e, r.mono t⟩
  | ro ds =>
    obtain ⟨xs, e | ⟨o, e⟩, r⟩ := x
    · exact ⟨xs, .inl (by rw [ha]; exact e), r.mono t⟩
    · exact ⟨xs, .inr ⟨o, by rw [ha]; exact e⟩, r.mono t⟩
  | dct kvs => obtain ⟨ks, e, r⟩ := x; exact ⟨ks, by rw [ha]; exact e, r.mono t⟩
  | cnt => obtain ⟨n, e⟩ := x; exact ⟨n, by rw [ha]; exact e⟩
  | ptp ds => obtain ⟨u, xs, d, e, r⟩ := x; exact ⟨u, xs, d, by rw [ha]; exact e, r.mono t⟩
  | obj C fs => obtain ⟨dx, vs, e, r⟩ := x; exact ⟨dx, vs, by rw [ha]; exact e, r.mono t⟩
  | err cls => show H' a = _; rw [ha]; exact x
  | abs L φ =>
    obtain ⟨m, ⟨u, hu⟩, hφ, loc, ow⟩ := x
    refine ⟨m, ⟨u, by rw [ha]; exact hu⟩, loc H H' (fun b hb => ?_) hφ, loc, ow⟩
    by_cases hba : b = a
    · rw [hba]; exact ha.symm
    · exact (h b (.inr (ow b hb hba))).symm
theorem Wd.same (w : Wd K H G) (s : Same H H') : Wd K H' G := by
  obtain ⟨O, w⟩ := w
  refine ⟨O, ⟨fun b a e => ?_, fun a o e => OR.keep w (TKs.of s) e fun b hb => ?_⟩⟩
  · obtain ⟨h1, xs, h2⟩ := w.own b a e
    exact ⟨h1, xs, s _ _ h2⟩
  · obtain ⟨u, hu⟩ : ∃ u, H b = Option.some u := by
      rcases hb with rfl | hb
      · exact (w.ob _ o e).some
      · obtain ⟨_, xs, h⟩ := w.own b a hb; exact ⟨_, h⟩
    rw [hu, s _ _ hu]
/-- less is known -/
def Sub (G G' : DG) : Prop := ∀ a o, G a = Option.some o → G' a = Option.some o
theorem Sub.refl (G : DG) : Sub G G := fun _ _ h => h
theorem Sub.trans {A B C : DG} (h : Sub A B) (g : Sub B C) : Sub A C := fun a o e => g a o (h a o e)
theorem Sub.new (h : Sub G G') (n : G p = none) : Sub G (dupd G' p o) := fun a u e => by
  rw [dupd_ne (fun z => by rw [z, n] at e; cases e)]; exact h a u e
theorem Sub.set (h : Sub G G') : Sub (dupd G p o) (dupd G' p o) := fun a u e => by
  by_cases z : a = p
  · subst z; rw [dupd_same] at e ⊢; exact e
  · rw [dupd_ne z] at e ⊢; exact h a u e
theorem Wd.sub (w : Wd K H G') (s : Sub G G') : Wd K H G := by
  obtain ⟨O, w⟩ := w
  refine ⟨O, ⟨fun b a e => ⟨?_, (w.own b a e).2⟩, fun a o e => w.ob a o (s a o e)⟩⟩
  cases h : G b with
  | none => rfl
  | some u => have := s b u h; rw [(w.own b a e).1] at this; cases this
/-- the store's object at p is changed, in the heap too -/
theorem Wd.put {o' : DO} {u' : HO} (w : Wd K H G) (hp : ∃ o, G p = Option.some o ∧ ∀ L φ, o ≠ .abs L φ) (t : TKs K H (upd H p u')) (h' : ∀ O, OR K (upd H p u') O p o') : Wd K (upd H p u') (dupd G p o') := by
  obtain ⟨O, w⟩ := w
  obtain ⟨o, ep, na⟩ := hp
  have op : O p = none := by
    cases e : O p with
    | none => rfl
    | some c => have := (w.own p c e).1; rw [ep] at this; cases this
  refine ⟨O, ⟨fun b a e => ?_, fun a o1 e => ?_⟩⟩
  · obtain ⟨h1, xs, h2⟩ := w.own b a e
    have bp : b ≠ p := fun z => by rw [z, op] at e; cases e
    exact ⟨by rw [dupd_ne bp]; exact h1, xs, by rw [upd_ne bp]; exact h2⟩
  · by_cases hap : a = p
    · subst hap
      rw [dupd_same] at e
      cases e
      exact h' O
    · rw [dupd_ne hap] at e
      exact OR.keep w t e fun b hb => upd_ne (fun z => by
        rcases hb with hb | hb
        · exact hap (hb.symm.trans z)
        · rw [z, op] at hb; cases hb)
/-- a new object -/
theorem Wd.new {u : HO} (w : Wd K H G) (n : H p = none) (h : ∀ O, OR K (upd H p u) O p o) : Wd K (upd H p u) (dupd G p o) := by
  have w' := w.same (same_new n u)
  obtain ⟨O, w⟩ := w
  have fr := w.free n
  refine ⟨O, ⟨fun b a e => ?_, fun a o1 e => ?_⟩⟩
  · obtain ⟨h1, xs, h2⟩ := w.own b a e
    have bp : b ≠ p := fun z => by rw [z, fr.2] at e; cases e
    exact ⟨by rw [dupd_ne bp]; exact h1, xs, by rw [upd_ne bp]; exact h2⟩
  · by_cases hap : a = p
    · subst hap
      rw [dupd_same] at e
      cases e
      exact h O
    · rw [dupd_ne hap] at e
      exact OR.keep w (TKs.of (same_new n u)) e fun b hb => upd_ne (fun z => by
        rcases hb with hb | hb
        · exact hap (hb.symm.trans z)
        · rw [z, fr.2] at hb; cases hb)
end
end DD
namespace DD
open PySem PySem.W L2 SX Cm
abbrev DSt := List (Option DV)
abbrev DK := DV → DG → Prop
abbrev TD := DSt → DG → DK → Prop
abbrev TDT := DSt → DG → (Bool → DG → Prop) → Prop
abbrev TDA := DSt → DG → (List DV → DG → Prop) → Prop
structure DEnds where
  nx : DSt → DG → Prop
  rt : DK
  bk : DSt → DG → Prop := fun _ _ => False
  ct : DSt → DG → Prop := fun _ _ => False
abbrev TDS := DEnds → DSt → DG → Prop
/-! ### slots -/
inductive Sl (K : Frag) (H : Hp) : St → DSt → Prop
  | nil : Sl K H [] []
  | non {σ : St} {δ : DSt} : Sl K H σ δ → Sl K H (none :: σ) (none :: δ)
  | cons {v : V} {d : DV} {σ : St} {δ : DSt} : RV K H v d → Sl K H σ δ → Sl K H (some v :: σ) (some d :: δ)
section
variable {K : Frag} {H H' : Hp}
theorem Sl.mono (k : TKs K H H') {σ : St} {δ : DSt} (h : Sl K H σ δ) : Sl K H' σ δ := by
  induction h with
  | nil => exact .nil
  | non _ ih => exact .non ih
  | cons r _ ih => exact .cons (r.mono k) ih
theorem Sl.get : ∀ {σ : St} {δ : DSt} {i : Nat} {d : DV}, Sl K H σ δ → δ[i]? = some (some d) → ∃ v, σ[i]? = some (some v) ∧ RV K H v d
  | _, _, _, _, .nil, e => by simp at e
  | _, _, 0, _, .non _, e => by simp at e
  | _, _, 0, _, .cons r _, e => by simp at e; subst e; exact ⟨_, rfl, r⟩
  | _, _, i + 1, _, .non t, e => Sl.get (i := i) t (by simpa using e)
  | _, _, i + 1, _, .cons _ t, e => Sl.get (i := i) t (by simpa using e)
theorem Sl.set {v : V} {d : DV} (r : RV K H v d) : ∀ {σ : St} {δ : DSt} (i : Nat), Sl K H σ δ → Sl K H (σ.set i (some v)) (δ.set i (some d))
  | _, _, _, .nil => .nil
  | _, _, 0, .non t => .cons r t
  | _, _, 0, .cons _ t => .cons r t
  | _, _, i + 1, .non t => .non (Sl.set r i t)
  | _, _, i + 1, .cons h t => .cons h (Sl.set r i t)
theorem Sl.unset : ∀ {σ : St} {δ : DSt} (i : Nat), Sl K H σ δ → Sl K H (σ.set i none) (δ.set i none)
  | _, _, _, .nil => .nil
  | _, _, 0, .non t => .non t
  | _, _, 0, .cons _ t => .non t
  | _, _, i + 1, .non t => .non (Sl.unset i t)
  | _, _, i + 1, .cons h t => .cons h (Sl.unset i t)
theorem RVs.atI {v : List V} {d : List DV} {i : Int} {y : DV} (h : RVs K H v d) (e : L2.atI d i = some y) : ∃ x, L2.atI v i = some x ∧ RV K H x y := by
  unfold L2.atI at *
  rw [h.len]
  cases hj : ixN d.length i with
  | none => rw [hj] at e; cases e
  | some j =>
    rw [hj] at e
    obtain ⟨x, h1, h2⟩ := h.get e
    exact ⟨x, h1, h2⟩
/-- a slice -/
def cutD {α : Type} (xs : List α) (lo hi : Option Int) : List α := (xs.drop (HT.sIx xs.length 0 lo)).take (HT.sIx xs.length xs.length hi - HT.sIx xs.length 0 lo)
theorem RVs.cut {v : List V} {d : List DV} (h : RVs K H v d) (lo hi : Option Int) : RVs K H (cutV v lo hi) (cutD d lo hi) := by
  unfold cutV cutD
  rw [h.len]
  exact (h.drop _).take _
theorem cutD_all {α : Type} {xs : List α} {lo hi : Option Int} (h : HT.sIx xs.length 0 lo = 0 ∧ HT.sIx xs.length xs.length hi = xs.length) : cutD xs lo hi = xs := by
  unfold cutD
  rw [h.1, h.2, List.drop_zero, Nat.sub_zero, List.take_length]
end
/-! ### what a reading of data says of the heap -/
def Fin (K : Frag) (H : Hp) (R : DK) (Q : VK) : Prop := ∀ d G v H', R d G → TKs K H H' → Wd K H' G → RV K H' v d → Q v H'
def up (K : Frag) (t : TD) : TE := fun σ H Q => ∃ δ G R, Sl K H σ δ ∧ Wd K H G ∧ t δ G R ∧ Fin K H R Q
def upT (K : Frag) (t : TDT) : TT := fun σ H Q => ∃ δ G R, Sl K H σ δ ∧ Wd K H G ∧ t δ G R ∧ ∀ b G' H', R b G' → TKs K H H' → Wd K H' G' → Q b H'
def upA (K : Frag) (t : TDA) : TA := fun σ H Q => ∃ δ G R, Sl K H σ δ ∧ Wd K H G ∧ t δ G R ∧ ∀ ds G' vs H', R ds G' → TKs K H H' → Wd K H' G' → RVs K H' vs ds → Q vs H'
/-- the ends of data and the ends of the heap -/
structure Links (K : Frag) (H : Hp) (D' : DEnds) (D : Ends) : Prop where
  nx : ∀ σ δ G H', D'.nx δ G → TKs K H H' → Wd K H' G → Sl K H' σ δ → D.nx σ H'
  rt : ∀ d G v H', D'.rt d G → TKs K H H' → Wd K H' G → RV K H' v d → D.rt v H'
  bk : ∀ σ δ G H', D'.bk δ G → TKs K H H' → Wd K H' G → Sl K H' σ δ → D.bk σ H'
  ct : ∀ σ δ G H', D'.ct δ G → TKs K H H' → Wd K H' G → Sl K H' σ δ → D.ct σ H'
def upS (K : Frag) (t : TDS) : TS := fun D σ H => ∃ D' δ G, Sl K H σ δ ∧ Wd K H G ∧ Links K H D' D ∧ t D' δ G
section
variable {K : Frag} {H H1 : Hp}
theorem Fin.step {R : DK} {Q : VK} (f : Fin K H R Q) (t : TKs K H H1) : Fin K H1 R Q := fun d G v H' r t' w rv => f d G v H' r (t.trans t') w rv
theorem Links.step {D' : DEnds} {D : Ends} (l : Links K H D' D) (t : TKs K H H1) : Links K H1 D' D :=
  ⟨fun σ δ G H' r t' => l.nx σ δ G H' r (t.trans t'), fun d G v H' r t' => l.rt d G v H' r (t.trans t'), fun σ δ G H' r t' => l.bk σ δ G H' r (t.trans t'), fun σ δ G H' r t' => l.ct σ δ G H' r (t.trans t')⟩
end
section
variable {X : Cx}
theorem PE_mono {e : Expr} {t t' : TE} (h : PE X e t) (i : ∀ σ H Q, t' σ H Q → t σ H Q) : PE X e t' := ⟨fun pins s σ H Q I q => h.run pins s σ H Q I (i σ H Q q)⟩
theorem PT_mono {e : Expr} {t t' : TT} (h : PT X e t) (i : ∀ σ H Q, t' σ H Q → t σ H Q) : PT X e t' := ⟨fun pins s σ H Q I q => h.run pins s σ H Q I (i σ H Q q)⟩
theorem PW_mono {e : Expr} {t t' : TT} (h : PW X e t) (i : ∀ σ H Q, t' σ H Q → t σ H Q) : PW X e t' := ⟨fun wh pins s σ H Q I q => h.run wh pins s σ H Q I (i σ H Q q)⟩
theorem PA_mono {e : List Expr} {t t' : TA} (h : PA X e t) (i : ∀ σ H Q, t' σ H Q → t σ H Q) : PA X e t' := ⟨fun pos pins s σ H Q I q => h.run pos pins s σ H Q I (i σ H Q q)⟩
theorem PS_mono {e : Stmt} {t t' : TS} (h : PS X e t) (i : ∀ D σ H, t' D σ H → t D σ H) : PS X e t' := ⟨fun pins s σ H D I q => h.run pins s σ H D I (i D σ H q)⟩
theorem PSs_mono {e : List Stmt} {t t' : TS} (h : PSs X e t) (i : ∀ D σ H, t' D σ H → t D σ H) : PSs X e t' := ⟨fun pins s σ H D I q => h.run pins s σ H D I (i D σ H q)⟩
abbrev DE (X : Cx) (e : Expr) (t : TD) : Prop := PE X e (up X.K t)
abbrev DT (X : Cx) (e : Expr) (t : TDT) : Prop := PT X e (upT X.K t)
abbrev DW (X : Cx) (e : Expr) (t : TDT) : Prop := PW X e (upT X.K t)
abbrev DA (X : Cx) (e : List Expr) (t : TDA) : Prop := PA X e (upA X.K t)
abbrev DS (X : Cx) (e : Stmt) (t : TDS) : Prop := PS X e (upS X.K t)
abbrev DSs (X : Cx) (e : List Stmt) (t : TDS) : Prop := PSs X e (upS X.K t)
/-! ### names, constants -/
def dVar (i : Nat) : TD := fun δ G Q => ∃ d, δ[i]? = some (some d) ∧ Q d G
def dC (d : DV) : TD := fun _ G Q => Q d G
theorem de_var {i : Nat} {x : Str} {pos : Pos} (hN : X.N[i]? = some x) (hv : Vis X.env.scope x) (hd : (x == ("__debug__" : Str)) = false := by decide) (hcd : (x == ("__classdict__" : Str)) = false := by decide) : DE X (.Name x pos) (dVar i) :=
  PE_mono (pe_var hN hv hd hcd) fun σ H Q ⟨δ, G, R, sl, w, ⟨d, e, r⟩, f⟩ => by
    obtain ⟨v, e', rv⟩ := sl.get e
    exact ⟨v, e', f d G v H r (TKs.refl H) w rv⟩
theorem de_c {e : Expr} {v : V} {d : DV} (h : PE X e (tC v)) (r : ∀ H, RV X.K H v d) : DE X e (dC d) :=
  PE_mono h fun σ H Q ⟨δ, G, R, sl, w, q, f⟩ => f d G v H q (TKs.refl H) w (r H)
theorem de_int {i : Int} {j pos} : DE X (.Constant (.int i) j pos) (dC (.int i)) := de_c pe_int fun _ => .int i
theorem de_bl {b : Bool} {j pos} : DE X (.Constant (.bool b) j pos) (dC (.bl b)) := de_c pe_bl fun _ => .bl b
theorem de_non {j pos} : DE X (.Constant .none j pos) (dC .non) := de_c pe_non fun _ => .non
theorem de_str {x : Str} {j pos} : DE X (.Constant (.str x) j pos) (dC (.str x)) := de_c pe_str fun _ => .str x
theorem de_gstr {x : Str} {z : Str} {pos : Pos} (hm : ∃ t, X.mg x = some (.str z t)) (hg : Gl X x) (hd : (x == ("__debug__" : Str)) = false := by decide) : DE X (.Name x pos) (dC (.str z)) := by
  obtain ⟨t, hm⟩ := hm
  exact de_c (pe_glob (v := .str z) hg hm ⟨t, rfl⟩ hd) fun _ => .str z
theorem de_gint {x : Str} {z : Int} {pos : Pos} (hm : ∃ t, X.mg x = some (.int z t)) (hg : Gl X x) (hd : (x == ("__debug__" : Str)) = false := by decide) : DE X (.Name x pos) (dC (.int z)) := by
  obtain ⟨t, hm⟩ := hm
  exact de_c (pe_glob (v := .int z) hg hm ⟨t, rfl⟩ hd) fun _ => .int z
theorem de_gref {x : Str} {a : Addr} {pos : Pos} (hm : X.mg x = some (.ref a)) (hg : Gl X x) (hd : (x == ("__debug__" : Str)) = false := by decide) : DE X (.Name x pos) (dC (.ref a)) := de_c (pe_glob (v := .ref a) hg hm rfl hd) fun _ => .ref a
theorem de_ty {x : Str} {n : String} {pos : Pos} (hm : X.mg x = none) (hg : Gl X x) (hv : bootBuiltins x = some (.type n)) (hn : x ≠ "__name__" := by decide) (hd : (x == ("__debug__" : Str)) = false := by decide) : DE X (.Name x pos) (dC (.ty n)) := de_c (pe_bltn (v := .ty n) hg hm hv rfl hn hd) fun _ => .ty n
/-! ### operators -/
abbrev D2 := DV → DV → DG → DK → Prop
def dOp (b : D2) (ta tb : TD) : TD := fun δ G Q => ta δ G fun x G1 => tb δ G1 fun y G2 => b x y G2 Q
def Ok2 (K : Frag) (r : R2) (b : D2) : Prop := ∀ x y vx vy H G R Q, RV K H vx x → RV K H vy y → Wd K H G → b x y G R → Fin K H R Q → r vx vy H Q
def OpD (X : Cx) (f : Value → Value → Sem Value) (b : D2) : Prop := ∃ r, OpR X f r ∧ Ok2 X.K r b
theorem bin_up {r : R2} {b : D2} {K : Frag} (ok : Ok2 K r b) {ta tb : TD} {σ : St} {H : Hp} {Q : VK} (h : up K (dOp b ta tb) σ H Q) : tOp r (up K ta) (up K tb) σ H Q := by
  obtain ⟨δ, G, R, sl, w, q, f⟩ := h
  exact ⟨δ, G, _, sl, w, q, fun x G1 vx H1 q1 t1 w1 r1 => ⟨δ, G1, _, sl.mono t1, w1, q1, fun y G2 vy H2 q2 t2 w2 r2 => ok x y vx vy H2 G2 R Q (r1.mono t2) r2 w2 q2 (f.step (t1.trans t2))⟩⟩
theorem de_op {op : Operator} {b : D2} {e1 e2 : Expr} {ta tb : TD} {pos : Pos} (ho : OpD X (binaryOp op) b) (ha : DE X e1 ta) (hb : DE X e2 tb) : DE X (.BinOp e1 op e2 pos) (dOp b ta tb) := by
  obtain ⟨r, hr, ok⟩ := ho
  exact PE_mono (pe_op hr ha hb) fun σ H Q h => bin_up ok h
theorem de_cmp {op : CmpOp} {b : D2} {e1 e2 : Expr} {ta tb : TD} {pos : Pos} (ho : OpD X (compareOp op) b) (ha : DE X e1 ta) (hb : DE X e2 tb) (hm : behindInMarks op e2 = false) : DE X (.Compare e1 [op] [e2] pos) (dOp b ta tb) := by
  obtain ⟨r, hr, ok⟩ := ho
  exact PE_mono (pe_cmpR hr ha hb hm) fun σ H Q h => bin_up ok h
def dTest (t : TD) : TDT := fun δ G Q => t δ G fun d G' => ∃ k, d = .bl k ∧ Q k G'
theorem test_up {K : Frag} {t : TD} {σ : St} {H : Hp} {Q : Bool → Hp → Prop} (h : upT K (dTest t) σ H Q) : up K t σ H fun x H' => ∃ k, x = .bl k ∧ Q k H' := by
  obtain ⟨δ, G, R, sl, w, q, f⟩ := h
  refine ⟨δ, G, _, sl, w, q, fun d G' v H' ⟨k, e, r⟩ t' w' rv => ?_⟩
  subst e
  cases rv
  exact ⟨k, rfl, f k G' H' r t' w'⟩
theorem dt_cmp {op : CmpOp} {b : D2} {e1 e2 : Expr} {ta tb : TD} {pos : Pos} (ho : OpD X (compareOp op) b) (ha : DE X e1 ta) (hb : DE X e2 tb) (hm : behindInMarks op e2 = false) : DT X (.Compare e1 [op] [e2] pos) (dTest (dOp b ta tb)) := by
  obtain ⟨r, hr, ok⟩ := ho
  refine PT_mono (pt_cmpR hr ha hb hm) fun σ H Q h => ?_
  have := test_up h
  exact bin_up ok this
theorem Ok2.or {K : Frag} {r r' : R2} {b : D2} (h : ∀ x y vx vy H G R Q, RV K H vx x → RV K H vy y → Wd K H G → b x y G R → Fin K H R Q → r vx vy H Q ∨ r' vx vy H Q) : Ok2 K (fun x y H Q => r x y H Q ∨ r' x y H Q) b := h
/-- sums: numbers, texts, tuples, lists -/
def bAdd : D2
  | .int i, .int j, G, Q => Q (.int (i + j)) G
  | .str a, .str b, G, Q => a.length + b.length ≤ sizeLine ∧ Q (.str (a ++ b)) G
  | .tup a, .tup b, G, Q => a.length + b.length ≤ sizeLine ∧ Q (.tup (a ++ b)) G
  | .ref p, .ref q, G, Q => ∃ xs ys, G p = some (.lst xs) ∧ G q = some (.lst ys) ∧ xs.length + ys.length ≤ sizeLine ∧ ∀ r, G r = none → Q (.ref r) (dupd G r (.lst (xs ++ ys)))
  | _, _, _, _ => False
theorem od_add : OpD X (binaryOp .Add) bAdd := by
  refine ⟨_, op_add.or (op_add_str.or (op_catA.or op_cat)), fun x y vx vy H G R Q rx ry w h f => ?_⟩
  cases rx with
  | int i =>
    cases ry with
    | int j => exact .inl ⟨i, j, rfl, rfl, f _ G _ H h (TKs.refl H) w (.int _)⟩
    | _ => exact h.elim
  | str a =>
    cases ry with
    | str b => exact .inr (.inl ⟨a, b, rfl, rfl, h.1, f _ G _ H h.2 (TKs.refl H) w (.str _)⟩)
    | _ => exact h.elim
  | tup sa ra =>
    rename_i p xs ds
    cases ry with
    | tup sb rb =>
      rename_i q ys es
      obtain ⟨hl, hq⟩ := h
      refine .inr (.inr (.inl ⟨p, q, xs, ys, rfl, rfl, sa, sb, by rw [ra.len, rb.len]; exact hl, fun e => ?_, fun _ e => ?_, fun _ _ r nr => ?_⟩))
      · subst e
        cases ra
        exact f _ G _ H hq (TKs.refl H) w (.tup sb rb)
      · subst e
        cases rb
        rw [List.append_nil] at hq
        exact f _ G _ H hq (TKs.refl H) w (.tup sa ra)
      · have s := same_new nr (.tup (xs ++ ys))
        exact f _ G _ _ hq (TKs.of s) (w.same s) (.tup (SqT.of upd_same) ((ra.append rb).mono (.of s)))
    | _ => exact h.elim
  | ref p =>
    cases ry with
    | ref q =>
      obtain ⟨xs, ys, e1, e2, hl, hq⟩ := h
      obtain ⟨O, w'⟩ := id w
      obtain ⟨us, h1, r1⟩ := w'.ob p _ e1
      obtain ⟨vs, h2, r2⟩ := w'.ob q _ e2
      refine .inr (.inr (.inr ⟨p, q, us, vs, rfl, rfl, h1, h2, by rw [r1.len, r2.len]; exact hl, fun r nr => ?_⟩))
      have s := same_new nr (.lst (us ++ vs))
      exact f _ _ _ _ (hq r (w.free nr)) (TKs.of s) (w.new nr fun O => ⟨_, upd_same, (r1.append r2).mono (.of s)⟩) (.ref r)
    | _ => exact h.elim
  | _ => exact h.elim
/-- two numbers -/
def bInt (C : Int → Int → Prop) (g : Int → Int → DV) : D2
  | .int i, .int j, G, Q => C i j ∧ Q (g i j) G
  | _, _, _, _ => False
theorem od_int {op : Operator} {C : Int → Int → Prop} {g : Int → Int → Int} (h : OpR X (binaryOp op) (rI C fun i j => .int (g i j))) : OpD X (binaryOp op) (bInt C fun i j => .int (g i j)) := by
  refine ⟨_, h, fun x y vx vy H G R Q rx ry w h f => ?_⟩
  cases rx with
  | int i =>
    cases ry with
    | int j => exact ⟨i, j, rfl, rfl, h.1, f _ G _ H h.2 (TKs.refl H) w (.int _)⟩
    | _ => exact h.elim
  | _ => exact h.elim
def bSub : D2
  | .int i, .int j, G, Q => Q (.int (i - j)) G
  | _, _, _, _ => False
theorem od_sub : OpD X (binaryOp .Sub) bSub := by
  refine ⟨_, op_sub, fun x y vx vy H G R Q rx ry w h f => ?_⟩
  cases rx with
  | int i =>
    cases ry with
    | int j => exact ⟨i, j, rfl, rfl, f _ G _ H h (TKs.refl H) w (.int _)⟩
    | _ => exact h.elim
  | _ => exact h.elim
theorem od_mul : OpD X (binaryOp .Mult) (bInt CMul fun i j => .int (i * j)) := od_int op_mul
theorem od_mod : OpD X (binaryOp .Mod) (bInt (fun _ j => 0 < j) fun i j => .int (i % j)) := od_int op_mod
theorem od_fdiv : OpD X (binaryOp .FloorDiv) (bInt CDivW fun i j => .int (i / j)) := od_int op_fdivW
theorem od_pow : OpD X (binaryOp .Pow) (bInt CPow fun i j => .int (i ^ j.toNat)) := od_int op_pow
/-- comparisons of numbers and texts -/
def bCmp (g : Int → Int → Bool) (s : List Nat → List Nat → Bool) : D2
  | .int i, .int j, G, Q => Q (.bl (g i j)) G
  | .str a, .str b, G, Q => Q (.bl (s a.cps.toList b.cps.toList)) G
  | _, _, _, _ => False
theorem od_cmp {op : CmpOp} {g : Int → Int → Bool} {s : List Nat → List Nat → Bool} (h : OpR X (compareOp op) (rI0 fun i j => .bl (g i j))) (h' : OpR X (compareOp op) (fun x y H Q => ∃ i j, x = .str i ∧ y = .str j ∧ Q (.bl (s i.cps.toList j.cps.toList)) H)) : OpD X (compareOp op) (bCmp g s) := by
  refine ⟨_, h.or h', fun x y vx vy H G R Q rx ry w h f => ?_⟩
  cases rx with
  | int i =>
    cases ry with
    | int j => exact .inl ⟨i, j, rfl, rfl, f _ G _ H h (TKs.refl H) w (.bl _)⟩
    | _ => exact h.elim
  | str i =>
    cases ry with
    | str j => exact .inr ⟨i, j, rfl, rfl, f _ G _ H h (TKs.refl H) w (.bl _)⟩
    | _ => exact h.elim
  | _ => exact h.elim
theorem od_lt : OpD X (compareOp .Lt) (bCmp (fun i j => decide (i < j)) fun a b => decide (a < b)) := od_cmp op_lt op_lt_str
theorem od_le : OpD X (compareOp .LtE) (bCmp (fun i j => decide (i ≤ j)) fun a b => !decide (b < a)) := od_cmp op_le op_le_str
theorem od_gt : OpD X (compareOp .Gt) (bCmp (fun i j => decide (j < i)) fun a b => decide (b < a)) := od_cmp op_gt op_gt_str
/-- is None, is True .. -/
def bIs (neg : Bool) : D2
  | x, .non, G, Q => Q (.bl (if neg then !decide (x = .non) else decide (x = .non))) G
  | .bl a, .bl b, G, Q => Q (.bl (if neg then !decide (a = b) else decide (a = b))) G
  | _, _, _, _ => False
theorem non_iff {K : Frag} {H : Hp} {v : V} {d : DV} (r : RV K H v d) : decide (v = .non) = decide (d = .non) := by
  cases r with
  | non => rw [decide_eq_true rfl, decide_eq_true rfl]
  | _ => rw [decide_eq_false (by intro z; cases z), decide_eq_false (by intro z; cases z)]
theorem od_is : OpD X (compareOp .Is) (bIs false) := by
  refine ⟨_, op_isN.or op_is_bl, fun x y vx vy H G R Q rx ry w h f => ?_⟩
  cases ry with
  | non =>
    refine .inl ⟨rfl, ?_⟩
    rw [non_iff rx]
    cases rx <;> exact f _ G _ H h (TKs.refl H) w (.bl _)
  | bl b =>
    cases rx with
    | bl a => exact .inr ⟨a, b, rfl, rfl, f _ G _ H h (TKs.refl H) w (.bl _)⟩
    | _ => exact h.elim
  | _ => cases rx <;> exact h.elim
end
end DD
namespace Cm
open PySem PySem.W L2 SX PySem.Spec PyProof.Rows
end Cm
namespace DD
open PySem PySem.W L2 SX Cm
/-! ### data as the comparisons see it -/
mutual
def dat : DV → PyData
  | .non => .none
  | .bl b => .bool b
  | .int i => .int i
  | .str z => .str z
  | .tup ds => .tuple (dats ds)
  | .ref _ => .none
  | .ty _ => .none
def dats : List DV → List PyData
  | [] => []
  | d :: r => dat d :: dats r
end
mutual
/-- no reference and no type within -/
def pure_ : DV → Bool
  | .ref _ => false
  | .ty _ => false
  | .tup ds => pures ds
  | _ => true
def pures : List DV → Bool
  | [] => true
  | d :: r => pure_ d && pures r
end
mutual
/-- nor a truth -/
def plain : DV → Bool
  | .ref _ => false
  | .ty _ => false
  | .bl _ => false
  | .tup ds => plains ds
  | _ => true
def plains : List DV → Bool
  | [] => true
  | d :: r => plain d && plains r
end
mutual
theorem plain_pure : ∀ d : DV, plain d = true → pure_ d = true
  | .non, _ => rfl
  | .int _, _ => rfl
  | .str _, _ => rfl
  | .tup ds, h => plains_pure ds h
  | .bl _, h => rfl
  | .ref _, h => h
  | .ty _, h => h
theorem plains_pure : ∀ ds : List DV, plains ds = true → pures ds = true
  | [], _ => rfl
  | d :: r, h => by
    have h' : (plain d && plains r) = true := h
    rw [Bool.and_eq_true] at h'
    show (pure_ d && pures r) = true
    rw [plain_pure d h'.1, plains_pure r h'.2]; rfl
end
mutual
theorem eqv_plain : ∀ x y : DV, plain x = true → plain y = true → PyData.eqv (dat x) (dat y) = decide (x = y)
  | .non, .non, _, _ => (decide_eq_true rfl).symm
  | .int i, .int j, _, _ => by
    show (i == j) = _
    by_cases h : i = j
    · rw [h, decide_eq_true rfl, beq_self_eq_true]
    · rw [decide_eq_false (fun z => h (DV.int.inj z)), beq_eq_false_iff_ne.mpr h]
  | .str i, .str j, _, _ => by
    show (i == j) = _
    by_cases h : i = j
    · rw [h, decide_eq_true rfl, beq_self_eq_true]
    · rw [decide_eq_false (fun z => h (DV.str.inj z)), beq_eq_false_iff_ne.mpr h]
  | .tup a, .tup b, h, g => by
    show PyData.eqvAll (dats a) (dats b) = _
    rw [eqvs_plain a b h g]
    by_cases e : a = b
    · rw [e, decide_eq_true rfl, decide_eq_true rfl]
    · rw [decide_eq_false e, decide_eq_false (fun z => e (DV.tup.inj z))]
  | .non, .int _, _, _ => (decide_eq_false (by intro z; cases z)).symm
  | .non, .str _, _, _ => (decide_eq_false (by intro z; cases z)).symm
  | .non, .tup _, _, _ => (decide_eq_false (by intro z; cases z)).symm
  | .int _, .non, _, _ => (decide_eq_false (by intro z; cases z)).symm
  | .int _, .str _, _, _ => (decide_eq_false (by intro z; cases z)).symm
  | .int _, .tup _, _, _ => (decide_eq_false (by intro z; cases z)).symm
  | .str _, .non, _, _ => (decide_eq_false (by intro z; cases z)).symm
  | .str _, .int _, _, _ => (decide_eq_false (by intro z; cases z)).symm
  | .str _, .tup _, _, _ => (decide_eq_false (by intro z; cases z)).symm
  | .tup _, .non, _, _ => (decide_eq_false (by intro z; cases z)).symm
  | .tup _, .int _, _, _ => (decide_eq_false (by intro z; cases z)).symm
  | .tup _, .str _, _, _ => (decide_eq_false (by intro z; cases z)).symm
theorem eqvs_plain : ∀ x y : List DV, plains x = true → plains y = true → PyData.eqvAll (dats x) (dats y) = decide (x = y)
  | [], [], _, _ => (decide_eq_true rfl).symm
  | [], _ :: _, _, _ => (decide_eq_false (by intro z; cases z)).symm
  | _ :: _, [], _, _ => (decide_eq_false (by intro z; cases z)).symm
  | a :: r, b :: s, h, g => by
    have h' : (plain a && plains r) = true := h
    have g' : (plain b && plains s) = true := g
    rw [Bool.and_eq_true] at h' g'
    show (PyData.eqv (dat a) (dat b) && PyData.eqvAll (dats r) (dats s)) = _
    rw [eqv_plain a b h'.1 g'.1, eqvs_plain r s h'.2 g'.2]
    by_cases e : a = b
    · by_cases e' : r = s
      · rw [decide_eq_true e, decide_eq_true e', decide_eq_true (by rw [e, e'])]; rfl
      · rw [decide_eq_false e', Bool.and_false, decide_eq_false (fun z => e' (List.cons.inj z).2)]
    · rw [decide_eq_false e, Bool.false_and, decide_eq_false (fun z => e (List.cons.inj z).1)]
end
mutual
theorem RV.dp {K : Frag} {H : Hp} : ∀ {v : V} {d : DV}, RV K H v d → pure_ d = true → Dp K H v (dat d)
  | _, _, .non, _ => .non
  | _, _, .bl b, _ => .bl b
  | _, _, .int i, _ => .int i
  | _, _, .str z, _ => .str z
  | _, _, .ty n, h => by cases h
  | _, _, .ref a, h => by cases h
  | _, _, .tup s t, h => .tup s (RVs.dp t h)
theorem RVs.dp {K : Frag} {H : Hp} : ∀ {v : List V} {d : List DV}, RVs K H v d → pures d = true → DpAll K H v (dats d)
  | _, _, .nil, _ => .nil
  | _, _, .cons (d := d) (ds := ds) h t, g => by
    have g' : (pure_ d && pures ds) = true := g
    rw [Bool.and_eq_true] at g'
    exact .cons (RV.dp h g'.1) (RVs.dp t g'.2)
end
mutual
/-- how deep -/
def dpt : DV → Nat
  | .tup ds => 1 + dpts ds
  | _ => 0
def dpts : List DV → Nat
  | [] => 0
  | d :: r => max (dpt d) (dpts r)
end
mutual
/-- its texts are texts -/
def txB : DV → Bool
  | .str z => PyData.strOk z
  | .tup ds => txBs ds
  | _ => true
def txBs : List DV → Bool
  | [] => true
  | d :: r => txB d && txBs r
end
mutual
theorem lay_dat : ∀ d : DV, txB d = true → PyData.canLay0 (dat d) = true ∧ PyData.depth (dat d) ≤ dpt d
  | .non, _ => ⟨by simp only [dat, PyData.canLay0], by simp only [dat, PyData.depth]; exact Nat.zero_le _⟩
  | .bl _, _ => ⟨by simp only [dat, PyData.canLay0], by simp only [dat, PyData.depth]; exact Nat.zero_le _⟩
  | .int _, _ => ⟨by simp only [dat, PyData.canLay0], by simp only [dat, PyData.depth]; exact Nat.zero_le _⟩
  | .ref _, _ => ⟨by simp only [dat, PyData.canLay0], by simp only [dat, PyData.depth]; exact Nat.zero_le _⟩
  | .ty _, _ => ⟨by simp only [dat, PyData.canLay0], by simp only [dat, PyData.depth]; exact Nat.zero_le _⟩
  | .str z, h => ⟨by simp only [dat, PyData.canLay0]; exact h, by simp only [dat, PyData.depth]; exact Nat.zero_le _⟩
  | .tup ds, h => by
    obtain ⟨a, b⟩ := lays_dat ds h
    refine ⟨by simp only [dat, PyData.canLay0]; exact a, ?_⟩
    simp only [dat, PyData.depth, dpt]
    omega
theorem lays_dat : ∀ ds : List DV, txBs ds = true → PyData.canLayAll0 (dats ds) = true ∧ PyData.depthAll (dats ds) ≤ dpts ds
  | [], _ => ⟨by simp only [dats, PyData.canLayAll0], by simp only [dats, PyData.depthAll]; exact Nat.zero_le _⟩
  | d :: r, h => by
    have h' : (txB d && txBs r) = true := h
    rw [Bool.and_eq_true] at h'
    obtain ⟨a, b⟩ := lay_dat d h'.1
    obtain ⟨a', b'⟩ := lays_dat r h'.2
    refine ⟨by simp only [dats, PyData.canLayAll0, a, a']; rfl, ?_⟩
    simp only [dats, PyData.depthAll, dpts]
    omega
end
theorem shp {d : DV} (h : txB d = true) (l : dpt d ≤ 60) : SeqAt.shaped (dat d) = true := by
  obtain ⟨a, b⟩ := lay_dat d h
  unfold SeqAt.shaped
  rw [a, decide_eq_true (show (dat d).depth ≤ 64 by omega)]; rfl
theorem shpL {ds : List DV} (h : txBs ds = true) (l : dpts ds ≤ 60) : SeqAt.shaped (.list (dats ds)) = true := by
  obtain ⟨a, b⟩ := lays_dat ds h
  have e : (PyData.list (dats ds)).depth ≤ 64 := by simp only [PyData.depth]; omega
  unfold SeqAt.shaped
  rw [decide_eq_true e, Bool.and_true]
  simp only [PyData.canLay0]; exact a
/-- what can be compared -/
structure Cmp (d : DV) : Prop where
  pu : pure_ d = true
  tx : txB d = true
  dp : dpt d ≤ 60
structure Cmps (ds : List DV) : Prop where
  pu : pures ds = true
  tx : txBs ds = true
  dp : dpts ds ≤ 60
theorem shpT {ds : List DV} (c : Cmps ds) : SeqAt.shaped (.tuple (dats ds)) = true := by
  obtain ⟨a, b⟩ := lays_dat ds c.tx
  have l := c.dp
  have e : (PyData.tuple (dats ds)).depth ≤ 64 := by simp only [PyData.depth]; omega
  unfold SeqAt.shaped
  rw [decide_eq_true e, Bool.and_true]
  simp only [PyData.canLay0]; exact a
section
variable {X : Cx}
theorem wd_list {K : Frag} {H : Hp} {G : DG} {p : Addr} {ds : List DV} (w : Wd K H G) (e : G p = some (.lst ds)) : ∃ xs, H p = some (.lst xs) ∧ RVs K H xs ds := by
  obtain ⟨O, w⟩ := w
  exact w.ob p _ e
/-- a list that can be read -/
def Ls (G : DG) (p : Addr) (ds : List DV) : Prop := G p = some (.lst ds) ∨ G p = some (.ro ds)
theorem wd_seq {K : Frag} {H : Hp} {G : DG} {p : Addr} {ds : List DV} (w : Wd K H G) (e : Ls G p ds) : ∃ xs, SqL K H p xs ∧ RVs K H xs ds := by
  obtain ⟨O, w⟩ := w
  rcases e with e | e
  · obtain ⟨xs, h, r⟩ := w.ob p _ e
    exact ⟨xs, SqL.of h, r⟩
  · obtain ⟨xs, h, r⟩ := w.ob p _ e
    exact ⟨xs, .inl h, r⟩
/-- not, where n -/
def ng : Bool → Bool → Bool
  | true, b => !b
  | false, b => b
/-- == and != (n: !=) -/
def bEq (n : Bool) : D2
  | .str a, .str b, G, Q => Q (.bl (ng n (decide (a = b)))) G
  | .int a, .int b, G, Q => Q (.bl (ng n (decide (a = b)))) G
  | .bl a, .bl b, G, Q => Q (.bl (ng n (decide (a = b)))) G
  | .str a, .non, G, Q => Q (.bl n) G
  | .int a, .non, G, Q => Q (.bl n) G
  | .str a, .int b, G, Q => Q (.bl n) G
  | .int a, .str b, G, Q => Q (.bl n) G
  | .bl a, .str b, G, Q => Q (.bl n) G
  | .non, .str b, G, Q => Q (.bl n) G
  | .ref p, .ref q, G, Q => ∃ xs ys, Ls G p xs ∧ Ls G q ys ∧ ((n = false ∧ ys = [] ∧ Q (.bl xs.isEmpty) G) ∨ (Cmps xs ∧ Cmps ys ∧ Q (.bl (ng n (PyData.eqvAll (dats xs) (dats ys)))) G))
  | .tup a, .tup b, G, Q => (n = false ∧ b = [] ∧ Q (.bl a.isEmpty) G) ∨ (Cmps a ∧ Cmps b ∧ Q (.bl (ng n (PyData.eqvAll (dats a) (dats b)))) G)
  | x, y, G, Q => Cmp x ∧ Cmp y ∧ Q (.bl (ng n (PyData.eqv (dat x) (dat y)))) G
theorem dV_str (a b : Str) : decide (V.str a = V.str b) = decide (a = b) := by
  by_cases e : a = b
  · rw [decide_eq_true e, decide_eq_true (by rw [e])]
  · rw [decide_eq_false e, decide_eq_false (fun z => e (V.str.inj z))]
theorem dV_int (a b : Int) : decide (V.int a = V.int b) = decide (a = b) := by
  by_cases e : a = b
  · rw [decide_eq_true e, decide_eq_true (by rw [e])]
  · rw [decide_eq_false e, decide_eq_false (fun z => e (V.int.inj z))]
theorem dV_bl (a b : Bool) : decide (V.bl a = V.bl b) = decide (a = b) := by
  by_cases e : a = b
  · rw [decide_eq_true e, decide_eq_true (by rw [e])]
  · rw [decide_eq_false e, decide_eq_false (fun z => e (V.bl.inj z))]
theorem flat_up {K : Frag} {H : Hp} {G : DG} {R : DK} {Q : VK} {b : Bool} (w : Wd K H G) (f : Fin K H R Q) (h : R (.bl b) G) : Q (.bl b) H := f _ G _ H h (TKs.refl H) w (.bl b)
theorem od_eq (hu : X.A.units + 64 < cLine) : OpD X (compareOp .Eq) (bEq false) := by
  refine ⟨_, op_eq.or ((op_eqNil hu).or ((op_eqNilT hu).or (op_eqD hu))), fun x y vx vy H G R Q rx ry w h f => ?_⟩
  have gen : (Cmp x ∧ Cmp y ∧ R (.bl (ng false (PyData.eqv (dat x) (dat y)))) G) → (rEq vx vy H Q ∨ rEqNil X.K vx vy H Q ∨ rEqNilT X.K vx vy H Q ∨ rEqD X.K vx vy H Q) := fun ⟨c1, c2, q⟩ =>
    .inr (.inr (.inr ⟨_, _, rx.dp c1.pu, ry.dp c2.pu, shp c1.tx c1.dp, shp c2.tx c2.dp, flat_up w f q⟩))
  have no : decide (vx = vy) = false → scal vx vy = true → R (.bl false) G → (rEq vx vy H Q ∨ rEqNil X.K vx vy H Q ∨ rEqNilT X.K vx vy H Q ∨ rEqD X.K vx vy H Q) := fun e s q => .inl ⟨s, by rw [e]; exact flat_up w f q⟩
  cases rx with
  | str a =>
    cases ry with
    | str b => exact .inl ⟨rfl, by rw [dV_str]; exact flat_up w f h⟩
    | non => exact no (decide_eq_false (by intro z; cases z)) rfl h
    | int b => exact no (decide_eq_false (by intro z; cases z)) rfl h
    | _ => exact gen h
  | int a =>
    cases ry with
    | int b => exact .inl ⟨rfl, by rw [dV_int]; exact flat_up w f h⟩
    | non => exact no (decide_eq_false (by intro z; cases z)) rfl h
    | str b => exact no (decide_eq_false (by intro z; cases z)) rfl h
    | _ => exact gen h
  | bl a =>
    cases ry with
    | bl b => exact .inl ⟨rfl, by rw [dV_bl]; exact flat_up w f h⟩
    | str b => exact no (decide_eq_false (by intro z; cases z)) rfl h
    | _ => exact gen h
  | non =>
    cases ry with
    | str b => exact no (decide_eq_false (by intro z; cases z)) rfl h
    | _ => exact gen h
  | ty n => cases ry <;> exact gen h
  | tup s r =>
    cases ry with
    | tup s' r' =>
      rcases h with ⟨_, e, q⟩ | ⟨c1, c2, q⟩
      · subst e
        cases r'
        exact .inr (.inr (.inl ⟨_, _, _, rfl, rfl, s, s', by rw [r.isEmpty]; exact flat_up w f q⟩))
      · exact .inr (.inr (.inr ⟨_, _, .tup s (r.dp c1.pu), .tup s' (r'.dp c2.pu), shpT c1, shpT c2, flat_up w f q⟩))
    | _ => exact gen h
  | ref p =>
    cases ry with
    | ref q =>
      obtain ⟨xs, ys, l1, l2, ⟨_, e, q⟩ | ⟨c1, c2, q⟩⟩ := h
      · obtain ⟨us, h1, r1⟩ := wd_seq w l1
        obtain ⟨vs, h2, r2⟩ := wd_seq w l2
        subst e
        cases r2
        exact .inr (.inl ⟨_, _, _, rfl, rfl, h1, h2, by rw [r1.isEmpty]; exact flat_up w f q⟩)
      · obtain ⟨us, h1, r1⟩ := wd_seq w l1
        obtain ⟨vs, h2, r2⟩ := wd_seq w l2
        exact .inr (.inr (.inr ⟨_, _, .lst h1 (r1.dp c1.pu), .lst h2 (r2.dp c2.pu), shpL c1.tx c1.dp, shpL c2.tx c2.dp, flat_up w f q⟩))
    | _ => exact gen h
theorem od_ne (hu : X.A.units + 64 < cLine) : OpD X (compareOp .NotEq) (bEq true) := by
  refine ⟨_, op_ne.or (op_neD hu), fun x y vx vy H G R Q rx ry w h f => ?_⟩
  have gen : (Cmp x ∧ Cmp y ∧ R (.bl (ng true (PyData.eqv (dat x) (dat y)))) G) → (rNe vx vy H Q ∨ rNeD X.K vx vy H Q) := fun ⟨c1, c2, q⟩ =>
    .inr ⟨_, _, rx.dp c1.pu, ry.dp c2.pu, shp c1.tx c1.dp, shp c2.tx c2.dp, flat_up w f q⟩
  have no : decide (vx = vy) = false → scal vx vy = true → R (.bl true) G → (rNe vx vy H Q ∨ rNeD X.K vx vy H Q) := fun e s q => .inl ⟨s, by rw [e]; exact flat_up w f q⟩
  cases rx with
  | str a =>
    cases ry with
    | str b => exact .inl ⟨rfl, by rw [dV_str]; exact flat_up w f h⟩
    | non => exact no (decide_eq_false (by intro z; cases z)) rfl h
    | int b => exact no (decide_eq_false (by intro z; cases z)) rfl h
    | _ => exact gen h
  | int a =>
    cases ry with
    | int b => exact .inl ⟨rfl, by rw [dV_int]; exact flat_up w f h⟩
    | non => exact no (decide_eq_false (by intro z; cases z)) rfl h
    | str b => exact no (decide_eq_false (by intro z; cases z)) rfl h
    | _ => exact gen h
  | bl a =>
    cases ry with
    | bl b => exact .inl ⟨rfl, by rw [dV_bl]; exact flat_up w f h⟩
    | str b => exact no (decide_eq_false (by intro z; cases z)) rfl h
    | _ => exact gen h
  | non =>
    cases ry with
    | str b => exact no (decide_eq_false (by intro z; cases z)) rfl h
    | _ => exact gen h
  | ty n => cases ry <;> exact gen h
  | tup s r =>
    cases ry with
    | tup s' r' =>
      rcases h with ⟨e, _⟩ | ⟨c1, c2, q⟩
      · cases e
      · exact .inr ⟨_, _, .tup s (r.dp c1.pu), .tup s' (r'.dp c2.pu), shpT c1, shpT c2, flat_up w f q⟩
    | _ => exact gen h
  | ref p =>
    cases ry with
    | ref q =>
      obtain ⟨xs, ys, l1, l2, ⟨e, _⟩ | ⟨c1, c2, q⟩⟩ := h
      · cases e
      · obtain ⟨us, h1, r1⟩ := wd_seq w l1
        obtain ⟨vs, h2, r2⟩ := wd_seq w l2
        exact .inr ⟨_, _, .lst h1 (r1.dp c1.pu), .lst h2 (r2.dp c2.pu), shpL c1.tx c1.dp, shpL c2.tx c2.dp, flat_up w f q⟩
    | _ => exact gen h
/-! ### in -/
def toV : DV → V
  | .non => .non
  | .bl b => .bl b
  | .int i => .int i
  | .str z => .str z
  | _ => .ref 0
def flatD : DV → Bool
  | .non => true
  | .bl _ => true
  | .int _ => true
  | .str _ => true
  | _ => false
def inD (x : DV) (ds : List DV) : Bool := inV (toV x) (ds.map toV)
theorem toV_eq {K : Frag} {H : Hp} {v : V} {d : DV} (r : RV K H v d) (h : flatD d = true) : v = toV d ∧ flatV v = true := by
  cases r <;> first | exact ⟨rfl, rfl⟩ | cases h
theorem toVs_eq {K : Frag} {H : Hp} : ∀ {v : List V} {d : List DV}, RVs K H v d → d.all flatD = true → v = d.map toV ∧ v.all flatV = true
  | _, _, .nil, _ => ⟨rfl, rfl⟩
  | _, _, .cons r t, h => by
    rw [List.all_cons, Bool.and_eq_true] at h
    obtain ⟨a, b⟩ := toV_eq r h.1
    obtain ⟨c, e⟩ := toVs_eq t h.2
    refine ⟨by rw [a, c]; rfl, by rw [List.all_cons, b, e]; rfl⟩
def bIn (n : Bool) : D2
  | .str a, .str b, G, Q => ∃ c, a = ⟨#[c]⟩ ∧ Q (.bl (ng n (decide (c ∈ b.cps.toList)))) G
  | x, .tup ds, G, Q => flatD x = true ∧ ds.all flatD = true ∧ Q (.bl (ng n (inD x ds))) G
  | x, .ref p, G, Q => ∃ ds, Ls G p ds ∧ flatD x = true ∧ ds.all flatD = true ∧ Q (.bl (ng n (inD x ds))) G
  | _, _, _, _ => False
theorem od_in : OpD X (compareOp .In) (bIn false) := by
  refine ⟨_, op_in_sign.or op_in_seq, fun x y vx vy H G R Q rx ry w h f => ?_⟩
  cases ry with
  | str b =>
    cases rx with
    | str a => obtain ⟨c, rfl, q⟩ := h; exact .inl ⟨c, b, rfl, rfl, flat_up w f q⟩
    | _ => exact h.elim
  | tup s r =>
    rename_i qa qx qd
    have h' : flatD x = true ∧ qd.all flatD = true ∧ R (.bl (ng false (inD x qd))) G := by cases rx <;> exact h
    obtain ⟨h1, h2, q⟩ := h'
    obtain ⟨e1, e2⟩ := toV_eq rx h1
    obtain ⟨e3, e4⟩ := toVs_eq r h2
    exact .inr ⟨_, _, rfl, .inr s, e2, e4, by show Q (.bl (inV vx _)) H; rw [e1, e3]; exact flat_up w f q⟩
  | ref p =>
    have h' : ∃ ds, Ls G p ds ∧ flatD x = true ∧ ds.all flatD = true ∧ R (.bl (ng false (inD x ds))) G := by cases rx <;> exact h
    obtain ⟨ds, l, h1, h2, q⟩ := h'
    obtain ⟨us, hs, r⟩ := wd_seq w l
    obtain ⟨e1, e2⟩ := toV_eq rx h1
    obtain ⟨e3, e4⟩ := toVs_eq r h2
    exact .inr ⟨_, _, rfl, .inl hs, e2, e4, by show Q (.bl (inV vx _)) H; rw [e1, e3]; exact flat_up w f q⟩
  | _ => cases rx <;> exact h.elim
theorem od_notin : OpD X (compareOp .NotIn) (bIn true) := by
  refine ⟨_, op_notIn_sign.or op_notIn_seq, fun x y vx vy H G R Q rx ry w h f => ?_⟩
  cases ry with
  | str b =>
    cases rx with
    | str a => obtain ⟨c, rfl, q⟩ := h; exact .inl ⟨c, b, rfl, rfl, flat_up w f q⟩
    | _ => exact h.elim
  | tup s r =>
    rename_i qa qx qd
    have h' : flatD x = true ∧ qd.all flatD = true ∧ R (.bl (ng true (inD x qd))) G := by cases rx <;> exact h
    obtain ⟨h1, h2, q⟩ := h'
    obtain ⟨e1, e2⟩ := toV_eq rx h1
    obtain ⟨e3, e4⟩ := toVs_eq r h2
    exact .inr ⟨_, _, rfl, .inr s, e2, e4, by show Q (.bl (!inV vx _)) H; rw [e1, e3]; exact flat_up w f q⟩
  | ref p =>
    have h' : ∃ ds, Ls G p ds ∧ flatD x = true ∧ ds.all flatD = true ∧ R (.bl (ng true (inD x ds))) G := by cases rx <;> exact h
    obtain ⟨ds, l, h1, h2, q⟩ := h'
    obtain ⟨us, hs, r⟩ := wd_seq w l
    obtain ⟨e1, e2⟩ := toV_eq rx h1
    obtain ⟨e3, e4⟩ := toVs_eq r h2
    exact .inr ⟨_, _, rfl, .inl hs, e2, e4, by show Q (.bl (!inV vx _)) H; rw [e1, e3]; exact flat_up w f q⟩
  | _ => cases rx <;> exact h.elim
end
end DD
namespace DD
open PySem PySem.W L2 SX Cm
section
variable {X : Cx}
/-! ### x[i] -/
def bIx : D2
  | .tup ds, .int i, G, Q => ∃ d, atI ds i = some d ∧ Q d G
  | .str z, .int i, G, Q => z.length ≤ sizeLine ∧ ∃ c, atI z.cps.toList i = some c ∧ Q (.str ⟨#[c]⟩) G
  | .ref p, .int i, G, Q => (∃ ds d, Ls G p ds ∧ atI ds i = some d ∧ Q d G) ∨ (G p = some .cnt ∧ i = 0 ∧ ∀ n, Q (.int n) G)
  | _, _, _, _ => False
theorem de_ix {e1 e2 : Expr} {ta tb : TD} {pos : Pos} (ha : DE X e1 ta) (hb : DE X e2 tb) (hs : PlainIx e2 := by exact fun _ _ => rfl) : DE X (.Subscript e1 e2 pos) (dOp bIx ta tb) := by
  refine PE_mono (pe_ix (ix_seq (X := X)) ha hb hs) fun σ H Q h => bin_up (r := rIx X.K) (fun x y vx vy H G R Q rx ry w h f => ?_) h
  cases ry with
  | int i =>
    cases rx with
    | tup s r =>
      obtain ⟨d, e, q⟩ := h
      obtain ⟨v, e', rv⟩ := r.atI e
      exact .inr (.inl ⟨_, _, i, v, rfl, rfl, s, e', f _ G _ H q (TKs.refl H) w rv⟩)
    | str z =>
      obtain ⟨hl, c, e, q⟩ := h
      exact .inr (.inr ⟨z, i, c, rfl, rfl, hl, e, f _ G _ H q (TKs.refl H) w (.str _)⟩)
    | ref p =>
      rcases h with ⟨ds, d, l, e, q⟩ | ⟨l, rfl, q⟩
      · obtain ⟨us, hs, r⟩ := wd_seq w l
        obtain ⟨v, e', rv⟩ := r.atI e
        exact .inl ⟨p, us, i, v, rfl, rfl, hs, e', f _ G _ H q (TKs.refl H) w rv⟩
      · obtain ⟨O, w'⟩ := id w
        obtain ⟨n, hn⟩ := w'.ob p _ l
        exact .inl ⟨p, _, 0, .int n, rfl, rfl, SqL.of hn, atI_nat (j := 0) rfl, f _ G _ H (q n) (TKs.refl H) w (.int n)⟩
    | _ => exact h.elim
  | _ => cases rx <;> exact h.elim
/-! ### slices -/
abbrev TDO := DSt → DG → (Option Int → DG → Prop) → Prop
def upO (K : Frag) (t : TDO) : TO := fun σ H Q => ∃ δ G R, Sl K H σ δ ∧ Wd K H G ∧ t δ G R ∧ ∀ o G' H', R o G' → TKs K H H' → Wd K H' G' → Q o H'
abbrev DO_ (X : Cx) (e : Option Expr) (t : TDO) : Prop := PO X e (upO X.K t)
theorem PO_mono {e : Option Expr} {t t' : TO} (h : PO X e t) (i : ∀ σ H Q, t' σ H Q → t σ H Q) : PO X e t' := ⟨fun pins s σ H Q I q => h.run pins s σ H Q I (i σ H Q q)⟩
def dNone : TDO := fun _ G Q => Q none G
def dSome (t : TD) : TDO := fun δ G Q => t δ G fun d G' => ∃ i, d = .int i ∧ Q (some i) G'
theorem do_none : DO_ X none dNone := PO_mono po_none fun σ H Q ⟨δ, G, R, sl, w, q, f⟩ => f _ G H q (TKs.refl H) w
theorem do_some {e : Expr} {t : TD} (h : DE X e t) : DO_ X (some e) (dSome t) := PO_mono (po_some h) fun σ H Q ⟨δ, G, R, sl, w, q, f⟩ =>
  ⟨δ, G, _, sl, w, q, fun d G' v H' ⟨i, e, q⟩ t' w' rv => by subst e; cases rv; exact ⟨i, rfl, f _ G' H' q t' w'⟩⟩
def bSl : DV → Option Int → Option Int → DG → DK → Prop
  | .tup ds, lo, hi, G, Q => Q (.tup (cutD ds lo hi)) G
  | .str z, lo, hi, G, Q => z.length ≤ sizeLine ∧ Q (.str (cutS z lo hi)) G
  | .ref p, lo, hi, G, Q => ∃ ds, Ls G p ds ∧ ∀ r, G r = none → Q (.ref r) (dupd G r (.lst (cutD ds lo hi)))
  | _, _, _, _, _ => False
def dSl (te : TD) (tl th : TDO) : TD := fun δ G Q => te δ G fun x G1 => tl δ G1 fun l G2 => th δ G2 fun u G3 => bSl x l u G3 Q
theorem de_slice {e : Expr} {lo hi : Option Expr} {te : TD} {tl th : TDO} {p2 pos : Pos} (he : DE X e te) (hl : DO_ X lo tl) (hu : DO_ X hi th) : DE X (.Subscript e (.Slice lo hi none p2) pos) (dSl te tl th) := by
  refine PE_mono (pe_slice (sl_tupA.or (sl_str.or sl_list)) he hl hu) fun σ H Q ⟨δ, G, R, sl, w, q, f⟩ => ?_
  refine ⟨δ, G, _, sl, w, q, fun x G1 vx H1 q1 t1 w1 r1 => ⟨δ, G1, _, sl.mono t1, w1, q1, fun l G2 H2 q2 t2 w2 => ⟨δ, G2, _, sl.mono (t1.trans t2), w2, q2, fun u G3 H3 h t3 w => ?_⟩⟩⟩
  have f := f.step ((t1.trans t2).trans t3)
  have rx := r1.mono (t2.trans t3)
  cases rx with
  | tup s r =>
    rename_i a xs ds
    refine .inl ⟨_, _, rfl, s, fun e => ?_, fun _ p np => ?_⟩
    · rw [r.len] at e
      have h : R (.tup (cutD ds l u)) G3 := h
      rw [cutD_all e] at h
      exact f _ _ _ _ h (TKs.refl _) w (.tup s r)
    · have s' := same_new np (.tup (cutV xs l u))
      exact f _ _ _ _ h (TKs.of s') (w.same s') (.tup (SqT.of upd_same) ((r.cut l u).mono (.of s')))
  | str z => exact .inr (.inl ⟨z, rfl, h.1, f _ _ _ _ h.2 (TKs.refl _) w (.str _)⟩)
  | ref p =>
    obtain ⟨ds, ls, q⟩ := h
    obtain ⟨us, hs, r⟩ := wd_seq w ls
    refine .inr (.inr ⟨p, us, rfl, hs, fun r' nr => ?_⟩)
    have s' := same_new nr (.lst (cutV us l u))
    exact f _ _ _ _ (q r' (w.free nr)) (TKs.of s') (w.new nr fun O => ⟨_, upd_same, (r.cut l u).mono (.of s')⟩) (.ref r')
  | _ => exact h.elim
/-- t[::-1] -/
def dRev (te : TD) : TD := fun δ G Q => te δ G fun x G1 => ∃ ds, x = .tup ds ∧ Q (.tup ds.reverse) G1
theorem de_revT {e : Expr} {te : TD} {k : Nat} {p1 p2 p3 pos : Pos} (he : DE X e te) : DE X (.Subscript e (.Slice none none (some (.UnaryOp .USub (.Constant (.int 1) k p1) p2)) p3) pos) (dRev te) := by
  refine PE_mono (pe_revT he) fun σ H Q ⟨δ, G, R, sl, w, q, f⟩ => ⟨δ, G, _, sl, w, q, fun x G1 vx H1 q1 t1 w1 r1 => ?_⟩
  obtain ⟨ds, rfl, q⟩ := q1
  obtain ⟨a, xs, rfl, s, r⟩ := r1.tupD
  refine ⟨a, xs, rfl, s, fun p np => ?_⟩
  have s' := same_new np (.tup xs.reverse)
  exact f _ _ _ _ q (t1.trans (TKs.of s')) (w1.same s') (.tup (SqT.of upd_same) (r.reverse.mono (.of s')))
/-! ### tests -/
def bTru : DV → DG → (Bool → DG → Prop) → Prop
  | .non, G, Q => Q false G
  | .bl b, G, Q => Q b G
  | .int i, G, Q => Q (i != 0) G
  | .str z, G, Q => z.length ≤ sizeLine ∧ Q ((z.length : Int) != 0) G
  | .tup ds, G, Q => Q (!ds.isEmpty) G
  | .ref p, G, Q => (∃ ds, Ls G p ds ∧ Q (!ds.isEmpty) G) ∨ (∃ kvs, G p = some (.dct kvs) ∧ Q (!kvs.isEmpty) G)
  | .ty _, _, _ => False
def dTru (t : TD) : TDT := fun δ G Q => t δ G fun d G' => bTru d G' Q
theorem KRV.isEmpty {K : Frag} {H : Hp} {v : List (Key × V)} {d : List (Key × DV)} (h : KRV K H v d) : v.isEmpty = d.isEmpty := by cases h <;> rfl
theorem dt_e {e : Expr} {t : TD} (he : DE X e t) (hp : ∀ whole, isTrue e X.env whole = (do let v ← whole; standAt e.pos; holding [v] (truthy v)) := by intro _; rfl) : DT X e (dTru t) := by
  refine PT_mono (pt_truth he hp) fun σ H Q ⟨δ, G, R, sl, w, q, f⟩ => ⟨δ, G, _, sl, w, q, fun d G' v H' h t' w' rv => ?_⟩
  cases rv with
  | non => exact ⟨_, rfl, f _ _ _ h t' w'⟩
  | bl b => exact ⟨_, rfl, f _ _ _ h t' w'⟩
  | int i => exact ⟨_, rfl, f _ _ _ h t' w'⟩
  | str z => exact ⟨_, ⟨h.1, rfl⟩, f _ _ _ h.2 t' w'⟩
  | ty n => exact h.elim
  | tup s r => exact ⟨_, .inr (.inl ⟨_, s, by rw [r.isEmpty]⟩), f _ _ _ h t' w'⟩
  | ref p =>
    rcases h with ⟨ds, l, q⟩ | ⟨kvs, l, q⟩
    · obtain ⟨us, hs, r⟩ := wd_seq w' l
      exact ⟨_, .inl ⟨_, hs, by rw [r.isEmpty]⟩, f _ _ _ q t' w'⟩
    · obtain ⟨O, wo⟩ := id w'
      obtain ⟨ks, hk, r⟩ := wo.ob p _ l
      exact ⟨_, .inr (.inr ⟨_, hk, by rw [r.isEmpty]⟩), f _ _ _ q t' w'⟩
def dAnd (t u : TDT) : TDT := fun δ G Q => t δ G fun c G1 => if c = true then u δ G1 Q else Q false G1
def dOr (t u : TDT) : TDT := fun δ G Q => t δ G fun c G1 => if c = true then Q true G1 else u δ G1 Q
def dNot (t : TDT) : TDT := fun δ G Q => t δ G fun c G1 => Q (!c) G1
variable {a b c : Expr} {rest : List Expr} {ta tb : TDT} {pos : Pos}
theorem dw_and1 (ha : DT X a ta) : DW X (.BoolOp .And [a] pos) ta := pw_and1 ha
theorem dw_or1 (ha : DT X a ta) : DW X (.BoolOp .Or [a] pos) ta := pw_or1 ha
theorem dw_and (ha : DT X a ta) (hb : DW X (.BoolOp .And (b :: rest) pos) tb) : DW X (.BoolOp .And (a :: b :: rest) pos) (dAnd ta tb) :=
  PW_mono (pw_and ha hb) fun σ H Q ⟨δ, G, R, sl, w, q, f⟩ => ⟨δ, G, _, sl, w, q, fun k G' H' h t' w' => by
    cases k with
    | true => exact iteT ⟨δ, G', R, sl.mono t', w', h, fun k2 G2 H2 q2 t2 w2 => f k2 G2 H2 q2 (t'.trans t2) w2⟩
    | false => exact iteF (f _ _ _ h t' w')⟩
theorem dw_or (ha : DT X a ta) (hb : DW X (.BoolOp .Or (b :: rest) pos) tb) : DW X (.BoolOp .Or (a :: b :: rest) pos) (dOr ta tb) :=
  PW_mono (pw_or ha hb) fun σ H Q ⟨δ, G, R, sl, w, q, f⟩ => ⟨δ, G, _, sl, w, q, fun k G' H' h t' w' => by
    cases k with
    | false => exact iteF ⟨δ, G', R, sl.mono t', w', h, fun k2 G2 H2 q2 t2 w2 => f k2 G2 H2 q2 (t'.trans t2) w2⟩
    | true => exact iteT (f _ _ _ h t' w')⟩
theorem dt_w (h : DW X a ta) : DT X a ta := PW.pt h
theorem dt_not (ha : DT X a ta) : DT X (.UnaryOp .Not a pos) (dNot ta) :=
  PT_mono (pt_not ha) fun σ H Q ⟨δ, G, R, sl, w, q, f⟩ => ⟨δ, G, _, sl, w, q, fun k G' H' h t' w' => f _ _ _ h t' w'⟩
/-! and, or, not as values: truths -/
variable {ua ub : TD}
def dAndV (t u : TD) : TD := fun δ G Q => t δ G fun x G1 => ∃ c, x = .bl c ∧ if c = true then u δ G1 Q else Q (.bl false) G1
def dOrV (t u : TD) : TD := fun δ G Q => t δ G fun x G1 => ∃ c, x = .bl c ∧ if c = true then Q (.bl true) G1 else u δ G1 Q
def dNotV (t : TD) : TD := fun δ G Q => t δ G fun x G1 => ∃ c, x = .bl c ∧ Q (.bl (!c)) G1
theorem de_one {op} (h : DE X a ua) : DE X (.BoolOp op [a] pos) ua := pe_one h
theorem de_and (ha : DE X a ua) (hb : DE X (.BoolOp .And (b :: rest) pos) ub) : DE X (.BoolOp .And (a :: b :: rest) pos) (dAndV ua ub) :=
  PE_mono (pe_and ha hb) fun σ H Q ⟨δ, G, R, sl, w, q, f⟩ => ⟨δ, G, _, sl, w, q, fun d G' v H' ⟨c, e, h⟩ t' w' rv => by
    subst e
    cases rv
    refine ⟨c, rfl, ?_⟩
    cases c with
    | true => exact iteT ⟨δ, G', R, sl.mono t', w', h, f.step t'⟩
    | false => exact iteF (f _ _ _ _ h t' w' (.bl _))⟩
theorem de_or (ha : DE X a ua) (hb : DE X (.BoolOp .Or (b :: rest) pos) ub) : DE X (.BoolOp .Or (a :: b :: rest) pos) (dOrV ua ub) :=
  PE_mono (pe_or ha hb) fun σ H Q ⟨δ, G, R, sl, w, q, f⟩ => ⟨δ, G, _, sl, w, q, fun d G' v H' ⟨c, e, h⟩ t' w' rv => by
    subst e
    cases rv
    refine ⟨c, rfl, ?_⟩
    cases c with
    | false => exact iteF ⟨δ, G', R, sl.mono t', w', h, f.step t'⟩
    | true => exact iteT (f _ _ _ _ h t' w' (.bl _))⟩
def dNeg (t : TD) : TD := fun δ G Q => t δ G fun x G1 => ∃ i, x = .int i ∧ Q (.int (-i)) G1
theorem de_neg (ha : DE X a ua) : DE X (.UnaryOp .USub a pos) (dNeg ua) :=
  PE_mono (pe_un un_neg ha) fun σ H Q ⟨δ, G, R, sl, w, q, f⟩ => ⟨δ, G, _, sl, w, q, fun d G' v H' ⟨c, e, h⟩ t' w' rv => by
    subst e
    cases rv
    exact ⟨c, rfl, f _ _ _ _ h t' w' (.int _)⟩⟩
def dIf (t : TDT) (u v : TD) : TD := fun δ G Q => t δ G fun c G1 => if c = true then u δ G1 Q else v δ G1 Q
theorem de_if (hc : DT X c ta) (ha : DE X a ua) (hb : DE X b ub) : DE X (.IfExp c a b pos) (dIf ta ua ub) :=
  PE_mono (pe_ifExp hc ha hb) fun σ H Q ⟨δ, G, R, sl, w, q, f⟩ => ⟨δ, G, _, sl, w, q, fun k G' H' h t' w' => by
    cases k with
    | true => exact iteT ⟨δ, G', R, sl.mono t', w', h, f.step t'⟩
    | false => exact iteF ⟨δ, G', R, sl.mono t', w', h, f.step t'⟩⟩
/-! ### arguments, displays -/
def dNil : TDA := fun _ G Q => Q [] G
def dCons (t : TD) (u : TDA) : TDA := fun δ G Q => t δ G fun x G1 => u δ G1 fun xs G2 => Q (x :: xs) G2
variable {e : Expr} {es : List Expr} {te : TD} {ts : TDA}
theorem da_nil : DA X [] dNil := PA_mono pa_nil fun σ H Q ⟨δ, G, R, sl, w, q, f⟩ => f _ _ _ _ q (TKs.refl _) w .nil
theorem da_cons (ha : DE X e te) (hr : DA X es ts) (hs : starEach (e :: es) X.env = (false, eval e X.env) :: starEach es X.env := by rfl) : DA X (e :: es) (dCons te ts) :=
  PA_mono (pa_cons ha hr hs) fun σ H Q ⟨δ, G, R, sl, w, q, f⟩ => ⟨δ, G, _, sl, w, q, fun d G1 v H1 h1 t1 w1 r1 => ⟨δ, G1, _, sl.mono t1, w1, h1, fun ds G2 vs H2 h2 t2 w2 r2 => f _ _ _ _ h2 (t1.trans t2) w2 (.cons (r1.mono t2) r2)⟩⟩
def dTup (t : TDA) : TD := fun δ G Q => t δ G fun ds G1 => ds.length ≤ sizeLine ∧ Q (.tup ds) G1
def dLst (t : TDA) : TD := fun δ G Q => t δ G fun ds G1 => ds.length ≤ sizeLine ∧ ∀ p, G1 p = none → Q (.ref p) (dupd G1 p (.lst ds))
theorem de_tup {x1} (h : DA X es ts) : DE X (.Tuple es x1 pos) (dTup ts) :=
  PE_mono (pe_tup h) fun σ H Q ⟨δ, G, R, sl, w, q, f⟩ => ⟨δ, G, _, sl, w, q, fun ds G1 vs H1 h1 t1 w1 r1 => ⟨by rw [r1.len]; exact h1.1, fun p np => by
    have s' := same_new np (.tup vs)
    exact f _ _ _ _ h1.2 (t1.trans (TKs.of s')) (w1.same s') (.tup (SqT.of upd_same) (r1.mono (.of s')))⟩⟩
theorem de_lst (h : DA X es ts) : DE X (.List es pos) (dLst ts) :=
  PE_mono (pe_lst h) fun σ H Q ⟨δ, G, R, sl, w, q, f⟩ => ⟨δ, G, _, sl, w, q, fun ds G1 vs H1 h1 t1 w1 r1 => ⟨by rw [r1.len]; exact h1.1, fun p np => by
    have s' := same_new np (.lst vs)
    exact f _ _ _ _ (h1.2 p (w1.free np)) (t1.trans (TKs.of s')) (w1.new np fun O => ⟨_, upd_same, r1.mono (.of s')⟩) (.ref p)⟩⟩
/-! ### calls of builtins -/
abbrev DC := List DV → DG → DK → Prop
def CallD (X : Cx) (f : Value) (b : DC) : Prop := ∃ r, CallR X f r ∧ ∀ ds vs H G R Q, RVs X.K H vs ds → Wd X.K H G → b ds G R → Fin X.K H R Q → r vs H Q
def dCB (b : DC) (t : TDA) : TD := fun δ G Q => t δ G fun ds G1 => b ds G1 Q
theorem de_callB {x : Str} {id : String} {b : DC} {p pos : Pos} (hc : CallD X (.builtin id) b) (hm : X.mg x = none) (hg : Gl X x) (hv : bootBuiltins x = some (.builtin id)) (ha : DA X (e :: es) ts) (hn : x ≠ "__name__" := by decide) (hdb : (x == ("__debug__" : Str)) = false := by decide)
    (he : starEach (e :: es) X.env = (false, eval e X.env) :: starEach es X.env := by rfl) (hpl : (backTo pos (starEach es X.env)).any (·.1) = false := by rfl) : DE X (.Call (.Name x p) (e :: es) [] pos) (dCB b ts) := by
  obtain ⟨r, hr, ok⟩ := hc
  exact PE_mono (pe_callB hr hg hm hv ha hn hdb he hpl) fun σ H Q ⟨δ, G, R, sl, w, q, f⟩ => ⟨δ, G, _, sl, w, q, fun ds G1 vs H1 h1 t1 w1 r1 => ok ds vs H1 G1 R Q r1 w1 h1 (f.step t1)⟩
theorem de_callTy {x : Str} {T : String} {b : DC} {p pos : Pos} (hc : CallD X (.type T) b) (hm : X.mg x = none) (hg : Gl X x) (hv : bootBuiltins x = some (.type T)) (ha : DA X (e :: es) ts) (hn : x ≠ "__name__" := by decide) (hdb : (x == ("__debug__" : Str)) = false := by decide)
    (he : starEach (e :: es) X.env = (false, eval e X.env) :: starEach es X.env := by rfl) (hpl : (backTo pos (starEach es X.env)).any (·.1) = false := by rfl) : DE X (.Call (.Name x p) (e :: es) [] pos) (dCB b ts) := by
  obtain ⟨r, hr, ok⟩ := hc
  exact PE_mono (pe_callTy hr hg hm hv ha hn hdb he hpl) fun σ H Q ⟨δ, G, R, sl, w, q, f⟩ => ⟨δ, G, _, sl, w, q, fun ds G1 vs H1 h1 t1 w1 r1 => ok ds vs H1 G1 R Q r1 w1 h1 (f.step t1)⟩
end
end DD
namespace DD
open PySem PySem.W L2 SX Cm
section
variable {X : Cx}
/-! ### builtins -/
def bLen : DC
  | [.tup ds], G, Q => Q (.int ds.length) G
  | [.str z], G, Q => z.length ≤ sizeLine ∧ Q (.int z.length) G
  | [.ref p], G, Q => (∃ ds, Ls G p ds ∧ Q (.int ds.length) G) ∨ (∃ kvs, G p = some (.dct kvs) ∧ Q (.int kvs.length) G)
  | _, _, _ => False
theorem KRV.len {K : Frag} {H : Hp} {v : List (Key × V)} {d : List (Key × DV)} (h : KRV K H v d) : v.length = d.length := by
  induction h with
  | nil => rfl
  | cons _ _ ih => exact congrArg (· + 1) ih
theorem cd_len : CallD X (.builtin "len") bLen := by
  refine ⟨_, call_len_seq.or (call_len_str.or call_lenD), fun ds vs H G R Q r w h f => ?_⟩
  cases r with
  | nil => exact h.elim
  | cons rv rt =>
    cases rt with
    | cons _ _ => cases rv <;> exact h.elim
    | nil =>
      cases rv with
      | tup s r => exact .inl ⟨_, _, rfl, .inr s, by rw [r.len]; exact f _ _ _ _ h (TKs.refl H) w (.int _)⟩
      | str z => exact .inr (.inl ⟨z, rfl, h.1, f _ _ _ _ h.2 (TKs.refl H) w (.int _)⟩)
      | ref p =>
        rcases h with ⟨ds, l, q⟩ | ⟨kvs, l, q⟩
        · obtain ⟨us, hs, r⟩ := wd_seq w l
          exact .inl ⟨p, us, rfl, .inl hs, by rw [r.len]; exact f _ _ _ _ q (TKs.refl H) w (.int _)⟩
        · obtain ⟨O, wo⟩ := id w
          obtain ⟨ks, hk, r⟩ := wo.ob p _ l
          exact .inr (.inr ⟨p, ks, rfl, hk, by rw [r.len]; exact f _ _ _ _ q (TKs.refl H) w (.int _)⟩)
      | _ => exact h.elim
/-- the type of a value, where it is known -/
def tyN : DV → String
  | .non => "NoneType"
  | .bl _ => "bool"
  | .int _ => "int"
  | .str _ => "str"
  | .tup _ => "tuple"
  | .ty _ => "type"
  | .ref _ => "object"
/-- isinstance of built-in types -/
def tyB (a t : String) : Bool := a == t || (a == "bool" && t == "int")
def tysK : List String := ["tuple", "str", "int", "bool", "list", "dict"]
theorem kit_tab : ∀ a ∈ ["NoneType", "bool", "int", "str", "tuple", "list", "dict"], ∀ t ∈ tysK, kitB a t = some (tyB a t) := by decide +kernel
def TyAt (G : DG) : DV → String → Prop
  | .ref p, a => (a = "list" ∧ (G p = some .cnt ∨ (∃ ds, Ls G p ds))) ∨ (a = "dict" ∧ ∃ kvs, G p = some (.dct kvs))
  | .ty _, _ => False
  | d, a => a = tyN d
def bIsi : DC
  | [x, .ty t], G, Q => t ∈ tysK ∧ ∃ a b, TyAt G x a ∧ tyB a t = b ∧ Q (.bl b) G
  | _, _, _ => False
theorem ty_of {K : Frag} {H : Hp} {G : DG} {v : V} {d : DV} {a : String} (w : Wd K H G) (r : RV K H v d) (h : TyAt G d a) : TyX K H v (.type a) ∧ a ∈ ["NoneType", "bool", "int", "str", "tuple", "list", "dict"] := by
  cases r with
  | non => cases h; exact ⟨.base .non, by decide⟩
  | bl b => cases h; exact ⟨.base (.bl b), by show "bool" ∈ _; decide⟩
  | int i => cases h; exact ⟨.base (.int i), by show "int" ∈ _; decide⟩
  | str z => cases h; exact ⟨.base (.str z), by show "str" ∈ _; decide⟩
  | tup s r => cases h; exact ⟨tyTup s, by show "tuple" ∈ _; decide⟩
  | ty n => exact h.elim
  | ref p =>
    rcases h with ⟨rfl, h⟩ | ⟨rfl, kvs, h⟩
    · refine ⟨?_, by decide⟩
      obtain ⟨O, w⟩ := w
      rcases h with h | ⟨ds, h | h⟩
      · obtain ⟨n, e⟩ := w.ob p _ h; exact .base (.lst e)
      · obtain ⟨n, e, _⟩ := w.ob p _ h; exact .base (.lst e)
      · obtain ⟨n, e | ⟨o, e⟩, _⟩ := w.ob p _ h
        · exact .base (.lst e)
        · exact .base (.frz e)
    · obtain ⟨O, w⟩ := w
      obtain ⟨n, e, _⟩ := w.ob p _ h
      exact ⟨.base (.dK e), by decide⟩
theorem cd_isi : CallD X (.builtin "isinstance") bIsi := by
  refine ⟨_, call_isi, fun ds vs H G R Q r w h f => ?_⟩
  cases r with
  | nil => exact h.elim
  | cons rv rt =>
    cases rt with
    | nil => exact h.elim
    | cons rv2 rt =>
      cases rt with
      | cons _ _ => cases rv2 <;> exact h.elim
      | nil =>
        cases rv2 with
        | ty t =>
          obtain ⟨ht, a, b, ha, rfl, q⟩ := h
          obtain ⟨h1, h2⟩ := ty_of w rv ha
          exact ⟨_, _, _, _, _, rfl, .ty t, h1, kit_ty (kit_tab a h2 t ht), flat_up w f q⟩
        | _ => exact h.elim
def bInt1 : DC
  | [.int i], G, Q => Q (.int i) G
  | [.bl k], G, Q => Q (.int (if k = true then 1 else 0)) G
  | _, _, _ => False
theorem cd_int : CallD X (.type "int") bInt1 := by
  refine ⟨_, call_int1, fun ds vs H G R Q r w h f => ?_⟩
  cases r with
  | nil => exact h.elim
  | cons rv rt =>
    cases rt with
    | cons _ _ => cases rv <;> exact h.elim
    | nil =>
      cases rv with
      | int i => exact .inl ⟨i, rfl, f _ _ _ _ h (TKs.refl H) w (.int _)⟩
      | bl k => exact .inr ⟨k, rfl, f _ _ _ _ h (TKs.refl H) w (.int _)⟩
      | _ => exact h.elim
def bTuple : DC
  | [.tup ds], G, Q => Q (.tup ds) G
  | [.ref p], G, Q => ∃ ds, Ls G p ds ∧ Q (.tup ds) G
  | _, _, _ => False
theorem cd_tuple : CallD X (.type "tuple") bTuple := by
  refine ⟨_, call_tuple_of, fun ds vs H G R Q r w h f => ?_⟩
  cases r with
  | nil => exact h.elim
  | cons rv rt =>
    cases rt with
    | cons _ _ => cases rv <;> exact h.elim
    | nil =>
      cases rv with
      | tup s r => exact ⟨_, _, rfl, .inr ⟨s, f _ _ _ _ h (TKs.refl H) w (.tup s r)⟩⟩
      | ref p =>
        obtain ⟨ds, l, q⟩ := h
        obtain ⟨us, hs, r⟩ := wd_seq w l
        refine ⟨p, us, rfl, .inl ⟨hs, fun l nl => ?_⟩⟩
        have s' := same_new nl (.tup us)
        exact f _ _ _ _ q (TKs.of s') (w.same s') (.tup (SqT.of upd_same) (r.mono (.of s')))
      | _ => exact h.elim
def bList : DC
  | [.tup ds], G, Q => ∀ r, G r = none → Q (.ref r) (dupd G r (.lst ds))
  | [.ref p], G, Q => ∃ ds, Ls G p ds ∧ ∀ r, G r = none → Q (.ref r) (dupd G r (.lst ds))
  | _, _, _ => False
theorem cd_list : CallD X (.type "list") bList := by
  refine ⟨_, call_list_of, fun ds vs H G R Q r w h f => ?_⟩
  cases r with
  | nil => exact h.elim
  | cons rv rt =>
    cases rt with
    | cons _ _ => cases rv <;> exact h.elim
    | nil =>
      cases rv with
      | tup s r =>
        rename_i a xs ds
        refine ⟨_, _, rfl, .inr s, fun l nl => ?_⟩
        have s' := same_new nl (.lst xs)
        exact f _ _ _ _ (h l (w.free nl)) (TKs.of s') (w.new nl fun O => ⟨_, upd_same, r.mono (.of s')⟩) (.ref l)
      | ref p =>
        obtain ⟨ds, l, q⟩ := h
        obtain ⟨us, hs, r⟩ := wd_seq w l
        refine ⟨p, us, rfl, .inl hs, fun l nl => ?_⟩
        have s' := same_new nl (.lst us)
        exact f _ _ _ _ (q l (w.free nl)) (TKs.of s') (w.new nl fun O => ⟨_, upd_same, r.mono (.of s')⟩) (.ref l)
      | _ => exact h.elim
theorem RVs.bls {K : Frag} {H : Hp} : ∀ {v : List V} {bs : List Bool}, RVs K H v (bs.map DV.bl) → v = bs.map V.bl
  | _, [], .nil => rfl
  | _, b :: r, .cons h t => by cases h; rw [RVs.bls t]; rfl
def bAll : DC
  | [.ref p], G, Q => ∃ bs : List Bool, Ls G p (bs.map DV.bl) ∧ Q (.bl (bs.all id)) G
  | _, _, _ => False
theorem cd_all (hc : X.calm = true) : CallD X (.builtin "all") bAll := by
  refine ⟨_, cr_all hc, fun ds vs H G R Q r w h f => ?_⟩
  cases r with
  | nil => exact h.elim
  | cons rv rt =>
    cases rt with
    | cons _ _ => cases rv <;> exact h.elim
    | nil =>
      cases rv with
      | ref p =>
        obtain ⟨bs, l, q⟩ := h
        obtain ⟨us, hs, r⟩ := wd_seq w l
        rw [r.bls] at hs
        exact ⟨p, bs, rfl, hs, flat_up w f q⟩
      | _ => exact h.elim
/-! ### methods -/
abbrev DM := DV → List DV → DG → DK → Prop
def rcv (T : String) (x : DV) (G : DG) : Prop := match x with
  | .str _ => T = "str"
  | .ref p => (T = "list" ∧ ∃ ds, Ls G p ds) ∨ (T = "dict" ∧ ∃ kvs, G p = some (.dct kvs))
  | _ => False
theorem rcv_ok {K : Frag} {H : Hp} {G : DG} {T : String} {x : DV} {v : V} (w : Wd K H G) (r : RV K H v x) (h : rcv T x G) : tyV K T v H := by
  cases r with
  | str z => exact h
  | ref p =>
    rcases h with ⟨rfl, ds, l⟩ | ⟨rfl, kvs, l⟩
    · obtain ⟨us, hs, _⟩ := wd_seq w l
      exact .inl ⟨rfl, us, hs⟩
    · obtain ⟨O, w⟩ := w
      obtain ⟨ks, e, _⟩ := w.ob p _ l
      exact .inr (.inr (.inl ⟨rfl, .inl ⟨ks, e⟩⟩))
  | _ => exact h.elim
def MtD (X : Cx) (id : String) (b : DM) : Prop := ∃ r, MtR X id r ∧ ∀ x ds vx vs H G R Q, RV X.K H vx x → RVs X.K H vs ds → Wd X.K H G → b x ds G R → Fin X.K H R Q → r vx vs H Q
def dBM (T : String) (b : DM) (to : TD) (t : TDA) : TD := fun δ G Q => to δ G fun x G1 => rcv T x G1 ∧ t δ G1 fun ds G2 => b x ds G2 Q
def dBM0 (T : String) (b : DM) (to : TD) : TD := fun δ G Q => to δ G fun x G1 => rcv T x G1 ∧ b x [] G1 Q
variable {o e : Expr} {es : List Expr} {to : TD} {t : TDA} {name : Str} {apos cpos : Pos} {T id : String} {b : DM}
theorem de_bm (pa : PlainAttrs T) (slot : Slot T name id) (hty : typeOf (.builtin id) = pure (.type "method_descriptor")) (hm : MtD X id b) (ho : DE X o to) (ha : DA X (e :: es) t)
    (hbase : attributeBase o name X.env (eval o X.env) = eval o X.env := by rfl)
    (hfew : ((backTo cpos (starEach (e :: es) X.env)).all (fun x => !x.1) && (backToKw cpos (keywordEach [] X.env)).all (fun x => x.1.isSome)
      && decide ((e :: es).length + ([] : List Keyword).length + (if ([] : List Keyword).isEmpty then 0 else 1) < 30)) = true := by rfl)
    (hline : (apos.endLine == cpos.line) = true := by rfl) (hs : starEach (e :: es) X.env = (false, eval e X.env) :: starEach es X.env := by rfl) (hplain : (backTo cpos (starEach es X.env)).any (·.1) = false := by rfl) :
    DE X (.Call (.Attribute o name apos) (e :: es) [] cpos) (dBM T b to t) := by
  obtain ⟨r, hr, ok⟩ := hm
  refine PE_mono (pe_bm pa slot hty hr ho ha hbase hfew hline hs hplain) fun σ H Q ⟨δ, G, R, sl, w, q, f⟩ => ⟨δ, G, _, sl, w, q, fun x G1 vx H1 h1 t1 w1 r1 => ⟨rcv_ok w1 r1 h1.1, δ, G1, _, sl.mono t1, w1, h1.2, fun ds G2 vs H2 h2 t2 w2 r2 => ?_⟩⟩
  exact ok x ds vx vs H2 G2 R Q (r1.mono t2) r2 w2 h2 (f.step (t1.trans t2))
theorem de_bm0 (pa : PlainAttrs T) (slot : Slot T name id) (hty : typeOf (.builtin id) = pure (.type "method_descriptor")) (hm : MtD X id b) (ho : DE X o to)
    (hbase : attributeBase o name X.env (eval o X.env) = eval o X.env := by rfl) (hline : (apos.endLine == cpos.line) = true := by rfl) : DE X (.Call (.Attribute o name apos) [] [] cpos) (dBM0 T b to) := by
  obtain ⟨r, hr, ok⟩ := hm
  exact PE_mono (pe_bm0 pa slot hty hr ho hbase hline) fun σ H Q ⟨δ, G, R, sl, w, q, f⟩ => ⟨δ, G, _, sl, w, q, fun x G1 vx H1 h1 t1 w1 r1 => ⟨rcv_ok w1 r1 h1.1, ok x [] vx [] H1 G1 R Q r1 .nil w1 h1.2 (f.step t1)⟩⟩
/-- a change of one of the store's lists -/
theorem put_lst {K : Frag} {H : Hp} {G : DG} {p : Addr} {ds es : List DV} {xs ys : List V} (w : Wd K H G) (e : G p = some (.lst ds)) (h : H p = some (.lst xs)) (r : RVs K H ys es) : TKs K H (upd H p (.lst ys)) ∧ Wd K (upd H p (.lst ys)) (dupd G p (.lst es)) := by
  have t : TKs K H (upd H p (.lst ys)) := TKs.lst h
  exact ⟨t, w.put ⟨_, e, fun L φ z => by cases z⟩ t fun O => ⟨ys, upd_same, r.mono t⟩⟩
def bAppend : DM := fun x ds G Q => ∃ p xs y, x = .ref p ∧ ds = [y] ∧ G p = some (.lst xs) ∧ xs.length < sizeLine ∧ Q .non (dupd G p (.lst (xs ++ [y])))
theorem md_append : MtD X "list.append" bAppend := by
  refine ⟨_, mt_append, fun x ds vx vs H G R Q rx rs w h f => ?_⟩
  obtain ⟨p, xs, y, rfl, rfl, e, hl, q⟩ := h
  cases rx
  cases rs with
  | cons ry rt =>
    cases rt
    obtain ⟨us, hu, r⟩ := wd_list w e
    obtain ⟨t, w'⟩ := put_lst (es := xs ++ [y]) w e hu (r.append (.cons ry .nil))
    exact ⟨p, us, _, rfl, rfl, hu, by rw [r.len]; exact hl, f _ _ _ _ q t w' .non⟩
def bPop : DM := fun x ds G Q => ∃ p xs y, x = .ref p ∧ ds = [] ∧ G p = some (.lst (xs ++ [y])) ∧ Q y (dupd G p (.lst xs))
theorem md_pop : MtD X "list.pop" bPop := by
  refine ⟨_, mt_pop, fun x ds vx vs H G R Q rx rs w h f => ?_⟩
  obtain ⟨p, xs, y, rfl, rfl, e, q⟩ := h
  cases rx
  cases rs
  obtain ⟨us, hu, r⟩ := wd_list w e
  have l := r.len
  rw [List.length_append, List.length_singleton] at l
  obtain ⟨v, hv, rv⟩ := r.get (i := us.length - 1) (y := y) (by rw [l, Nat.add_sub_cancel, List.getElem?_append_right (Nat.le_refl _), Nat.sub_self]; rfl)
  have rd := r.dropLast
  rw [List.dropLast_concat] at rd
  obtain ⟨t, w'⟩ := put_lst w e hu rd
  exact ⟨p, us, v, rfl, rfl, hu, hv, f _ _ _ _ q t w' (rv.mono t)⟩
def bExt : DM := fun x ds G Q => ∃ p xs zs, x = .ref p ∧ G p = some (.lst xs) ∧ (ds = [.tup zs] ∨ ∃ q, ds = [.ref q] ∧ G q = some (.lst zs)) ∧ xs.length + zs.length ≤ sizeLine ∧ Q .non (dupd G p (.lst (xs ++ zs)))
theorem md_extend : MtD X "list.extend" bExt := by
  refine ⟨_, MtR.or mt_extend mt_extT, fun x ds vx vs H G R Q rx rs w h f => ?_⟩
  obtain ⟨p, xs, zs, rfl, e, hd, hl, q⟩ := h
  cases rx
  obtain ⟨us, hu, r⟩ := wd_list w e
  rcases hd with rfl | ⟨q', rfl, e'⟩
  · cases rs with
    | cons ry rt =>
      cases rt
      obtain ⟨a, ys, rfl, s, r'⟩ := ry.tupD
      obtain ⟨t, w'⟩ := put_lst w e hu (r.append r')
      exact .inr ⟨p, a, us, ys, rfl, rfl, hu, s, by rw [r.len, r'.len]; exact hl, f _ _ _ _ q t w' .non⟩
  · cases rs with
    | cons ry rt =>
      cases rt
      cases ry
      obtain ⟨ys, hy, r'⟩ := wd_list w e'
      obtain ⟨t, w'⟩ := put_lst w e hu (r.append r')
      exact .inl ⟨p, q', us, ys, rfl, rfl, hu, hy, by rw [r.len, r'.len]; exact hl, f _ _ _ _ q t w' .non⟩
end
end DD
namespace DD
open PySem PySem.W L2 SX Cm
section
variable {X : Cx}
/-! ### blocks -/
def dNext : TDS := fun D δ G => D.nx δ G
def dSeq (t u : TDS) : TDS := fun D δ G => t { D with nx := u D } δ G
variable {st : Stmt} {rest : List Stmt} {t u : TDS}
theorem dss_nil : DSs X [] dNext := PSs_mono pss_nil fun D σ H ⟨D', δ, G, sl, w, l, h⟩ => l.nx σ δ G H h (TKs.refl H) w sl
theorem seq_up {K : Frag} {D : Ends} {σ : St} {H : Hp} (h : upS K (dSeq t u) D σ H) : tSeq (upS K t) (upS K u) D σ H := by
  obtain ⟨D', δ, G, sl, w, l, h⟩ := h
  exact ⟨{ D' with nx := u D' }, δ, G, sl, w, ⟨fun σ1 δ1 G1 H1 q t1 w1 s1 => ⟨D', δ1, G1, s1, w1, l.step t1, q⟩, l.rt, l.bk, l.ct⟩, h⟩
theorem dss_cons (h1 : DS X st t) (h2 : DSs X rest u) : DSs X (st :: rest) (dSeq t u) := PSs_mono (pss_cons h1 h2) fun D σ H h => seq_up h
theorem dss_one (h1 : DS X st t) : DSs X [st] t := pss_one h1
/-- a middle assertion behind the first statement -/
def dCut (t u : TDS) : TDS := fun D δ G => ∃ Mid : DSt → DG → Prop, t { D with nx := Mid } δ G ∧ ∀ δ' G', Mid δ' G' → u D δ' G'
theorem dss_cut (h1 : DS X st t) (h2 : DSs X rest u) : DSs X (st :: rest) (dCut t u) := PSs_mono (pss_cons h1 h2) fun D σ H ⟨D', δ, G, sl, w, l, Mid, h, g⟩ =>
  ⟨{ D' with nx := Mid }, δ, G, sl, w, ⟨fun σ1 δ1 G1 H1 q t1 w1 s1 => ⟨D', δ1, G1, s1, w1, l.step t1, g _ _ q⟩, l.rt, l.bk, l.ct⟩, h⟩
def dBreak : TDS := fun D δ G => D.bk δ G
def dCont : TDS := fun D δ G => D.ct δ G
def dDrop (te : TD) : TDS := fun D δ G => te δ G fun _ G1 => D.nx δ G1
theorem ds_expr {e : Expr} {te : TD} {pos : Pos} (he : DE X e te) (hs : swapsWith e none pos.line X.env = pure false := by rfl) : DS X (.Expr e pos) (dDrop te) :=
  PS_mono (ps_expr he hs) fun D σ H ⟨D', δ, G, sl, w, l, h⟩ => ⟨δ, G, _, sl, w, h, fun d G1 v H1 q t1 w1 _ => l.nx σ δ G1 H1 q t1 w1 (sl.mono t1)⟩
def dRet (te : TD) : TDS := fun D δ G => te δ G D.rt
theorem ds_ret {e : Expr} {te : TD} {pos : Pos} (he : DE X e te) : DS X (.Return (some e) pos) (dRet te) :=
  PS_mono (ps_ret he) fun D σ H ⟨D', δ, G, sl, w, l, h⟩ => ⟨δ, G, _, sl, w, h, fun d G1 v H1 q t1 w1 r1 => l.rt d G1 v H1 q t1 w1 r1⟩
def dRetN : TDS := fun D _ G => D.rt .non G
def dIfS (c : TDT) (t u : TDS) : TDS := fun D δ G => c δ G fun b G1 => if b = true then t D δ G1 else u D δ G1
theorem ds_if {c : Expr} {a b : List Stmt} {tc : TDT} {pos : Pos} (hc : DT X c tc) (ha : DSs X a t) (hb : DSs X b u) : DS X (.If c a b pos) (dIfS tc t u) :=
  PS_mono (ps_if hc ha hb) fun D σ H ⟨D', δ, G, sl, w, l, h⟩ => ⟨δ, G, _, sl, w, h, fun k G1 H1 q t1 w1 => by
    cases k with
    | true => exact iteT ⟨D', δ, G1, sl.mono t1, w1, l.step t1, q⟩
    | false => exact iteF ⟨D', δ, G1, sl.mono t1, w1, l.step t1, q⟩⟩
/-! ### targets -/
abbrev TDG := DV → DSt → DG → (DSt → DG → Prop) → Prop
abbrev TDGs := List DV → DSt → DG → (DSt → DG → Prop) → Prop
def FinG (K : Frag) (H : Hp) (R : DSt → DG → Prop) (Q : St → Hp → Prop) : Prop := ∀ δ G σ H', R δ G → TKs K H H' → Wd K H' G → Sl K H' σ δ → Q σ H'
theorem FinG.step {K : Frag} {H H1 : Hp} {R : DSt → DG → Prop} {Q : St → Hp → Prop} (f : FinG K H R Q) (t : TKs K H H1) : FinG K H1 R Q := fun δ G σ H' r t' => f δ G σ H' r (t.trans t')
def upG (K : Frag) (g : TDG) : TG := fun v σ H Q => ∃ d δ G R, RV K H v d ∧ Sl K H σ δ ∧ Wd K H G ∧ g d δ G R ∧ FinG K H R Q
def upGs (K : Frag) (g : TDGs) : TGs := fun vs σ H Q => ∃ ds δ G R, RVs K H vs ds ∧ Sl K H σ δ ∧ Wd K H G ∧ g ds δ G R ∧ FinG K H R Q
abbrev DGt (X : Cx) (e : Expr) (g : TDG) : Prop := PG X e (upG X.K g)
abbrev DGs (X : Cx) (e : List Expr) (g : TDGs) : Prop := PGs X e (upGs X.K g)
theorem PG_mono {e : Expr} {t t' : TG} (h : PG X e t) (i : ∀ v σ H Q, t' v σ H Q → t v σ H Q) : PG X e t' := ⟨fun pins s σ H v u Q I r q => h.run pins s σ H v u Q I r (i v σ H Q q)⟩
theorem PGs_mono {e : List Expr} {t t' : TGs} (h : PGs X e t) (i : ∀ v σ H Q, t' v σ H Q → t v σ H Q) : PGs X e t' := ⟨fun pins s σ H v u Q I r q => h.run pins s σ H v u Q I r (i v σ H Q q)⟩
def gN (i : Nat) : TDG := fun d δ G Q => Q (δ.set i (some d)) G
theorem dg_name {i : Nat} {x : Str} {pos : Pos} (hN : X.N.Nodup) (hi : X.N[i]? = some x) (hx : Loc X.env.scope x) (hf : X.fn x = true ∨ X.env.scope.names.lookup x = some .local := by first | exact .inl rfl | exact .inr rfl | assumption) : DGt X (.Name x pos) (gN i) :=
  PG_mono (pg_name hN hi hx hf) fun v σ H Q ⟨d, δ, G, R, r, sl, w, h, f⟩ => f _ _ _ _ h (TKs.refl H) w (sl.set r i)
def gN0 : TDGs := fun ds δ G Q => ds = [] ∧ Q δ G
def gNC (t : TDG) (u : TDGs) : TDGs := fun ds δ G Q => ∃ d r, ds = d :: r ∧ t d δ G fun δ' G' => u r δ' G' Q
theorem dgs_nil : DGs X [] gN0 := PGs_mono pgs_nil fun vs σ H Q ⟨ds, δ, G, R, r, sl, w, ⟨e, h⟩, f⟩ => by
  subst e
  cases r
  exact ⟨rfl, f _ _ _ _ h (TKs.refl H) w sl⟩
theorem dgs_cons {e : Expr} {es : List Expr} {t : TDG} {u : TDGs} (h1 : DGt X e t) (h2 : DGs X es u)
    (hs : (assignEach (e :: es) X.env).map (·.2) = assign e X.env :: (assignEach es X.env).map (·.2) := by rfl) : DGs X (e :: es) (gNC t u) := PGs_mono (pgs_cons h1 h2 hs) fun vs σ H Q ⟨ds, δ, G, R, r, sl, w, ⟨d, rs, e, h⟩, f⟩ => by
  subst e
  cases r with
  | cons rv rt => exact ⟨_, _, rfl, d, δ, G, _, rv, sl, w, h, fun δ1 G1 σ1 H1 q t1 w1 s1 => ⟨rs, δ1, G1, R, rt.mono t1, s1, w1, q, f.step t1⟩⟩
def gT (n : Nat) (t : TDGs) : TDG := fun d δ G Q => ∃ ds, d = .tup ds ∧ ds.length = n ∧ t ds δ G Q
theorem dg_tup {es : List Expr} {k : Nat} {t : TDGs} {n : Nat} {pos : Pos} (hc : X.calm = true) (h : DGs X es t)
    (hn : (assignEach es X.env).length = n := by rfl) (hst : (assignEach es X.env).findIdx? (·.1) = none := by rfl) : DGt X (.Tuple es k pos) (gT n t) := PG_mono (pg_tup hc h hn hst) fun v σ H Q ⟨d, δ, G, R, r, sl, w, ⟨ds, e, l, h⟩, f⟩ => by
  subst e
  obtain ⟨a, xs, rfl, s, r⟩ := r.tupD
  exact ⟨a, xs, rfl, s, by rw [r.len]; exact l, ds, δ, G, R, r, sl, w, h, f⟩
/-- xs[i] = v -/
def bSet : DV → DV → DV → DG → (DG → Prop) → Prop
  | .ref p, .int i, v, G, Q => (∃ ds j, G p = some (.lst ds) ∧ ixN ds.length i = some j ∧ Q (dupd G p (.lst (ds.set j v)))) ∨ (G p = some .cnt ∧ i = 0 ∧ (∃ n, v = .int n) ∧ Q G)
  | _, _, _, _, _ => False
def gSb (to ti : TD) : TDG := fun v δ G Q => to δ G fun o G1 => ti δ G1 fun i G2 => bSet o i v G2 fun G3 => Q δ G3
def dAsg (te : TD) (g : TDG) : TDS := fun D δ G => te δ G fun d G1 => g d δ G1 D.nx
theorem asg_up {K : Frag} {te : TD} {g : TDG} {D : Ends} {σ : St} {H : Hp} (h : upS K (dAsg te g) D σ H) : tAsg (up K te) (upG K g) D σ H := by
  obtain ⟨D', δ, G, sl, w, l, h⟩ := h
  exact ⟨δ, G, _, sl, w, h, fun d G1 v H1 q t1 w1 r1 => ⟨d, δ, G1, _, r1, sl.mono t1, w1, q, fun δ2 G2 σ2 H2 q2 t2 w2 s2 => l.nx σ2 δ2 G2 H2 q2 (t1.trans t2) w2 s2⟩⟩
theorem ds_asg {tg e : Expr} {te : TD} {g : TDG} {pos : Pos} (he : DE X e te) (hg : DGt X tg g) (hs : swapsWithSole [tg] e pos.line X.env = pure false := by rfl) (hw : swappedStores [tg] e X.env = pure none := by rfl) (h1 : (assignEach [tg] X.env).map (·.2) = [assign tg X.env] := by rfl) : DS X (.Assign [tg] e pos) (dAsg te g) := PS_mono (ps_asg he hg hs hw h1) fun D σ H h => asg_up h
theorem ds_set {i : Nat} {x : Str} {e : Expr} {te : TD} {pos' pos : Pos} (hN : X.N.Nodup) (hi : X.N[i]? = some x) (hx : Loc X.env.scope x) (he : DE X e te) (hs : swapsWith e (some (.Name x pos')) pos.line X.env = pure false := by rfl) (hf : X.fn x = true ∨ X.env.scope.names.lookup x = some .local := by first | exact .inl rfl | exact .inr rfl | assumption) : DS X (.Assign [.Name x pos'] e pos) (dAsg te (gN i)) :=
  PS_mono (ps_set hN hi hx he hs hf) fun D σ H ⟨D', δ, G, sl, w, l, h⟩ => ⟨δ, G, _, sl, w, h, fun d G1 v H1 q t1 w1 r1 => l.nx _ _ G1 H1 q t1 w1 ((sl.mono t1).set r1 i)⟩
def dPar (i j : Nat) (t : TDA) : TDS := fun D δ G => t δ G fun ds G1 => ∃ a b, ds = [a, b] ∧ D.nx ((δ.set i (some a)).set j (some b)) G1
theorem ds_par {i j : Nat} {x y : Str} {a b : Expr} {ta : TDA} {px py pt pos : Pos} {kt k2 pt2} (hc : X.calm = true) (hN : X.N.Nodup) (hi : X.N[i]? = some x) (hj : X.N[j]? = some y) (hij : i ≠ j)
    (hx : X.env.scope.names.lookup x = some .local) (hy : X.env.scope.names.lookup y = some .local) (ha : DA X [a, b] ta)
    (hw : swappedStores [.Tuple [.Name x px, .Name y py] kt pt] (.Tuple [a, b] k2 pt2) X.env = pure (some [x, y]))
    (hs : swapsWithSole [.Tuple [.Name x px, .Name y py] kt pt] (.Tuple [a, b] k2 pt2) pos.line X.env = pure false := by rfl) :
    DS X (.Assign [.Tuple [.Name x px, .Name y py] kt pt] (.Tuple [a, b] k2 pt2) pos) (dPar i j ta) :=
  PS_mono (ps_par hc hN hi hj hij hx hy ha hw hs) fun D σ H ⟨D', δ, G, sl, w, l, h⟩ => ⟨δ, G, _, sl, w, h, fun ds G1 vs H1 q t1 w1 r1 => by
    obtain ⟨a, b, rfl, q⟩ := q
    cases r1 with
    | cons ra rb =>
      cases rb with
      | cons rb rn =>
        cases rn
        exact ⟨_, _, rfl, l.nx _ _ G1 H1 q t1 w1 (((sl.mono t1).set ra i).set rb j)⟩⟩
end
end DD
namespace DD
open PySem PySem.W L2 SX Cm
/-! ### what is walked: its items, and what must stay so -/
abbrev TDI := DSt → DG → (List DV → (DG → Prop) → DG → Prop) → Prop
structure JRel (K : Frag) (H0 : Hp) (J : It) (ds : List DV) (st : DG → Prop) : Prop where
  go : ∀ i H G, TKs K H0 H → Wd K H G → st G → i < ds.length → J.go i H
  yld : ∀ i H G x H', TKs K H0 H → Wd K H G → st G → i < ds.length → J.yld i H x H' → Same H H' ∧ ∃ d, ds[i]? = some d ∧ RV K H' x d
  stop : ∀ i H G, TKs K H0 H → Wd K H G → st G → i = ds.length → J.stop i H
def upI (K : Frag) (ti : TDI) : TI := fun σ H R' => ∃ δ G R, Sl K H σ δ ∧ Wd K H G ∧ ti δ G R ∧ ∀ ds st G1 H1 J, R ds st G1 → TKs K H H1 → Wd K H1 G1 → JRel K H1 J ds st → R' J H1
section
variable {X : Cx} {tg : Expr}
abbrev DI (X : Cx) (tg iter : Expr) (ti : TDI) : Prop := PI X tg iter (upI X.K ti)
theorem PI_mono {e : Expr} {t t' : TI} (h : PI X tg e t) (i : ∀ σ H R, t' σ H R → t σ H R) : PI X tg e t' := ⟨fun pins s σ H Q I q => h.run pins s σ H Q I (i σ H Q q)⟩
/-- over a tuple -/
def dITup (t : TD) : TDI := fun δ G R => t δ G fun d G1 => ∃ ds, d = .tup ds ∧ R ds (fun _ => True) G1
theorem di_tup {e : Expr} {t : TD} (h : DE X e t) : DI X tg e (dITup t) := PI_mono (pi_tup h) fun σ H R' ⟨δ, G, R, sl, w, q, f⟩ => ⟨δ, G, _, sl, w, q, fun d G1 v H1 ⟨ds, e, q1⟩ t1 w1 r1 => by
  subst e
  obtain ⟨a, xs, rfl, s, r⟩ := r1.tupD
  refine ⟨a, rfl, ⟨xs, s⟩, f _ _ _ _ _ q1 t1 w1 ⟨fun i H2 G2 t2 w2 _ hi => ?_, fun i H2 G2 x H3 t2 w2 _ _ y => ?_, fun i H2 G2 t2 w2 _ hi => ?_⟩⟩
  · obtain ⟨x, hx, _⟩ := r.get (List.getElem?_eq_getElem hi)
    exact ⟨xs, x, t2 _ _ s, hx⟩
  · obtain ⟨rfl, y⟩ := y
    obtain ⟨d, hd, rd⟩ := (r.mono t2).getV (y xs (t2 _ _ s))
    exact ⟨Same.refl _, d, hd, rd⟩
  · exact ⟨xs, t2 _ _ s, by rw [r.len]; exact Nat.le_of_eq hi.symm⟩⟩
/-- over a list, which stays as it is -/
def dIList (t : TD) : TDI := fun δ G R => t δ G fun d G1 => ∃ p ds, d = .ref p ∧ Ls G1 p ds ∧ R ds (fun G => Ls G p ds) G1
theorem di_list {e : Expr} {t : TD} (h : DE X e t) : DI X tg e (dIList t) := PI_mono (pi_list h) fun σ H R' ⟨δ, G, R, sl, w, q, f⟩ => ⟨δ, G, _, sl, w, q, fun d G1 v H1 ⟨p, ds, e, ls, q1⟩ t1 w1 r1 => by
  subst e
  cases r1
  obtain ⟨xs, s, r⟩ := wd_seq w1 ls
  refine ⟨p, rfl, ⟨xs, s⟩, f _ _ _ _ _ q1 t1 w1 ⟨fun i H2 G2 t2 w2 l2 hi => ?_, fun i H2 G2 x H3 t2 w2 l2 _ y => ?_, fun i H2 G2 t2 w2 l2 hi => ?_⟩⟩
  · obtain ⟨ys, s2, r2⟩ := wd_seq w2 l2
    obtain ⟨x, hx, _⟩ := r2.get (List.getElem?_eq_getElem hi)
    exact ⟨ys, x, s2, hx⟩
  · obtain ⟨rfl, y⟩ := y
    obtain ⟨ys, s2, r2⟩ := wd_seq w2 l2
    obtain ⟨d, hd, rd⟩ := r2.getV (y ys s2)
    exact ⟨Same.refl _, d, hd, rd⟩
  · obtain ⟨ys, s2, r2⟩ := wd_seq w2 l2
    exact ⟨ys, s2, by rw [r2.len]; exact Nat.le_of_eq hi.symm⟩⟩
def signs (z : Str) : List DV := z.cps.toList.map fun c => .str ⟨#[c]⟩
def dIStr (t : TD) : TDI := fun δ G R => t δ G fun d G1 => ∃ z, d = .str z ∧ R (signs z) (fun _ => True) G1
theorem di_str {e : Expr} {t : TD} (h : DE X e t) : DI X tg e (dIStr t) := PI_mono (pi_str h) fun σ H R' ⟨δ, G, R, sl, w, q, f⟩ => ⟨δ, G, _, sl, w, q, fun d G1 v H1 ⟨z, e, q1⟩ t1 w1 r1 => by
  subst e
  cases r1
  have hl : (signs z).length = z.cps.size := by unfold signs; rw [List.length_map, Array.length_toList]
  refine ⟨z, rfl, f _ _ _ _ _ q1 t1 w1 ⟨fun i H2 G2 t2 w2 l2 hi => by rw [hl] at hi; exact hi, fun i H2 G2 x H3 t2 w2 l2 _ y => ?_, fun i H2 G2 t2 w2 l2 hi => by rw [hl] at hi; exact Nat.le_of_eq hi.symm⟩⟩
  obtain ⟨rfl, c, hc, rfl⟩ := y
  refine ⟨Same.refl _, .str ⟨#[c]⟩, ?_, .str _⟩
  unfold signs
  rw [List.getElem?_map, Array.getElem?_toList, hc]; rfl⟩
/-- range(n), range(a, b) -/
def rng (lo : Int) (n : Nat) : List DV := (List.range n).map fun i => .int (lo + (i : Nat))
theorem rng_len (lo : Int) (n : Nat) : (rng lo n).length = n := by unfold rng; rw [List.length_map, List.length_range]
theorem rng_get {lo : Int} {n i : Nat} (h : i < n) : (rng lo n)[i]? = some (.int (lo + (i : Nat))) := by
  unfold rng
  rw [List.getElem?_map, List.getElem?_range h]; rfl
theorem rng_rel {K : Frag} {H : Hp} {lo : Int} {n : Nat} : JRel K H (Itr lo n) (rng lo n) (fun _ => True) :=
  ⟨fun i H2 G2 t2 w2 l2 hi => by rw [rng_len] at hi; exact hi, fun i H2 G2 x H3 t2 w2 l2 hi y => by
    obtain ⟨rfl, rfl⟩ := y
    rw [rng_len] at hi
    exact ⟨Same.refl _, .int (lo + i), rng_get hi, .int _⟩, fun i H2 G2 t2 w2 l2 hi => by rw [rng_len] at hi; exact Nat.le_of_eq hi.symm⟩
def dIRng (t : TDA) : TDI := fun δ G R => t δ G fun ds G1 => ∃ j : Int, ds = [.int j] ∧ -(2 ^ 62) ≤ j ∧ j < 2 ^ 62 ∧ R (rng 0 j.toNat) (fun _ => True) G1
theorem di_range {a : Expr} {t : TDA} {p pos : Pos} (hm : X.mg "range" = none) (hg : Gl X "range") (ha : DA X [a] t) (hs : starEach [a] X.env = [(false, eval a X.env)] := by rfl) : DI X tg (.Call (.Name "range" p) [a] [] pos) (dIRng t) :=
  PI_mono (pi_range1 hg hm ha hs) fun σ H R' ⟨δ, G, R, sl, w, q, f⟩ => ⟨δ, G, _, sl, w, q, fun ds G1 vs H1 ⟨j, e, h1, h2, q1⟩ t1 w1 r1 => by
    subst e
    cases r1 with
    | cons ra rb =>
      cases rb
      cases ra
      exact ⟨j, rfl, h1, h2, f _ _ _ _ _ q1 t1 w1 rng_rel⟩⟩
def dIRng2 (t : TDA) : TDI := fun δ G R => t δ G fun ds G1 => ∃ i j : Int, ds = [.int i, .int j] ∧ (-(2 ^ 62) ≤ i ∧ i < 2 ^ 62 ∧ -(2 ^ 62) ≤ j ∧ j < 2 ^ 62) ∧ R (rng i (j - i).toNat) (fun _ => True) G1
/-- enumerate of a list -/
def nmbd (ds : List DV) : List DV := ds.zipIdx.map fun p => .tup [.int (p.2 : Nat), p.1]
variable {elts : List Expr} {kk : Nat} {tpos : Pos}
def dIEnum (t : TDA) : TDI := fun δ G R => t δ G fun xs G1 => ∃ p ds, xs = [.ref p] ∧ Ls G1 p ds ∧ R (nmbd ds) (fun G => Ls G p ds) G1
/-- reversed of a list -/
def dIRev (t : TDA) : TDI := fun δ G R => t δ G fun xs G1 => ∃ p ds, xs = [.ref p] ∧ Ls G1 p ds ∧ R ds.reverse (fun G => Ls G p ds) G1
/-! ### for -/
def dFor (ti : TDI) (g : TDG) (tb : TDS) : TDS := fun D δ G => ti δ G fun ds st G1 => ∃ Pv : Nat → DSt → DG → Prop, Pv 0 δ G1 ∧ (∀ i δ G, Pv i δ G → st G) ∧
  (∀ i d δ G, ds[i]? = some d → Pv i δ G → g d δ G fun δ2 G2 => tb { D with nx := Pv (i + 1), ct := Pv (i + 1), bk := D.nx } δ2 G2) ∧ (∀ δ G, Pv ds.length δ G → D.nx δ G)
theorem ds_for {iter : Expr} {body : List Stmt} {ti : TDI} {g : TDG} {tb : TDS} {pos : Pos} (hp : PassesOwn (model X.prog X.w) X.A X.env X.xe) (hc : X.calm = true) (hi : DI X tg iter ti) (hg : DGt X tg g) (hb : DSs X body tb)
    (hs : ∀ x, foldedSetIterable iter X.env x = pure x := by intro _; rfl) : DS X (.For tg iter body [] pos) (dFor ti g tb) := by
  refine PS_mono (ps_for hp hc hi hg hb hs) fun D σ H ⟨D', δ, G, sl, w, l, h⟩ => ⟨δ, G, _, sl, w, h, fun ds st G1 H1 J ⟨Pv, p0, pst, ps, pd⟩ t1 w1 j => ?_⟩
  refine ⟨fun i m σ H2 => ∃ δ G, Pv i δ G ∧ TKs X.K H1 H2 ∧ Wd X.K H2 G ∧ Sl X.K H2 σ δ ∧ i ≤ ds.length ∧ m = ds.length - i, ⟨_, δ, G1, p0, TKs.refl _, w1, sl.mono t1, Nat.zero_le _, rfl⟩, ?_⟩
  rintro i m σ2 H2 ⟨δ2, G2, p2, t2, w2, sl2, hi2, rfl⟩
  by_cases hlt : i < ds.length
  · refine .inr ⟨j.go i H2 G2 t2 w2 (pst _ _ _ p2) hlt, fun σ3 H3 => ∃ δ G, Pv (i + 1) δ G ∧ TKs X.K H1 H3 ∧ Wd X.K H3 G ∧ Sl X.K H3 σ3 δ, fun σ3 H3 ⟨δ3, G3, p3, t3, w3, sl3⟩ => ⟨_, by omega, δ3, G3, p3, t3, w3, sl3, hlt, rfl⟩, fun x H3 y => ?_⟩
    obtain ⟨s3, d, hd, rd⟩ := j.yld i H2 G2 x H3 t2 w2 (pst _ _ _ p2) hlt y
    have t3 := TKs.of (K := X.K) s3
    refine ⟨d, δ2, G2, _, rd, sl2.mono t3, w2.same s3, ps i d δ2 G2 hd p2, fun δ4 G4 σ4 H4 q4 t4 w4 sl4 => ⟨{ D' with nx := Pv (i + 1), ct := Pv (i + 1), bk := D'.nx }, δ4, G4, sl4, w4, ?_, q4⟩⟩
    have t14 := t2.trans (t3.trans t4)
    have t04 := t1.trans t14
    exact ⟨fun σ5 δ5 G5 H5 q5 t5 w5 sl5 => ⟨δ5, G5, q5, t14.trans t5, w5, sl5⟩, fun d5 G5 v5 H5 q5 t5 w5 r5 => l.rt _ _ _ _ q5 (t04.trans t5) w5 r5,
      fun σ5 δ5 G5 H5 q5 t5 w5 sl5 => l.nx _ _ _ _ q5 (t04.trans t5) w5 sl5, fun σ5 δ5 G5 H5 q5 t5 w5 sl5 => ⟨δ5, G5, q5, t14.trans t5, w5, sl5⟩⟩
  · have e : i = ds.length := by omega
    subst e
    exact .inl ⟨j.stop _ H2 G2 t2 w2 (pst _ _ _ p2) rfl, l.nx _ _ _ _ (pd _ _ p2) (t1.trans t2) w2 sl2⟩
/-! ### while -/
def dWhile (c : TDT) (tb : TDS) : TDS := fun D δ G => ∃ Pv : Nat → DSt → DG → Prop, (∃ m, Pv m δ G) ∧ ∀ m δ G, Pv m δ G →
  c δ G fun b G1 => if b = true then tb { D with nx := fun δ' G' => ∃ m', m' < m ∧ Pv m' δ' G', ct := fun δ' G' => ∃ m', m' < m ∧ Pv m' δ' G', bk := D.nx } δ G1 else D.nx δ G1
theorem ds_while {c : Expr} {body : List Stmt} {tc : TDT} {tb : TDS} {pos : Pos} (hp : PassesOwn (model X.prog X.w) X.A X.env X.xe) (hc : DT X c tc) (hb : DSs X body tb) : DS X (.While c body [] pos) (dWhile tc tb) := by
  refine PS_mono (ps_while hp hc hb) fun D σ H ⟨D', δ, G, sl, w, l, Pv, ⟨m0, p0⟩, step⟩ => ?_
  refine ⟨fun m σ H2 => ∃ δ G, Pv m δ G ∧ TKs X.K H H2 ∧ Wd X.K H2 G ∧ Sl X.K H2 σ δ, ⟨m0, δ, G, p0, TKs.refl _, w, sl⟩, ?_⟩
  rintro m σ2 H2 ⟨δ2, G2, p2, t2, w2, sl2⟩
  refine ⟨δ2, G2, _, sl2, w2, step m δ2 G2 p2, fun b G3 H3 q t3 w3 => ?_⟩
  have t23 := t2.trans t3
  cases b with
  | false => exact iteF (l.nx _ _ _ _ q t23 w3 (sl2.mono t3))
  | true =>
    refine iteT ⟨fun σ4 H4 => ∃ m', m' < m ∧ ∃ δ G, Pv m' δ G ∧ TKs X.K H H4 ∧ Wd X.K H4 G ∧ Sl X.K H4 σ4 δ, fun σ' H' ⟨m', lt, x⟩ => ⟨m', lt, x⟩, _, δ2, G3, sl2.mono t3, w3, ?_, q⟩
    exact ⟨fun σ5 δ5 G5 H5 ⟨m', lt, q5⟩ t5 w5 sl5 => ⟨m', lt, δ5, G5, q5, t23.trans t5, w5, sl5⟩, fun d5 G5 v5 H5 q5 t5 w5 r5 => l.rt _ _ _ _ q5 (t23.trans t5) w5 r5,
      fun σ5 δ5 G5 H5 q5 t5 w5 sl5 => l.nx _ _ _ _ q5 (t23.trans t5) w5 sl5, fun σ5 δ5 G5 H5 ⟨m', lt, q5⟩ t5 w5 sl5 => ⟨m', lt, δ5, G5, q5, t23.trans t5, w5, sl5⟩⟩
end
end DD
namespace DD
open PySem PySem.W L2 SX Cm
/-! ### comprehensions -/
def wipeD (δ : DSt) : List Nat → DSt
  | [] => δ
  | v :: vs => (wipeD δ vs).set v none
theorem Sl.wipe {K : Frag} {H : Hp} {σ : St} {δ : DSt} (h : Sl K H σ δ) : ∀ vs : List Nat, Sl K H (L2.wipe σ vs) (wipeD δ vs)
  | [] => h
  | v :: vs => (Sl.wipe h vs).unset v
theorem set_comm' {α : Type} : ∀ (σ : List α) (i j : Nat) (x y : α), i ≠ j → (σ.set i x).set j y = (σ.set j y).set i x
  | [], _, _, _, _, _ => rfl
  | a :: r, 0, 0, _, _, h => absurd rfl h
  | a :: r, 0, j + 1, _, _, _ => rfl
  | a :: r, i + 1, 0, _, _, _ => rfl
  | a :: r, i + 1, j + 1, x, y, h => by
    show a :: _ = a :: _
    rw [set_comm' r i j x y (fun z => h (by rw [z]))]
theorem set_set' {α : Type} : ∀ (σ : List α) (i : Nat) (x y : α), (σ.set i x).set i y = σ.set i y
  | [], _, _, _ => rfl
  | a :: r, 0, _, _ => rfl
  | a :: r, i + 1, x, y => by
    show a :: _ = a :: _
    rw [set_set' r i x y]
theorem wipe_out (i : Nat) (x : Option V) : ∀ (vs : List Nat) (σ : St), i ∉ vs → wipe (σ.set i x) vs = (wipe σ vs).set i x
  | [], _, _ => rfl
  | v :: vs, σ, h => by
    have h1 : i ≠ v := fun z => h (by rw [z]; exact List.mem_cons_self ..)
    have h2 : i ∉ vs := fun z => h (List.mem_cons_of_mem _ z)
    show (wipe (σ.set i x) vs).set v none = ((wipe σ vs).set v none).set i x
    rw [wipe_out i x vs σ h2, set_comm' _ _ _ _ _ h1]
theorem wipe_in (i : Nat) (x : Option V) : ∀ (vs : List Nat) (σ : St), i ∈ vs → wipe (σ.set i x) vs = wipe σ vs
  | [], _, h => nomatch h
  | v :: vs, σ, h => by
    show (wipe (σ.set i x) vs).set v none = (wipe σ vs).set v none
    by_cases hi : i ∈ vs
    · rw [wipe_in i x vs σ hi]
    · rw [wipe_out i x vs σ hi]
      have e : i = v := by
        rcases List.mem_cons.mp h with e | e
        · exact e
        · exact absurd e hi
      rw [e, set_set']
theorem wipe_wipe (σ : St) : ∀ vs : List Nat, wipe (wipe σ vs) vs = wipe σ vs := fun vs => by
  have go : ∀ (ws vs : List Nat), (∀ v ∈ ws, v ∈ vs) → wipe (wipe σ ws) vs = wipe σ vs := by
    intro ws
    induction ws with
    | nil => intro vs _; rfl
    | cons w ws ih =>
      intro vs h
      show wipe ((wipe σ ws).set w none) vs = _
      rw [wipe_in w none vs _ (h w (List.mem_cons_self ..)), ih vs fun v hv => h v (List.mem_cons_of_mem _ hv)]
  exact go vs vs fun v hv => hv
/-- a target of a comprehension: slots alone -/
abbrev TL := DV → DSt → (DSt → Prop) → Prop
def LT (K : Frag) (vs : List Nat) (g : TG) (ld : TL) : Prop := ∀ v d σ δ H R Q, RV K H v d → Sl K H σ δ → ld d δ R → (∀ σ2 δ2, Sl K H σ2 δ2 → wipe σ2 vs = wipe σ vs → R δ2 → Q σ2 H) → g v σ H Q
def l1 (i : Nat) : TL := fun d δ R => R (δ.set i (some d))
def l2 (i j : Nat) : TL := fun d δ R => ∃ a b, d = .tup [a, b] ∧ R ((δ.set i (some a)).set j (some b))
def l3 (i j k : Nat) : TL := fun d δ R => ∃ a b c, d = .tup [a, b, c] ∧ R (((δ.set i (some a)).set j (some b)).set k (some c))
theorem lt1 {K : Frag} {vs : List Nat} {i : Nat} (h : i ∈ vs) : LT K vs (gName i) (l1 i) := fun v d σ δ H R Q r sl q f => f _ _ (sl.set r i) (wipe_in i _ vs σ h) q
theorem lt2 {K : Frag} {vs : List Nat} {i j : Nat} (h : i ∈ vs) (h' : j ∈ vs) : LT K vs (gTup K 2 (gCons (gName i) (gCons (gName j) gNil))) (l2 i j) := fun v d σ δ H R Q r sl ⟨a, b, e, q⟩ f => by
  subst e
  obtain ⟨p, xs, rfl, s, r⟩ := r.tupD
  cases r with
  | cons ra r =>
    cases r with
    | cons rb r =>
      cases r
      exact ⟨p, _, rfl, s, rfl, _, _, rfl, _, _, rfl, rfl, f _ _ ((sl.set ra i).set rb j) (by rw [wipe_in j _ vs _ h', wipe_in i _ vs _ h]) q⟩
theorem lt3 {K : Frag} {vs : List Nat} {i j k : Nat} (h : i ∈ vs) (h' : j ∈ vs) (h'' : k ∈ vs) : LT K vs (gTup K 3 (gCons (gName i) (gCons (gName j) (gCons (gName k) gNil)))) (l3 i j k) := fun v d σ δ H R Q r sl ⟨a, b, c, e, q⟩ f => by
  subst e
  obtain ⟨p, xs, rfl, s, r⟩ := r.tupD
  cases r with
  | cons ra r =>
    cases r with
    | cons rb r =>
      cases r with
      | cons rc r =>
        cases r
        exact ⟨p, _, rfl, s, rfl, _, _, rfl, _, _, rfl, _, _, rfl, rfl, f _ _ (((sl.set ra i).set rb j).set rc k) (by rw [wipe_in k _ vs _ h'', wipe_in j _ vs _ h', wipe_in i _ vs _ h]) q⟩
def dYes : TDT := fun _ G Q => Q true G
/-- a comprehension: the list that is made stands at p; Pv by the turn, what is made so far, the store -/
def dLc (ti : TDI) (ld : TL) (tt : TDT) (te : TD) (vs : List Nat) : TD := fun δ G Q => ti δ G fun ds st G1 => ∀ p, G1 p = none → ∃ Pv : Nat → List DV → DG → Prop, Pv 0 [] (dupd G1 p (.lst [])) ∧ (∀ i acc G, Pv i acc G → st G) ∧
  (∀ i d acc G, ds[i]? = some d → Pv i acc G → ld d (wipeD δ vs) fun δ2 => tt δ2 G fun b G3 => if b = true then te δ2 G3 fun y G4 => G4 p = some (.lst acc) ∧ acc.length < sizeLine ∧ Pv (i + 1) (acc ++ [y]) (dupd G4 p (.lst (acc ++ [y]))) else Pv (i + 1) acc G3) ∧
  (∀ acc G, Pv ds.length acc G → Q (.ref p) G)
theorem lc_up {K : Frag} {ti : TDI} {g : TG} {ld : TL} {tt : TDT} {te : TD} {vs : List Nat} (lt : LT K vs g ld) {σ : St} {H : Hp} {Q : VK} (h : up K (dLc ti ld tt te vs) σ H Q) : tLc (upI K ti) g (upT K tt) (up K te) vs σ H Q := by
  obtain ⟨δ, G, R, sl, w, h, f⟩ := h
  refine ⟨δ, G, _, sl, w, h, fun ds st G1 H1 J q t1 w1 j p np => ?_⟩
  obtain ⟨Pv, p0, pst, ps, pd⟩ := q p (w1.free np)
  have s0 : Same H1 (upd H1 p (.lst [])) := same_new np _
  refine ⟨fun i m H2 => ∃ acc G, Pv i acc G ∧ TKs K H1 H2 ∧ Wd K H2 G ∧ i ≤ ds.length ∧ m = ds.length - i, ⟨_, [], _, p0, TKs.of s0, w1.new np fun O => ⟨[], upd_same, .nil⟩, Nat.zero_le _, rfl⟩, ?_⟩
  rintro i m H2 ⟨acc, G2, p2, t2, w2, hi, rfl⟩
  by_cases hlt : i < ds.length
  · refine .inr ⟨j.go i H2 G2 t2 w2 (pst _ _ _ p2) hlt, fun H3 => ∃ acc G, Pv (i + 1) acc G ∧ TKs K H1 H3 ∧ Wd K H3 G, fun H3 ⟨acc3, G3, p3, t3, w3⟩ => ⟨_, by omega, acc3, G3, p3, t3, w3, hlt, rfl⟩, fun x H3 y => ?_⟩
    obtain ⟨s3, d, hd, rd⟩ := j.yld i H2 G2 x H3 t2 w2 (pst _ _ _ p2) hlt y
    have t3 := TKs.of (K := K) s3
    have t13 := t2.trans t3
    have w3 := w2.same s3
    refine lt x d _ (wipeD δ vs) H3 _ _ rd (((sl.mono t1).mono t13).wipe vs) (ps i d acc G2 hd p2) fun σ4 δ4 sl4 e4 q4 => ⟨by rw [e4]; exact wipe_wipe σ vs, δ4, G2, _, sl4, w3, q4, fun b G5 H5 q5 t5 w5 => ?_⟩
    have t15 := t13.trans t5
    cases b with
    | false => exact iteF ⟨acc, G5, q5, t15, w5⟩
    | true =>
      refine iteT ⟨δ4, G5, _, sl4.mono t5, w5, q5, fun y G6 vy H6 ⟨e6, l6, q6⟩ t6 w6 r6 => ?_⟩
      obtain ⟨us, hu, ru⟩ := wd_list w6 e6
      obtain ⟨t7, w7⟩ := put_lst w6 e6 hu (ru.append (.cons r6 .nil))
      exact ⟨us, hu, by rw [ru.len]; exact l6, _, _, q6, (t15.trans t6).trans t7, w7⟩
  · have e : i = ds.length := by omega
    subst e
    exact .inl ⟨j.stop _ H2 G2 t2 w2 (pst _ _ _ p2) rfl, f _ _ _ _ (pd _ _ p2) (t1.trans t2) w2 (.ref p)⟩
section
variable {X : Cx}
theorem de_lc {elt tg iter : Expr} {ifs : List Expr} {scope : Scope} {own : List (Str × Nat)} {pos : Pos} {ti : TDI} {g : TG} {ld : TL} {tt : TDT} {te : TD} (lt : LT X.K (own.map (·.2)) g ld) (hc : X.calm = true) (hN : X.N.Nodup) (hi : DI X tg iter ti) (ok : BlkOk X.N X.env.scope scope own)
    (hg : ∀ (s : Shared) (H : Hp) (C : Addr) (cl : List (Str × Addr)) (fp : List Addr), PG (X.blk s H scope (compEnvC scope cl C X.env) fp) tg g) (ht : ∀ (s : Shared) (H : Hp) (C : Addr) (cl : List (Str × Addr)) (fp : List Addr), PTs (X.blk s H scope (compEnvC scope cl C X.env) fp) ifs (upT X.K tt))
    (he : ∀ (s : Shared) (H : Hp) (C : Addr) (cl : List (Str × Addr)) (fp : List Addr), PE (X.blk s H scope (compEnvC scope cl C X.env) fp) elt (up X.K te)) (hs : ∀ x, foldedSetIterable iter X.env x = pure x := by intro _; rfl) :
    DE X (.ListComp elt [⟨tg, iter, ifs, 0⟩] scope pos) (dLc ti ld tt te (own.map (·.2))) := PE_mono (pe_lc hc hN hi ok hg ht he hs) fun σ H Q h => lc_up lt h
theorem ds_setLc {i : Nat} {y : Str} {py : Pos} {elt tg iter : Expr} {ifs : List Expr} {scope : Scope} {own : List (Str × Nat)} {pos spos : Pos} {ti : TDI} {g : TG} {ld : TL} {tt : TDT} {te : TD} (lt : LT X.K (own.map (·.2)) g ld) (hc : X.calm = true) (hN : X.N.Nodup) (hy : X.N[i]? = some y) (hyl : X.env.scope.names.lookup y = some .local)
    (hsw : swapsWith (.ListComp elt [⟨tg, iter, ifs, 0⟩] scope pos) (some (.Name y py)) spos.line X.env = pure true) (hi : DI X tg iter ti) (ok : BlkOk X.N X.env.scope scope own)
    (hg : ∀ (s : Shared) (H : Hp) (C : Addr) (cl : List (Str × Addr)) (fp : List Addr), PG (X.blk s H scope (compEnvC scope cl C X.env) fp) tg g) (ht : ∀ (s : Shared) (H : Hp) (C : Addr) (cl : List (Str × Addr)) (fp : List Addr), PTs (X.blk s H scope (compEnvC scope cl C X.env) fp) ifs (upT X.K tt))
    (he : ∀ (s : Shared) (H : Hp) (C : Addr) (cl : List (Str × Addr)) (fp : List Addr), PE (X.blk s H scope (compEnvC scope cl C X.env) fp) elt (up X.K te)) (hs : ∀ x, foldedSetIterable iter X.env x = pure x := by intro _; rfl) :
    DS X (.Assign [.Name y py] (.ListComp elt [⟨tg, iter, ifs, 0⟩] scope pos) spos) (dAsg (dLc ti ld tt te (own.map (·.2))) (gN i)) := PS_mono (ps_setLc hc hN hy hyl hsw hi ok hg ht he hs) fun D σ H ⟨D', δ, G, sl, w, l, h⟩ => by
  refine lc_up lt (Q := fun v H1 => gName i v σ H1 D.nx) ⟨δ, G, _, sl, w, h, fun d G1 v H1 q t1 w1 r1 => ?_⟩
  exact l.nx _ _ _ _ q t1 w1 ((sl.mono t1).set r1 i)
theorem dts_nil : PTs X [] (upT X.K dYes) := ⟨fun pins s σ H Q I ⟨δ, G, R, sl, w, h, f⟩ => pts_nil.run pins s σ H Q I (f _ _ _ h (TKs.refl H) w)⟩
theorem dts_one {c : Expr} {t : TDT} (h : DT X c t) : PTs X [c] (upT X.K t) := pts_one h
end
/-- elements that leave the store as it is -/
theorem lc_pure {ds : List DV} {st : DG → Prop} {ld : TL} {tt : TDT} {te : TD} {vs : List Nat} {δ : DSt} {G1 : DG} {Q : DK} (f : DV → Option DV) (hsc : ∀ p o, G1 p = none → st (dupd G1 p o)) (hl : ds.length ≤ 1000000)
    (h : ∀ d ∈ ds, ∀ (G : DG) (k1 : DK) (k0 : DG → Prop), (∃ p acc, G1 p = none ∧ G = dupd G1 p (.lst acc)) → (∀ y, f d = some y → k1 y G) → (f d = none → k0 G) →
      ld d (wipeD δ vs) fun δ2 => tt δ2 G fun b G3 => if b = true then te δ2 G3 k1 else k0 G3)
    (q : ∀ p, G1 p = none → Q (.ref p) (dupd G1 p (.lst (ds.filterMap f)))) :
    ∀ p, G1 p = none → ∃ Pv : Nat → List DV → DG → Prop, Pv 0 [] (dupd G1 p (.lst [])) ∧ (∀ i acc G, Pv i acc G → st G) ∧
      (∀ i d acc G, ds[i]? = some d → Pv i acc G → ld d (wipeD δ vs) fun δ2 => tt δ2 G fun b G3 => if b = true then te δ2 G3 fun y G4 => G4 p = some (.lst acc) ∧ acc.length < sizeLine ∧ Pv (i + 1) (acc ++ [y]) (dupd G4 p (.lst (acc ++ [y]))) else Pv (i + 1) acc G3) ∧
      (∀ acc G, Pv ds.length acc G → Q (.ref p) G) := by
  intro p np
  refine ⟨fun i acc G => acc = (ds.take i).filterMap f ∧ i ≤ ds.length ∧ G = dupd G1 p (.lst acc), ⟨rfl, Nat.zero_le _, rfl⟩, fun i acc G ⟨_, _, e⟩ => by rw [e]; exact hsc p _ np, ?_, ?_⟩
  · rintro i d acc G hd ⟨ea, hi, rfl⟩
    have hlt : i < ds.length := (List.getElem?_eq_some_iff.mp hd).1
    have et : ds.take (i + 1) = ds.take i ++ [d] := by rw [List.take_add_one, hd]; rfl
    have la : acc.length ≤ i := by rw [ea]; exact Nat.le_trans (List.length_filterMap_le _ _) (by rw [List.length_take]; omega)
    refine h d (List.mem_of_getElem? hd) _ _ _ ⟨p, acc, np, rfl⟩ (fun y hf => ?_) (fun hf => ?_)
    · refine ⟨dupd_same, midlt (by omega), ?_, hlt, dupd_dupd⟩
      rw [et, List.filterMap_append, ← ea]
      show acc ++ [y] = acc ++ List.filterMap f [d]
      rw [List.filterMap_cons_some hf]; rfl
    · refine ⟨?_, hlt, rfl⟩
      rw [et, List.filterMap_append, ← ea, List.filterMap_cons_none hf, List.filterMap_nil, List.append_nil]
  · rintro acc G ⟨ea, _, rfl⟩
    rw [ea, List.take_length]
    exact q p np
end DD
namespace DD
open PySem PySem.W L2 SX Cm
/-! ### defs -/
abbrev DSp := List DV → DG → DK → Prop
def toSp (K : Frag) (n : Nat) (dsp : DSp) : Sp := fun vs H Q _ => ∃ ds G R, RVs K H vs ds ∧ Wd K H G ∧ ds.length = n ∧ dsp ds G R ∧ Fin K H R Q
theorem _root_.PySem.W.L2.Fun.look {K : Frag} {x qual : Str} {st : Stmt} {f : Addr} {fd : FuncData} (F : Fun K x qual st f fd) : ∃ oc od osl, K.lookup f = some ⟨oc, od, .func fd, osl⟩ := by
  obtain ⟨oc, od, kV, doc, pm, an, cdv, ct, osl, rfl, lk, _⟩ := F.ex
  exact ⟨oc, od, osl, lk⟩
/-- the def nm keeps a promise about data, by level k -/
def Has (P : Program) (w : World) (K : Frag) (mg : Str → Option Value) (base : Heap) (k : Nat) (nm : Str) (ps : List Str) (dsp : DSp) : Prop :=
  ∃ f fd, FnOk P w K mg base CX0 k f fd ps (toSp K ps.length dsp) ∧ L2.Binds K fd ps [] ∧ keepIn K (.ref f) = true ∧ mg nm = some (.ref f) ∧ ∃ oc od osl, K.lookup f = some ⟨oc, od, .func fd, osl⟩
section
variable {P : Program} {w : World} {K : Frag} {mg : Str → Option Value} {base : Heap} {k : Nat} {nm : Str} {ps : List Str} {dsp : DSp}
theorem Has.mono {j : Nat} (h : Has P w K mg base k nm ps dsp) (l : k ≤ j) : Has P w K mg base j nm ps dsp := by
  obtain ⟨f, fd, a, b⟩ := h
  exact ⟨f, fd, a.mono l, b⟩
/-- many promises of one def -/
theorem Has.any {ι : Type} [ne : Nonempty ι] {d : ι → DSp} (h : ∀ i, Has P w K mg base k nm ps (d i)) : Has P w K mg base k nm ps (fun ds G R => ∃ i, d i ds G R) := by
  obtain ⟨i0⟩ := ne
  obtain ⟨f, fd, a, b, kp, m, oc, od, osl, lk⟩ := h i0
  have all : ∀ i, FnOk P w K mg base CX0 k f fd ps (toSp K ps.length (d i)) := fun i => by
    obtain ⟨f', fd', a', b', kp', m', oc', od', osl', lk'⟩ := h i
    rw [m] at m'
    cases m'
    rw [lk] at lk'
    cases lk'
    exact a'
  refine ⟨f, fd, ⟨fun vs H Q E ⟨ds, G, R, r, w, l, ⟨i, h⟩, f⟩ => (all i).len vs H Q E ⟨ds, G, R, r, w, l, h, f⟩, fun A outer s H args us vs Q E hr he hb hv ⟨ds, G, R, r, w, l, ⟨i, h⟩, f⟩ => (all i).run A outer s H args us vs Q E hr he hb hv ⟨ds, G, R, r, w, l, h, f⟩⟩, b, kp, m, oc, od, osl, lk⟩
theorem Has.imp {dsp' : DSp} (h : Has P w K mg base k nm ps dsp) (i : ∀ ds G R, dsp' ds G R → dsp ds G R) : Has P w K mg base k nm ps dsp' := by
  obtain ⟨f, fd, a, b⟩ := h
  exact ⟨f, fd, a.imp fun vs H Q E ⟨ds, G, R, r, w, l, h, f⟩ => ⟨ds, G, R, r, w, l, i ds G R h, f⟩, b⟩
end
section
variable {X : Cx} {k : Nat} {nm : Str} {ps : List Str} {dsp : DSp} {e : Expr} {es : List Expr} {ts : TDA} {p pos : Pos}
def dCall (n : Nat) (dsp : DSp) (t : TDA) : TD := fun δ G Q => t δ G fun ds G1 => ds.length = n ∧ dsp ds G1 Q
theorem de_call (h : Has X.prog X.w X.K X.mg X.base k nm ps dsp) (hr : Room k X.A) (hg : Gl X nm) (ha : DA X (e :: es) ts) (hdb : (nm == ("__debug__" : Str)) = false := by decide) (he : starEach (e :: es) X.env = (false, eval e X.env) :: starEach es X.env := by rfl) (hpl : (backTo pos (starEach es X.env)).any (·.1) = false := by rfl) :
    DE X (.Call (.Name nm p) (e :: es) [] pos) (dCall ps.length dsp ts) := by
  obtain ⟨f, fd, F, b, kp, m, _⟩ := h
  refine PE_mono (pe_call F hr hg m kp b .nil (pass0 (X := X)) ha hdb he hpl) fun σ H Q ⟨δ, G, R, sl, w, h, f⟩ => ⟨δ, G, _, sl, w, h, fun ds G1 vs H1 h1 t1 w1 r1 => ?_⟩
  show toSp X.K ps.length dsp (vs ++ []) H1 Q E0
  rw [List.append_nil]
  exact ⟨ds, G1, R, r1, w1, h1.1, h1.2, f.step t1⟩
end
def dstart (N : List Str) (ds : List DV) : DSt := ds.map some ++ List.replicate (N.length - ds.length) none
theorem Sl.nones {K : Frag} {H : Hp} : ∀ n : Nat, Sl K H (List.replicate n none) (List.replicate n none)
  | 0 => .nil
  | n + 1 => .non (Sl.nones n)
theorem Sl.somes {K : Frag} {H : Hp} {σ : St} {δ : DSt} (h : Sl K H σ δ) : ∀ {vs : List V} {ds : List DV}, RVs K H vs ds → Sl K H (vs.map some ++ σ) (ds.map some ++ δ)
  | _, _, .nil => h
  | _, _, .cons r t => .cons r (Sl.somes h t)
theorem sl_start {K : Frag} {H : Hp} {N : List Str} {vs : List V} {ds : List DV} (r : RVs K H vs ds) : Sl K H (L2.start N vs) (dstart N ds) := by
  unfold L2.start dstart
  rw [r.len]
  exact Sl.somes (Sl.nones _) r
/-- what is told of the store behind a def: less than is known -/
def Less (R : DK) : DK := fun d G => ∃ G', Sub G' G ∧ R d G'
theorem Less.of {R : DK} {d : DV} {G : DG} (h : R d G) : Less R d G := ⟨G, Sub.refl G, h⟩
section
variable {P : Program} {w : World} {K : Frag} {mg : Str → Option Value} {base : Heap}
theorem links_def {H : Hp} {R : DK} {Q : VK} (f : Fin K H R Q) : Links K H { nx := fun _ G => Less R .non G, rt := Less R } { nx := fun _ H' => Q .non H', rt := Q } :=
  ⟨fun σ δ G H' ⟨G', s, r⟩ t w sl => f _ G' _ H' r t (w.sub s) .non, fun d G v H' ⟨G', s, r⟩ t w rv => f _ G' _ H' r t (w.sub s) rv, fun _ _ _ _ h => h.elim, fun _ _ _ _ h => h.elim⟩
/-- a def by its body, over data -/
theorem has_mk {nm : Str} {st : Stmt} {f : Addr} {fd : FuncData} {N ps : List Str} {k : Nat} {dsp : DSp} (F : Fun K nm nm st f fd) (b : L2.Binds K fd ps []) (m : mg nm = some (.ref f)) (S : FnScope N ps (defScope st))
    (body : ∀ (cdv : Value) (A : Around) (outer : List Env) (s : Shared) (H : Hp) (E : XK), Room k (A.deeper (PyProof.Rows.envOfC nm (defScope st) s.heap.objs.size f cdv)) → ∀ ds G R, ds.length = ps.length → dsp ds G R →
      ∃ t, DSs (cxOf CX0 P w K mg base N nm (defScope st) f cdv A outer s H E).nox (defBody st) t ∧ t { nx := fun _ G => Less R .non G, rt := Less R } (dstart N ds) G) : Has P w K mg base (k + 1) nm ps dsp := by
  refine ⟨f, fd, F.ok S (fun vs H Q E h => ?_) (fun cdv A outer s H vs Q E hr h => ?_), b, F.kp, m, F.look⟩
  · obtain ⟨ds, G, R, r, w, l, _⟩ := h
    rw [r.len]; exact l
  · obtain ⟨ds, G, R, r, wd, l, h, fin⟩ := h
    obtain ⟨t, h1, h2⟩ := body cdv A outer s H E hr ds G R l h
    exact ⟨_, h1, _, _, G, sl_start r, wd, links_def fin, h2⟩
end
/-! ### things of which only something is known -/
theorem Wd.abs_keep {K : Frag} {H H' : Hp} {G : DG} {d : Addr} {L : List Addr} {φ : Hp → Prop} (w : Wd K H G) (e : G d = some (.abs L φ)) (kp : Kp L H H') (t : TKs K H H') (hφ : φ H') (hl : ∀ b ∈ L, ∃ xs, H' b = some (.lst xs)) : Wd K H' G := by
  obtain ⟨O, w⟩ := w
  obtain ⟨md, _, _, loc, ow⟩ := w.ob d _ e
  have nL : ∀ a o, G a = some o → a ≠ d → a ∉ L := fun a o ea ne m => by
    have := ow a m ne
    have := (w.own a d this).1
    rw [ea] at this; cases this
  have nO : ∀ b a, O b = some a → a ≠ d → b ∉ L := fun b a eb ne m => by
    by_cases hbd : b = d
    · have := (w.own b a eb).1
      rw [hbd, e] at this; cases this
    · have := ow b m hbd
      rw [eb] at this
      exact ne (Option.some.inj this)
  refine ⟨O, ⟨fun b a eb => ?_, fun a o ea => ?_⟩⟩
  · obtain ⟨h1, xs, h2⟩ := w.own b a eb
    by_cases had : a = d
    · by_cases hm : b ∈ L
      · exact ⟨h1, hl b hm⟩
      · exact ⟨h1, xs, kp b _ hm h2⟩
    · exact ⟨h1, xs, kp b _ (nO b a eb had) h2⟩
  · by_cases had : a = d
    · subst had
      rw [e] at ea
      cases ea
      exact ⟨md, hl a md, hφ, loc, ow⟩
    · refine OR.keep w t ea fun b hb => ?_
      obtain ⟨u, hu, nb⟩ : ∃ u, H b = some u ∧ b ∉ L := by
        rcases hb with rfl | hb
        · obtain ⟨u, hu⟩ := (w.ob _ o ea).some
          exact ⟨u, hu, nL _ o ea had⟩
        · obtain ⟨_, xs, h⟩ := w.own b a hb
          exact ⟨_, h, nO b a hb had⟩
      rw [hu, kp b u nb hu]
/-- nothing but one thing is known -/
theorem wd_one {K : Frag} {H : Hp} {d : Addr} {L : List Addr} {φ : Hp → Prop} (md : d ∈ L) (hφ : φ H) (hl : ∀ b ∈ L, ∃ xs, H b = some (.lst xs)) (loc : ∀ H1 H2, (∀ b ∈ L, H1 b = H2 b) → φ H1 → φ H2) : Wd K H (dupd (fun _ => none) d (.abs L φ)) := by
  refine ⟨fun b => if b ∈ L ∧ b ≠ d then some d else none, ⟨fun b a e => ?_, fun a o e => ?_⟩⟩
  · by_cases h : b ∈ L ∧ b ≠ d
    · exact ⟨dupd_ne h.2, hl b h.1⟩
    · rw [if_neg h] at e; cases e
  · by_cases had : a = d
    · subst had
      rw [dupd_same] at e
      cases e
      exact ⟨md, hl a md, hφ, loc, fun b hb hbd => if_pos ⟨hb, hbd⟩⟩
    · rw [dupd_ne had] at e; cases e
end DD
namespace PySem
open Sem (wp)
open AutoSeq1 (wpAny_loadPart')
end PySem
namespace DD
open PySem PySem.W L2 SX Cm PyProof.Rows
section
variable {X : Cx} {elts : List Expr} {kk : Nat} {tpos : Pos}
/-- enumerate of a tuple -/
def dIEnumT (t : TDA) : TDI := fun δ G R => t δ G fun xs G1 => ∃ ds, xs = [.tup ds] ∧ R (nmbd ds) (fun _ => True) G1
end
end DD
namespace PySem.W
open PySem PySem.Calls PyProof.Rows
end PySem.W
namespace DD
open PySem PySem.W L2 SX Cm PyProof.Rows
end DD
namespace DD
open PySem PySem.W L2 SX Cm
/-- the names of built-ins are still theirs -/
structure BI (mg : Str → Option Value) : Prop where
  len : mg "len" = none
  isi : mg "isinstance" = none
  int : mg "int" = none
  str : mg "str" = none
  tup : mg "tuple" = none
  lst : mg "list" = none
  bool : mg "bool" = none
  dct : mg "dict" = none
  all : mg "all" = none
  any : mg "any" = none
  sum : mg "sum" = none
  sorted : mg "sorted" = none
  set : mg "set" = none
  range : mg "range" = none
  enum : mg "enumerate" = none
  zip : mg "zip" = none
  rev : mg "reversed" = none
/-- the def nm stands at its place -/
def At (K : Frag) (mg : Str → Option Value) (nm : Str) (st : Stmt) (ps : List Str) : Prop := ∃ f fd, Fun K nm nm st f fd ∧ L2.Binds K fd ps [] ∧ mg nm = some (.ref f)
section
variable {P : Program} {w : World} {K : Frag} {mg : Str → Option Value} {base : Heap}
theorem at_mk {nm : Str} {st : Stmt} {N ps : List Str} {k : Nat} {dsp : DSp} (a : At K mg nm st ps) (S : FnScope N ps (defScope st))
    (body : ∀ (f : Addr) (cdv : Value) (A : Around) (outer : List Env) (s : Shared) (H : Hp) (E : XK), Room k (A.deeper (PyProof.Rows.envOfC nm (defScope st) s.heap.objs.size f cdv)) → ∀ ds G R, ds.length = ps.length → dsp ds G R →
      ∃ t, DSs (cxOf CX0 P w K mg base N nm (defScope st) f cdv A outer s H E).nox (defBody st) t ∧ t { nx := fun _ G => Less R .non G, rt := Less R } (dstart N ds) G) : Has P w K mg base (k + 1) nm ps dsp := by
  obtain ⟨f, fd, F, b, m⟩ := a
  exact has_mk F b m S (body f)
/-- a promise about the heap gives one about data -/
theorem has_of {nm : Str} {st : Stmt} {ps : List Str} {k : Nat} {sp : Sp} {dsp : DSp} (a : At K mg nm st ps) (h : ∀ f fd, Fun K nm nm st f fd → FnOk P w K mg base CX0 k f fd ps sp) (i : ∀ vs H Q E, toSp K ps.length dsp vs H Q E → sp vs H Q E) : Has P w K mg base k nm ps dsp := by
  obtain ⟨f, fd, F, b, m⟩ := a
  exact ⟨f, fd, (h f fd F).imp i, b, F.kp, m, F.look⟩
end
section
variable {X : Cx}
theorem dv (i : Nat) {x : Str} {pos : Pos} (hN : X.N[i]? = some x := by rfl) (hv : Vis X.env.scope x := by first | exact Or.inl rfl | exact Or.inr (Or.inl rfl) | exact Or.inr (Or.inr rfl)) (hd : (x == ("__debug__" : Str)) = false := by decide)
    (hcd : (x == ("__classdict__" : Str)) = false := by decide) : DE X (.Name x pos) (dVar i) := de_var hN hv hd hcd
/-- reversed(range(n)) -/
def dIRevR (t : TDA) : TDI := fun δ G R => t δ G fun ds G1 => ∃ j : Int, ds = [.int j] ∧ 0 ≤ j ∧ j < 2 ^ 62 ∧ R (rng 0 j.toNat).reverse (fun _ => True) G1
end
end DD
/-! things, words and rows as they are, and as data -/
namespace DD
open PySem PySem.W L2 SX Cm
theorem ly1 {i : Nat} {d : DV} {δ : DSt} {G : DG} {k : DSt → Bool → DG → Prop} (h : k (δ.set i (some d)) true G) : l1 i d δ (fun δ2 => dYes δ2 G (k δ2)) := h
theorem ly2 {i j : Nat} {a b : DV} {δ : DSt} {G : DG} {k : DSt → Bool → DG → Prop} (h : k ((δ.set i (some a)).set j (some b)) true G) : l2 i j (.tup [a, b]) δ (fun δ2 => dYes δ2 G (k δ2)) := ⟨a, b, rfl, h⟩
theorem lt1' {i : Nat} {d : DV} {δ : DSt} {k : DSt → Prop} (h : k (δ.set i (some d))) : l1 i d δ k := h
theorem Sub.at_ {G G' : DG} {p : Addr} {o : DO} (s : Sub G G') (h : G' p = some o) : Sub (dupd G p o) G' := fun a u e => by
  by_cases z : a = p
  · subst z; rw [dupd_same] at e; rw [h]; exact e
  · rw [dupd_ne z] at e; exact s a u e
theorem Sub.nonew {G G' : DG} {p : Addr} (s : Sub G G') (n : G' p = none) : G p = none := by
  cases e : G p with
  | none => rfl
  | some o => rw [s p o e] at n; cases n
theorem ne_some {G : DG} {a b : Addr} {o : DO} (h : G a = some o) (n : G b = none) : a ≠ b := fun z => by rw [z, n] at h; cases h
theorem sz1 : (1 : Nat) ≤ sizeLine := by decide
mutual
inductive Th where
  | num (n : Int)
  | row (ws : List Wo)
  | lst (ts : List Th)
inductive Wo where
  | txt (z : Str)
  | push (t : Th)
end
mutual
def eT : Th → DV
  | .num n => .tup [.str "number", .int n]
  | .row ws => .tup [.str "row", .tup (eWs ws)]
  | .lst ts => .tup [.str "list", .tup (eTs ts)]
def eW : Wo → DV
  | .txt z => .str z
  | .push t => .tup [.str "push", eT t]
def eWs : List Wo → List DV
  | [] => []
  | w :: r => eW w :: eWs r
def eTs : List Th → List DV
  | [] => []
  | t :: r => eT t :: eTs r
end
mutual
/-- how many parts in all -/
def szT : Th → Nat
  | .num _ => 1
  | .row ws => 1 + szWs ws
  | .lst ts => 1 + szTs ts
def szW : Wo → Nat
  | .txt _ => 1
  | .push t => 1 + szT t
def szWs : List Wo → Nat
  | [] => 0
  | w :: r => szW w + szWs r
def szTs : List Th → Nat
  | [] => 0
  | t :: r => szT t + szTs r
end
mutual
def dpT : Th → Nat
  | .num _ => 0
  | .row ws => 1 + dpWs ws
  | .lst ts => 1 + dpTs ts
def dpW : Wo → Nat
  | .txt _ => 0
  | .push t => dpT t
def dpWs : List Wo → Nat
  | [] => 0
  | w :: r => max (dpW w) (dpWs r)
def dpTs : List Th → Nat
  | [] => 0
  | t :: r => max (dpT t) (dpTs r)
end
mutual
/-- its texts are texts -/
def txT : Th → Bool
  | .num _ => true
  | .row ws => txWs ws
  | .lst ts => txTs ts
def txW : Wo → Bool
  | .txt z => PyData.strOk z
  | .push t => txT t
def txWs : List Wo → Bool
  | [] => true
  | w :: r => txW w && txWs r
def txTs : List Th → Bool
  | [] => true
  | t :: r => txT t && txTs r
end
theorem eWs_len : ∀ ws, (eWs ws).length = ws.length
  | [] => rfl
  | w :: r => congrArg (· + 1) (eWs_len r)
theorem eTs_len : ∀ ws, (eTs ws).length = ws.length
  | [] => rfl
  | w :: r => congrArg (· + 1) (eTs_len r)
theorem eWs_map : ∀ ws, eWs ws = ws.map eW
  | [] => rfl
  | w :: r => by show eW w :: eWs r = _; rw [eWs_map r]; rfl
theorem eTs_map : ∀ ws, eTs ws = ws.map eT
  | [] => rfl
  | w :: r => by show eT w :: eTs r = _; rw [eTs_map r]; rfl
theorem szW_pos : ∀ w, 1 ≤ szW w
  | .txt _ => Nat.le_refl 1
  | .push t => by show 1 ≤ 1 + _; omega
theorem szT_pos : ∀ t, 1 ≤ szT t
  | .num _ => Nat.le_refl 1
  | .row _ => by show 1 ≤ 1 + _; omega
  | .lst _ => by show 1 ≤ 1 + _; omega
theorem szWs_len : ∀ ws, ws.length ≤ szWs ws
  | [] => Nat.le_refl 0
  | w :: r => by have := szW_pos w; have := szWs_len r; show r.length + 1 ≤ szW w + szWs r; omega
theorem szTs_len : ∀ ws, ws.length ≤ szTs ws
  | [] => Nat.le_refl 0
  | w :: r => by have := szT_pos w; have := szTs_len r; show r.length + 1 ≤ szT w + szTs r; omega
theorem szWs_app : ∀ a b, szWs (a ++ b) = szWs a + szWs b
  | [], b => (Nat.zero_add _).symm
  | w :: r, b => by show szW w + szWs (r ++ b) = szW w + szWs r + szWs b; rw [szWs_app r b]; omega
theorem szTs_app : ∀ a b, szTs (a ++ b) = szTs a + szTs b
  | [], b => (Nat.zero_add _).symm
  | w :: r, b => by show szT w + szTs (r ++ b) = szT w + szTs r + szTs b; rw [szTs_app r b]; omega
theorem dpWs_app : ∀ a b, dpWs (a ++ b) = max (dpWs a) (dpWs b)
  | [], b => by show dpWs b = max 0 _; omega
  | w :: r, b => by show max (dpW w) (dpWs (r ++ b)) = max (max (dpW w) (dpWs r)) (dpWs b); rw [dpWs_app r b]; omega
theorem dpTs_app : ∀ a b, dpTs (a ++ b) = max (dpTs a) (dpTs b)
  | [], b => by show dpTs b = max 0 _; omega
  | w :: r, b => by show max (dpT w) (dpTs (r ++ b)) = max (max (dpT w) (dpTs r)) (dpTs b); rw [dpTs_app r b]; omega
/-- a row, a thing: not too deep, not too large, of texts -/
structure GW (k m : Nat) (ws : List Wo) : Prop where
  dp : dpWs ws ≤ k
  sz : szWs ws ≤ m
  tx : txWs ws = true
structure GT (k m : Nat) (t : Th) : Prop where
  dp : dpT t ≤ k
  sz : szT t ≤ m
  tx : txT t = true
structure GTs (k m : Nat) (ts : List Th) : Prop where
  dp : dpTs ts ≤ k
  sz : szTs ts ≤ m
  tx : txTs ts = true
theorem GW.nil {k m : Nat} : GW k m [] := ⟨Nat.zero_le _, Nat.zero_le _, rfl⟩
theorem GTs.nil {k m : Nat} : GTs k m [] := ⟨Nat.zero_le _, Nat.zero_le _, rfl⟩
theorem GW.txt {k : Nat} {z : Str} (h : PyData.strOk z = true) : GW k 1 [.txt z] := ⟨by show max 0 0 ≤ k; omega, Nat.le_refl 1, by show (PyData.strOk z && true) = true; rw [h]; rfl⟩
theorem GW.push {k m : Nat} {t : Th} (h : GT k m t) : GW k (m + 1) [.push t] := ⟨by show max (dpT t) 0 ≤ k; have := h.dp; omega, by show 1 + szT t + 0 ≤ m + 1; have := h.sz; omega, by show (txT t && true) = true; rw [h.tx]; rfl⟩
theorem GTs.one {k m : Nat} {t : Th} (h : GT k m t) : GTs k m [t] := ⟨by show max (dpT t) 0 ≤ k; have := h.dp; omega, by show szT t + 0 ≤ m; have := h.sz; omega, by show (txT t && true) = true; rw [h.tx]; rfl⟩
theorem GT.num {k m : Nat} (n : Int) (hm : 1 ≤ m) : GT k m (.num n) := ⟨Nat.zero_le _, hm, rfl⟩
theorem GT.row {k m : Nat} {ws : List Wo} (h : GW k m ws) : GT (k + 1) (m + 1) (.row ws) := ⟨by show 1 + dpWs ws ≤ _; have := h.dp; omega, by show 1 + szWs ws ≤ _; have := h.sz; omega, h.tx⟩
theorem GT.lst {k m : Nat} {ts : List Th} (h : GTs k m ts) : GT (k + 1) (m + 1) (.lst ts) := ⟨by show 1 + dpTs ts ≤ _; have := h.dp; omega, by show 1 + szTs ts ≤ _; have := h.sz; omega, h.tx⟩
/-! comparing them -/
theorem ok_number : PyData.strOk "number" = true := by decide +kernel
theorem ok_row : PyData.strOk "row" = true := by decide +kernel
theorem ok_list : PyData.strOk "list" = true := by decide +kernel
theorem ok_push : PyData.strOk "push" = true := by decide +kernel
mutual
theorem eT_cmp : ∀ t, plain (eT t) = true ∧ dpt (eT t) ≤ 3 * dpT t + 1 ∧ (txT t = true → txB (eT t) = true)
  | .num n => ⟨rfl, by show 1 + max 0 (max 0 0) ≤ _; omega, fun _ => by show (PyData.strOk "number" && (true && true)) = true; rw [ok_number]; rfl⟩
  | .row ws => by
    obtain ⟨a, b, c⟩ := eWs_cmp ws
    refine ⟨by show (true && (plains (eWs ws) && true)) = true; rw [a]; rfl, by show 1 + max 0 (max (1 + dpts (eWs ws)) 0) ≤ 3 * (1 + dpWs ws) + 1; omega, fun h => ?_⟩
    show (PyData.strOk "row" && (txBs (eWs ws) && true)) = true
    rw [ok_row, c h]; rfl
  | .lst ts => by
    obtain ⟨a, b, c⟩ := eTs_cmp ts
    refine ⟨by show (true && (plains (eTs ts) && true)) = true; rw [a]; rfl, by show 1 + max 0 (max (1 + dpts (eTs ts)) 0) ≤ 3 * (1 + dpTs ts) + 1; omega, fun h => ?_⟩
    show (PyData.strOk "list" && (txBs (eTs ts) && true)) = true
    rw [ok_list, c h]; rfl
theorem eW_cmp : ∀ w, plain (eW w) = true ∧ dpt (eW w) ≤ 3 * dpW w + 2 ∧ (txW w = true → txB (eW w) = true)
  | .txt z => ⟨rfl, by show 0 ≤ _; omega, fun h => h⟩
  | .push t => by
    obtain ⟨a, b, c⟩ := eT_cmp t
    refine ⟨by show (true && (plain (eT t) && true)) = true; rw [a]; rfl, by show 1 + max 0 (max (dpt (eT t)) 0) ≤ 3 * dpT t + 2; omega, fun h => ?_⟩
    show (PyData.strOk "push" && (txB (eT t) && true)) = true
    rw [ok_push, c h]; rfl
theorem eWs_cmp : ∀ ws, plains (eWs ws) = true ∧ dpts (eWs ws) ≤ 3 * dpWs ws + 2 ∧ (txWs ws = true → txBs (eWs ws) = true)
  | [] => ⟨rfl, Nat.zero_le _, fun _ => rfl⟩
  | w :: r => by
    obtain ⟨a, b, c⟩ := eW_cmp w
    obtain ⟨a', b', c'⟩ := eWs_cmp r
    refine ⟨by show (plain (eW w) && plains (eWs r)) = true; rw [a, a']; rfl, by show max (dpt (eW w)) (dpts (eWs r)) ≤ 3 * max (dpW w) (dpWs r) + 2; omega, fun h => ?_⟩
    have h' : (txW w && txWs r) = true := h
    rw [Bool.and_eq_true] at h'
    show (txB (eW w) && txBs (eWs r)) = true
    rw [c h'.1, c' h'.2]; rfl
theorem eTs_cmp : ∀ ws, plains (eTs ws) = true ∧ dpts (eTs ws) ≤ 3 * dpTs ws + 1 ∧ (txTs ws = true → txBs (eTs ws) = true)
  | [] => ⟨rfl, Nat.zero_le _, fun _ => rfl⟩
  | w :: r => by
    obtain ⟨a, b, c⟩ := eT_cmp w
    obtain ⟨a', b', c'⟩ := eTs_cmp r
    refine ⟨by show (plain (eT w) && plains (eTs r)) = true; rw [a, a']; rfl, by show max (dpt (eT w)) (dpts (eTs r)) ≤ 3 * max (dpT w) (dpTs r) + 1; omega, fun h => ?_⟩
    have h' : (txT w && txTs r) = true := h
    rw [Bool.and_eq_true] at h'
    show (txB (eT w) && txBs (eTs r)) = true
    rw [c h'.1, c' h'.2]; rfl
end
theorem mem_szT {w : Th} : ∀ {ws : List Th}, w ∈ ws → szT w ≤ szTs ws ∧ dpT w ≤ dpTs ws ∧ (txTs ws = true → txT w = true)
  | a :: r, h => by
    rcases List.mem_cons.mp h with rfl | h
    · refine ⟨by show szT w ≤ szT w + szTs r; omega, by show dpT w ≤ max (dpT w) (dpTs r); omega, fun g => ?_⟩
      have g' : (txT w && txTs r) = true := g
      rw [Bool.and_eq_true] at g'; exact g'.1
    · obtain ⟨x, y, z⟩ := mem_szT h
      refine ⟨by show szT w ≤ szT a + szTs r; omega, by show dpT w ≤ max (dpT a) (dpTs r); omega, fun g => ?_⟩
      have g' : (txT a && txTs r) = true := g
      rw [Bool.and_eq_true] at g'; exact z g'.2
end DD
/-! readings gone through step by step: one rule for each head -/
namespace DD
open PySem PySem.W L2 SX Cm
section
variable {nx : DSt → DG → Prop} {rt : DK} {bk ct : DSt → DG → Prop} {δ : DSt} {G : DG} {t u : TDS} {Q : DK} {QB : Bool → DG → Prop} {QA : List DV → DG → Prop} {te ta tb tc : TD} {tt tu : TDT} {ts : TDA}
theorem w_next (h : nx δ G) : dNext ⟨nx, rt, bk, ct⟩ δ G := h
theorem w_seq (h : t ⟨u ⟨nx, rt, bk, ct⟩, rt, bk, ct⟩ δ G) : dSeq t u ⟨nx, rt, bk, ct⟩ δ G := h
theorem w_break (h : bk δ G) : dBreak ⟨nx, rt, bk, ct⟩ δ G := h
theorem w_cont (h : ct δ G) : dCont ⟨nx, rt, bk, ct⟩ δ G := h
theorem w_drop (h : te δ G fun _ G1 => nx δ G1) : dDrop te ⟨nx, rt, bk, ct⟩ δ G := h
theorem w_ret (h : te δ G rt) : dRet te ⟨nx, rt, bk, ct⟩ δ G := h
theorem w_retN (h : rt .non G) : dRetN ⟨nx, rt, bk, ct⟩ δ G := h
theorem w_ifS {c : TDT} (h : c δ G fun b G1 => if b = true then t ⟨nx, rt, bk, ct⟩ δ G1 else u ⟨nx, rt, bk, ct⟩ δ G1) : dIfS c t u ⟨nx, rt, bk, ct⟩ δ G := h
theorem w_asg {i : Nat} (h : te δ G fun d G1 => nx (δ.set i (some d)) G1) : dAsg te (gN i) ⟨nx, rt, bk, ct⟩ δ G := h
theorem w_asgS (h : te δ G fun v G1 => ta δ G1 fun o G2 => tb δ G2 fun i G3 => bSet o i v G3 fun G4 => nx δ G4) : dAsg te (gSb ta tb) ⟨nx, rt, bk, ct⟩ δ G := h
theorem w_par {i j : Nat} (h : ts δ G fun ds G1 => ∃ a b, ds = [a, b] ∧ nx ((δ.set i (some a)).set j (some b)) G1) : dPar i j ts ⟨nx, rt, bk, ct⟩ δ G := h
theorem w_parE {k : DV → DV → Prop} {a b : DV} (h : k a b) : ∃ a' b', [a, b] = [a', b'] ∧ k a' b' := ⟨a, b, rfl, h⟩
/-! expressions -/
theorem w_var {i : Nat} {d : DV} (h : δ[i]? = some (some d)) (q : Q d G) : dVar i δ G Q := ⟨d, h, q⟩
theorem w_c {d : DV} (q : Q d G) : dC d δ G Q := q
theorem w_op {b : D2} (h : ta δ G fun x G1 => tb δ G1 fun y G2 => b x y G2 Q) : dOp b ta tb δ G Q := h
theorem w_call {n : Nat} {sp : DSp} (h : ts δ G fun ds G1 => ds.length = n ∧ sp ds G1 Q) : dCall n sp ts δ G Q := h
theorem w_len {n : Nat} {ds : List DV} {A : Prop} (h : A) (e : ds.length = n := by rfl) : ds.length = n ∧ A := ⟨e, h⟩
theorem w_CB {b : DC} (h : ts δ G fun ds G1 => b ds G1 Q) : dCB b ts δ G Q := h
theorem w_tup (h : ts δ G fun ds G1 => ds.length ≤ sizeLine ∧ Q (.tup ds) G1) : dTup ts δ G Q := h
theorem w_lst (h : ts δ G fun ds G1 => ds.length ≤ sizeLine ∧ ∀ p, G1 p = none → Q (.ref p) (dupd G1 p (.lst ds))) : dLst ts δ G Q := h
theorem w_sz {ds : List DV} {A : Prop} (h : A) (e : ds.length ≤ sizeLine := by decide) : ds.length ≤ sizeLine ∧ A := ⟨e, h⟩
theorem w_nil (h : QA [] G) : dNil δ G QA := h
theorem w_cons (h : te δ G fun x G1 => ts δ G1 fun xs G2 => QA (x :: xs) G2) : dCons te ts δ G QA := h
theorem w_sl {tl th : TDO} (h : te δ G fun x G1 => tl δ G1 fun l G2 => th δ G2 fun u G3 => bSl x l u G3 Q) : dSl te tl th δ G Q := h
theorem w_none {QO : Option Int → DG → Prop} (h : QO none G) : dNone δ G QO := h
theorem w_some {QO : Option Int → DG → Prop} (h : te δ G fun d G' => ∃ i, d = .int i ∧ QO (some i) G') : dSome te δ G QO := h
theorem w_exI {k : Int → Prop} {i : Int} (h : k i) : ∃ j, DV.int i = .int j ∧ k j := ⟨i, rfl, h⟩
theorem w_exB {k : Bool → Prop} {i : Bool} (h : k i) : ∃ j, DV.bl i = .bl j ∧ k j := ⟨i, rfl, h⟩
theorem w_exT {k : List DV → Prop} {i : List DV} (h : k i) : ∃ j, DV.tup i = .tup j ∧ k j := ⟨i, rfl, h⟩
theorem w_exS {k : Str → Prop} {i : Str} (h : k i) : ∃ j, DV.str i = .str j ∧ k j := ⟨i, rfl, h⟩
theorem w_rev (h : te δ G fun x G1 => ∃ ds, x = .tup ds ∧ Q (.tup ds.reverse) G1) : dRev te δ G Q := h
theorem w_neg (h : te δ G fun x G1 => ∃ i, x = .int i ∧ Q (.int (-i)) G1) : dNeg te δ G Q := h
theorem w_ifE (h : tt δ G fun c G1 => if c = true then ta δ G1 Q else tb δ G1 Q) : dIf tt ta tb δ G Q := h
theorem w_andV (h : ta δ G fun x G1 => ∃ c, x = .bl c ∧ if c = true then tb δ G1 Q else Q (.bl false) G1) : dAndV ta tb δ G Q := h
theorem w_orV (h : ta δ G fun x G1 => ∃ c, x = .bl c ∧ if c = true then Q (.bl true) G1 else tb δ G1 Q) : dOrV ta tb δ G Q := h
theorem w_notV (h : ta δ G fun x G1 => ∃ c, x = .bl c ∧ Q (.bl (!c)) G1) : dNotV ta δ G Q := h
theorem w_BM {T : String} {b : DM} (h : te δ G fun x G1 => rcv T x G1 ∧ ts δ G1 fun ds G2 => b x ds G2 Q) : dBM T b te ts δ G Q := h
theorem w_BM0 {T : String} {b : DM} (h : te δ G fun x G1 => rcv T x G1 ∧ b x [] G1 Q) : dBM0 T b te δ G Q := h
theorem w_rcvS {z : Str} {A : Prop} (h : A) : rcv "str" (.str z) G ∧ A := ⟨rfl, h⟩
theorem w_rcvL {p : Addr} {ds : List DV} {A : Prop} (e : G p = some (.lst ds)) (h : A) : rcv "list" (.ref p) G ∧ A := ⟨.inl ⟨rfl, ds, .inl e⟩, h⟩
/-! tests -/
theorem w_test (h : te δ G fun d G' => ∃ k, d = .bl k ∧ QB k G') : dTest te δ G QB := h
theorem w_tru (h : te δ G fun d G' => bTru d G' QB) : dTru te δ G QB := h
theorem w_and (h : tt δ G fun c G1 => if c = true then tu δ G1 QB else QB false G1) : dAnd tt tu δ G QB := h
theorem w_or (h : tt δ G fun c G1 => if c = true then QB true G1 else tu δ G1 QB) : dOr tt tu δ G QB := h
theorem w_not (h : tt δ G fun c G1 => QB (!c) G1) : dNot tt δ G QB := h
theorem w_yes (h : QB true G) : dYes δ G QB := h
theorem w_truB {b : Bool} (h : QB b G) : bTru (.bl b) G QB := h
theorem w_truI {i : Int} (h : QB (i != 0) G) : bTru (.int i) G QB := h
theorem w_truN (h : QB false G) : bTru .non G QB := h
theorem w_truT {ds : List DV} (h : QB (!ds.isEmpty) G) : bTru (.tup ds) G QB := h
theorem w_truL {p : Addr} {ds : List DV} (e : G p = some (.lst ds)) (h : QB (!ds.isEmpty) G) : bTru (.ref p) G QB := .inl ⟨ds, .inl e, h⟩
/-! operators -/
theorem w_addI {i j : Int} (h : Q (.int (i + j)) G) : bAdd (.int i) (.int j) G Q := h
theorem w_addS {a b : Str} (l : a.length + b.length ≤ sizeLine) (h : Q (.str (a ++ b)) G) : bAdd (.str a) (.str b) G Q := ⟨l, h⟩
theorem w_addT {a b : List DV} (l : a.length + b.length ≤ sizeLine) (h : Q (.tup (a ++ b)) G) : bAdd (.tup a) (.tup b) G Q := ⟨l, h⟩
theorem w_subI {i j : Int} (h : Q (.int (i - j)) G) : bSub (.int i) (.int j) G Q := h
theorem w_int {C : Int → Int → Prop} {g : Int → Int → DV} {i j : Int} (c : C i j) (h : Q (g i j) G) : bInt C g (.int i) (.int j) G Q := ⟨c, h⟩
theorem w_cmpI {g : Int → Int → Bool} {s : List Nat → List Nat → Bool} {i j : Int} (h : Q (.bl (g i j)) G) : bCmp g s (.int i) (.int j) G Q := h
theorem w_cmpS {g : Int → Int → Bool} {s : List Nat → List Nat → Bool} {i j : Str} (h : Q (.bl (s i.cps.toList j.cps.toList)) G) : bCmp g s (.str i) (.str j) G Q := h
theorem w_eqSS {a b : Str} (h : Q (.bl (decide (a = b))) G) : bEq false (.str a) (.str b) G Q := h
theorem w_eqII {a b : Int} (h : Q (.bl (decide (a = b))) G) : bEq false (.int a) (.int b) G Q := h
theorem w_eqBB {a b : Bool} (h : Q (.bl (decide (a = b))) G) : bEq false (.bl a) (.bl b) G Q := h
theorem w_neSS {a b : Str} (h : Q (.bl (!decide (a = b))) G) : bEq true (.str a) (.str b) G Q := h
theorem w_neII {a b : Int} (h : Q (.bl (!decide (a = b))) G) : bEq true (.int a) (.int b) G Q := h
theorem w_neBB {a b : Bool} (h : Q (.bl (!decide (a = b))) G) : bEq true (.bl a) (.bl b) G Q := h
theorem w_eqSN {a : Str} {n : Bool} (h : Q (.bl n) G) : bEq n (.str a) .non G Q := h
theorem w_eqIN {a : Int} {n : Bool} (h : Q (.bl n) G) : bEq n (.int a) .non G Q := h
theorem w_eqSI {a : Str} {b : Int} {n : Bool} (h : Q (.bl n) G) : bEq n (.str a) (.int b) G Q := h
theorem w_eqIS {a : Int} {b : Str} {n : Bool} (h : Q (.bl n) G) : bEq n (.int a) (.str b) G Q := h
theorem w_eqNS {b : Str} {n : Bool} (h : Q (.bl n) G) : bEq n .non (.str b) G Q := h
theorem w_eqBS {a : Bool} {b : Str} {n : Bool} (h : Q (.bl n) G) : bEq n (.bl a) (.str b) G Q := h
theorem w_eqT0 {a : List DV} (h : Q (.bl a.isEmpty) G) : bEq false (.tup a) (.tup []) G Q := .inl ⟨rfl, rfl, h⟩
theorem w_isN {x : DV} (h : Q (.bl (decide (x = .non))) G) : bIs false x .non G Q := by cases x <;> exact h
theorem w_isnN {x : DV} (h : Q (.bl (!decide (x = .non))) G) : bIs true x .non G Q := by cases x <;> exact h
theorem w_ix0 {a : DV} {r : List DV} (h : Q a G) : bIx (.tup (a :: r)) (.int 0) G Q := ⟨a, atI_nat (j := 0) rfl, h⟩
theorem w_ix1 {a b : DV} {r : List DV} (h : Q b G) : bIx (.tup (a :: b :: r)) (.int 1) G Q := ⟨b, atI_nat (j := 1) rfl, h⟩
theorem w_ix2 {a b c : DV} {r : List DV} (h : Q c G) : bIx (.tup (a :: b :: c :: r)) (.int 2) G Q := ⟨c, atI_nat (j := 2) rfl, h⟩
theorem w_ix3 {a b c d : DV} {r : List DV} (h : Q d G) : bIx (.tup (a :: b :: c :: d :: r)) (.int 3) G Q := ⟨d, atI_nat (j := 3) rfl, h⟩
theorem w_ixL {p : Addr} {ds : List DV} {i : Int} {d : DV} (e : G p = some (.lst ds)) (l : atI ds i = some d) (h : Q d G) : bIx (.ref p) (.int i) G Q := .inl ⟨ds, d, .inl e, l, h⟩
theorem w_slT {ds : List DV} {lo hi : Option Int} (h : Q (.tup (cutD ds lo hi)) G) : bSl (.tup ds) lo hi G Q := h
/-! calls -/
theorem w_lenT {ds : List DV} (h : Q (.int ds.length) G) : bLen [.tup ds] G Q := h
theorem w_lenS {z : Str} (l : z.length ≤ sizeLine) (h : Q (.int z.length) G) : bLen [.str z] G Q := ⟨l, h⟩
theorem w_lenL {p : Addr} {ds : List DV} (e : G p = some (.lst ds)) (h : Q (.int ds.length) G) : bLen [.ref p] G Q := .inl ⟨ds, .inl e, h⟩
theorem w_isi {x : DV} {t : String} {a : String} {b : Bool} (ht : t ∈ tysK) (ha : TyAt G x a) (hb : tyB a t = b) (h : Q (.bl b) G) : bIsi [x, .ty t] G Q := ⟨ht, a, b, ha, hb, h⟩
theorem w_intB {k : Bool} (h : Q (.int (if k = true then 1 else 0)) G) : bInt1 [.bl k] G Q := h
theorem w_intI {k : Int} (h : Q (.int k) G) : bInt1 [.int k] G Q := h
theorem w_tupT {ds : List DV} (h : Q (.tup ds) G) : bTuple [.tup ds] G Q := h
theorem w_tupL {p : Addr} {ds : List DV} (e : G p = some (.lst ds)) (h : Q (.tup ds) G) : bTuple [.ref p] G Q := ⟨ds, .inl e, h⟩
theorem w_lstT {ds : List DV} (h : ∀ r, G r = none → Q (.ref r) (dupd G r (.lst ds))) : bList [.tup ds] G Q := h
theorem w_app {p : Addr} {xs : List DV} {y : DV} (e : G p = some (.lst xs)) (l : xs.length < sizeLine) (h : Q .non (dupd G p (.lst (xs ++ [y])))) : bAppend (.ref p) [y] G Q := ⟨p, xs, y, rfl, rfl, e, l, h⟩
theorem w_pop {p : Addr} {xs : List DV} {y : DV} (e : G p = some (.lst (xs ++ [y]))) (h : Q y (dupd G p (.lst xs))) : bPop (.ref p) [] G Q := ⟨p, xs, y, rfl, rfl, e, h⟩
theorem w_extT {p : Addr} {xs zs : List DV} (e : G p = some (.lst xs)) (l : xs.length + zs.length ≤ sizeLine) (h : Q .non (dupd G p (.lst (xs ++ zs)))) : bExt (.ref p) [.tup zs] G Q := ⟨p, xs, zs, rfl, e, .inl rfl, l, h⟩
/-! loops -/
/-- what a loop over ds wants -/
def ForG (ds : List DV) (st : DG → Prop) (tg : TDG) (tb : TDS) (nx : DSt → DG → Prop) (rt : DK) (δ : DSt) (G : DG) : Prop := ∃ Pv : Nat → DSt → DG → Prop, Pv 0 δ G ∧ (∀ i δ G, Pv i δ G → st G) ∧
  (∀ i d δ G, ds[i]? = some d → Pv i δ G → tg d δ G fun δ2 G2 => tb ⟨Pv (i + 1), rt, nx, Pv (i + 1)⟩ δ2 G2) ∧ (∀ δ G, Pv ds.length δ G → nx δ G)
theorem w_for {tg : TDG} {tb : TDS} {ti : TDI} (h : ti δ G fun ds st G1 => ForG ds st tg tb nx rt δ G1) : dFor ti tg tb ⟨nx, rt, bk, ct⟩ δ G := h
/-- what a comprehension over ds wants -/
def LcG (ds : List DV) (st : DG → Prop) (ld : TL) (tt : TDT) (te : TD) (δ : DSt) (G1 : DG) (Q : DK) : Prop := ∀ p, G1 p = none → ∃ Pv : Nat → List DV → DG → Prop, Pv 0 [] (dupd G1 p (.lst [])) ∧ (∀ i acc G, Pv i acc G → st G) ∧
  (∀ i d acc G, ds[i]? = some d → Pv i acc G → ld d δ fun δ2 => tt δ2 G fun b G3 => if b = true then te δ2 G3 fun y G4 => G4 p = some (.lst acc) ∧ acc.length < sizeLine ∧ Pv (i + 1) (acc ++ [y]) (dupd G4 p (.lst (acc ++ [y]))) else Pv (i + 1) acc G3) ∧
  (∀ acc G, Pv ds.length acc G → Q (.ref p) G)
theorem w_lc {ti : TDI} {ld : TL} {vs : List Nat} (h : ti δ G fun ds st G1 => LcG ds st ld tt te (wipeD δ vs) G1 Q) : dLc ti ld tt te vs δ G Q := h
theorem w_while {c : TDT} {tb : TDS} (Pv : Nat → DSt → DG → Prop) (m : Nat) (p : Pv m δ G) (h : ∀ m δ G, Pv m δ G →
  c δ G fun b G1 => if b = true then tb ⟨fun δ' G' => ∃ m', m' < m ∧ Pv m' δ' G', rt, nx, fun δ' G' => ∃ m', m' < m ∧ Pv m' δ' G'⟩ δ G1 else nx δ G1) : dWhile c tb ⟨nx, rt, bk, ct⟩ δ G := ⟨Pv, ⟨m, p⟩, h⟩
variable {RI : List DV → (DG → Prop) → DG → Prop}
theorem wi_tup (h : te δ G fun d G1 => ∃ ds, d = .tup ds ∧ RI ds (fun _ => True) G1) : dITup te δ G RI := h
theorem wi_lst (h : te δ G fun d G1 => ∃ p ds, d = .ref p ∧ Ls G1 p ds ∧ RI ds (fun G => Ls G p ds) G1) : dIList te δ G RI := h
theorem wi_str (h : te δ G fun d G1 => ∃ z, d = .str z ∧ RI (signs z) (fun _ => True) G1) : dIStr te δ G RI := h
theorem wi_rng (h : ts δ G fun ds G1 => ∃ j : Int, ds = [.int j] ∧ -(2 ^ 62) ≤ j ∧ j < 2 ^ 62 ∧ RI (rng 0 j.toNat) (fun _ => True) G1) : dIRng ts δ G RI := h
theorem wi_rng2 (h : ts δ G fun ds G1 => ∃ i j : Int, ds = [.int i, .int j] ∧ (-(2 ^ 62) ≤ i ∧ i < 2 ^ 62 ∧ -(2 ^ 62) ≤ j ∧ j < 2 ^ 62) ∧ RI (rng i (j - i).toNat) (fun _ => True) G1) : dIRng2 ts δ G RI := h
theorem wi_enumT (h : ts δ G fun xs G1 => ∃ ds, xs = [.tup ds] ∧ RI (nmbd ds) (fun _ => True) G1) : dIEnumT ts δ G RI := h
theorem wi_enum (h : ts δ G fun xs G1 => ∃ p ds, xs = [.ref p] ∧ Ls G1 p ds ∧ RI (nmbd ds) (fun G => Ls G p ds) G1) : dIEnum ts δ G RI := h
theorem wi_rev (h : ts δ G fun xs G1 => ∃ p ds, xs = [.ref p] ∧ Ls G1 p ds ∧ RI ds.reverse (fun G => Ls G p ds) G1) : dIRev ts δ G RI := h
theorem wi_revR (h : ts δ G fun ds G1 => ∃ j : Int, ds = [.int j] ∧ 0 ≤ j ∧ j < 2 ^ 62 ∧ RI (rng 0 j.toNat).reverse (fun _ => True) G1) : dIRevR ts δ G RI := h
theorem wx_rng {k : Int → Prop} {j : Int} (h1 : -(2 ^ 62) ≤ j) (h2 : j < 2 ^ 62) (h : k j) : ∃ j' : Int, [DV.int j] = [.int j'] ∧ -(2 ^ 62) ≤ j' ∧ j' < 2 ^ 62 ∧ k j' := ⟨j, rfl, h1, h2, h⟩
theorem wx_lst {k : Addr → List DV → Prop} {p : Addr} {ds : List DV} (e : G p = some (.lst ds)) (h : k p ds) : ∃ p' ds', DV.ref p = .ref p' ∧ Ls G p' ds' ∧ k p' ds' := ⟨p, ds, rfl, .inl e, h⟩
theorem wx_lstA {k : Addr → List DV → Prop} {p : Addr} {ds : List DV} (e : G p = some (.lst ds)) (h : k p ds) : ∃ p' ds', [DV.ref p] = [.ref p'] ∧ Ls G p' ds' ∧ k p' ds' := ⟨p, ds, rfl, .inl e, h⟩
theorem wx_enumT {k : List DV → Prop} {ds : List DV} (h : k ds) : ∃ ds', [DV.tup ds] = [.tup ds'] ∧ k ds' := ⟨ds, rfl, h⟩
/-- a loop with its invariant -/
theorem for_by {ds : List DV} {st : DG → Prop} {tg : TDG} {tb : TDS} (Pv : Nat → DSt → DG → Prop) (hst : ∀ i δ G, Pv i δ G → st G) (p0 : Pv 0 δ G)
  (ps : ∀ i d δ G, ds[i]? = some d → Pv i δ G → tg d δ G fun δ2 G2 => tb ⟨Pv (i + 1), rt, nx, Pv (i + 1)⟩ δ2 G2) (pd : ∀ δ G, Pv ds.length δ G → nx δ G) : ForG ds st tg tb nx rt δ G := ⟨Pv, p0, hst, ps, pd⟩
/-- elements that leave the store as it is: each told by E (or left out, where f says so) -/
theorem lcg_pure {ds : List DV} {st : DG → Prop} {ld : TL} {G1 : DG} (f : DV → Option DV) (hsc : ∀ p o, G1 p = none → st (dupd G1 p o)) (hl : ds.length ≤ 1000000)
    (h : ∀ d ∈ ds, ∀ (G : DG) (k1 : DK) (k0 : DG → Prop), (∃ p acc, G1 p = none ∧ G = dupd G1 p (.lst acc)) → (∀ y, f d = some y → k1 y G) → (f d = none → k0 G) →
      ld d δ fun δ2 => tt δ2 G fun b G3 => if b = true then te δ2 G3 k1 else k0 G3)
    (q : ∀ p, G1 p = none → Q (.ref p) (dupd G1 p (.lst (ds.filterMap f)))) : LcG ds st ld tt te δ G1 Q := by
  have := lc_pure (ds := ds) (st := st) (ld := ld) (tt := tt) (te := te) (vs := []) (δ := δ) (G1 := G1) (Q := Q) f hsc hl h q
  exact this
theorem lcg_each {ds : List DV} {st : DG → Prop} {ld : TL} {G1 : DG} (E : Nat → DV → Prop) (hsc : ∀ p o, G1 p = none → st (dupd G1 p o)) (hl : ds.length ≤ 1000000)
    (h : ∀ i d, ds[i]? = some d → ∀ (G : DG) (k1 : DK) (k0 : DG → Prop), (∃ p acc, G1 p = none ∧ G = dupd G1 p (.lst acc)) → (∀ y, E i y → k1 y G) →
      ld d δ fun δ2 => tt δ2 G fun b G3 => if b = true then te δ2 G3 k1 else k0 G3)
    (q : ∀ p acc, G1 p = none → acc.length = ds.length → (∀ i y, acc[i]? = some y → E i y) → Q (.ref p) (dupd G1 p (.lst acc))) : LcG ds st ld tt te δ G1 Q := by
  intro p np
  refine ⟨fun i acc G => acc.length = i ∧ i ≤ ds.length ∧ (∀ j y, acc[j]? = some y → E j y) ∧ G = dupd G1 p (.lst acc), ⟨rfl, Nat.zero_le _, (fun _ _ h => nomatch h), rfl⟩, fun i acc G ⟨_, _, _, e⟩ => by rw [e]; exact hsc p _ np, ?_, ?_⟩
  · rintro i d acc G hd ⟨ea, hi, he, rfl⟩
    have hlt : i < ds.length := (List.getElem?_eq_some_iff.mp hd).1
    refine h i d hd _ _ _ ⟨p, acc, np, rfl⟩ fun y hy => ⟨dupd_same, midlt (by omega), ?_, hlt, ?_, dupd_dupd⟩
    · rw [List.length_append, ea]; rfl
    · intro j z hz
      by_cases hj : j < acc.length
      · rw [List.getElem?_append_left hj] at hz; exact he j z hz
      · have hj' := (List.getElem?_eq_some_iff.mp hz).1
        rw [List.length_append, List.length_singleton] at hj'
        have : j = i := by omega
        subst this
        rw [List.getElem?_append_right (by omega), ea, Nat.sub_self] at hz
        cases hz
        exact hy
  · rintro acc G ⟨ea, _, he, rfl⟩
    exact q p acc np ea he
theorem g_n {d : DV} {i : Nat} {k : DSt → DG → Prop} (h : k (δ.set i (some d)) G) : gN i d δ G k := h
theorem w_ite {b : Bool} {A B : Prop} (h : b = true → A) (g : b = false → B) : if b = true then A else B := by
  cases b
  · exact iteF (g rfl)
  · exact iteT (h rfl)
theorem w_iteD {p : Prop} [Decidable p] {A B : Prop} (h : p → A) (g : ¬ p → B) : if decide p = true then A else B := by
  by_cases e : p
  · rw [decide_eq_true e]; exact iteT (h e)
  · rw [decide_eq_false e]; exact iteF (g e)
theorem w_it {b : Bool} {A B : Prop} (e : b = true) (h : A) : if b = true then A else B := by subst e; exact iteT h
theorem w_if0 {b : Bool} {A B : Prop} (e : b = false) (h : B) : if b = true then A else B := by subst e; exact iteF h
end
end DD
namespace DD
open PySem PySem.W L2
theorem ne_ns {G : DG} {a b : Addr} (n : G b = none) (h : ∃ o, G a = some o) : a ≠ b := by
  obtain ⟨o, h⟩ := h
  exact ne_some h n
theorem ne_sn {G : DG} {a b : Addr} (n : G b = none) (h : ∃ o, G a = some o) : b ≠ a := (ne_ns n h).symm
theorem szl {n : Nat} (h : n.ble 64 = true) : n ≤ sizeLine := by
  have := Nat.le_of_ble_eq_true h
  have : 64 ≤ sizeLine := by decide
  omega
end DD
namespace DD
open PySem PySem.W L2
theorem cutD_to {α : Type} (xs : List α) (k : Nat) : cutD xs none (some (k : Int)) = xs.take k := by
  unfold cutD
  rw [HT.sIx_none, HT.sIx_nat, List.drop_zero, Nat.sub_zero]
  rcases Nat.le_total k xs.length with h | h
  · rw [Nat.min_eq_left h]
  · rw [Nat.min_eq_right h, List.take_length, List.take_of_length_le h]
theorem cutD_from {α : Type} (xs : List α) (k : Nat) : cutD xs (some (k : Int)) none = xs.drop k := by
  unfold cutD
  rw [HT.sIx_none, HT.sIx_nat]
  rcases Nat.le_total k xs.length with h | h
  · rw [Nat.min_eq_left h, List.take_of_length_le (by rw [List.length_drop]; omega)]
  · rw [Nat.min_eq_right h, List.drop_length, List.take_nil, List.drop_of_length_le h]
theorem cutD_last {α : Type} (a : List α) (x : α) : cutD (a ++ [x]) none (some (-1)) = a := by
  unfold cutD
  have e : HT.sIx (a ++ [x]).length (a ++ [x]).length (some (-1)) = a.length := by
    rw [show HT.sIx (a ++ [x]).length (a ++ [x]).length (some (-1)) = (if (-1 : Int) < 0 then ((-1 : Int) + ((a ++ [x]).length : Int)).toNat else min (-1 : Int).toNat (a ++ [x]).length) from rfl]
    rw [if_pos (by decide), List.length_append, List.length_singleton]; omega
  rw [HT.sIx_none, e, List.drop_zero, Nat.sub_zero, List.take_left]
end DD
namespace DD
open PySem PySem.W L2
theorem nn_ {G G' : DG} {p : Addr} (n : G' p = none) (s : Sub G G') : G p = none := s.nonew n
theorem lt2' {i j : Nat} {a b : DV} {δ : DSt} {k : DSt → Prop} (h : k ((δ.set i (some a)).set j (some b))) : l2 i j (.tup [a, b]) δ k := ⟨a, b, rfl, h⟩
theorem Less.mk {R : DK} {d : DV} {G G' : DG} (s : Sub G G') (h : R d G) : Less R d G' := ⟨G, s, h⟩
end DD
namespace DD
open PySem PySem.W L2
theorem w_cut {nx : DSt → DG → Prop} {rt : DK} {bk ct : DSt → DG → Prop} {δ : DSt} {G : DG} {t u : TDS} (Mid : DSt → DG → Prop) (h : t ⟨Mid, rt, bk, ct⟩ δ G) (g : ∀ δ' G', Mid δ' G' → u ⟨nx, rt, bk, ct⟩ δ' G') : dCut t u ⟨nx, rt, bk, ct⟩ δ G := ⟨Mid, h, g⟩
end DD
namespace DD
open PySem PySem.W L2
theorem decq {p q : Prop} [Decidable p] [Decidable q] (h : p ↔ q) : decide p = decide q := by
  by_cases e : p
  · rw [decide_eq_true e, decide_eq_true (h.mp e)]
  · rw [decide_eq_false e, decide_eq_false (fun z => e (h.mpr z))]
end DD
/-! dicts with texts as keys -/
namespace DD
open PySem PySem.W L2 SX Cm
def valD (kvs : List (Key × DV)) (k : Key) : Option DV := (kvs.find? fun kv => decide (kv.1 = k)).map (·.2)
def putD (kvs : List (Key × DV)) (k : Key) (v : DV) : List (Key × DV) :=
  if (kvs.any fun kv => decide (kv.1 = k)) = true then kvs.map (fun kv => if kv.1 = k then (kv.1, v) else kv) else kvs ++ [(k, v)]
theorem tks_dct {K : Frag} {H : Hp} {d : Addr} {xs ys : List (Key × V)} (h : H d = some (.dK xs)) : TKs K H (upd H d (.dK ys)) := fun a zs e => by
  rcases e with (e | ⟨o, e⟩) | e
  · exact .inl (.inl (by rw [upd_ne (fun z => by rw [z, h] at e; cases e)]; exact e))
  · exact .inl (.inr ⟨o, by rw [upd_ne (fun z => by rw [z, h] at e; cases e)]; exact e⟩)
  · exact .inr e
section
variable {K : Frag} {H : Hp}
theorem KRV.val {vs : List (Key × V)} {ds : List (Key × DV)} (r : KRV K H vs ds) (k : Key) : (valV vs k = none ∧ valD ds k = none) ∨ ∃ v d, valV vs k = some v ∧ valD ds k = some d ∧ RV K H v d := by
  induction r with
  | nil => exact .inl ⟨rfl, rfl⟩
  | @cons k' v d vs ds h t ih =>
    by_cases e : k' = k
    · refine .inr ⟨v, d, valV_pos (p := (k', v)) e, ?_, h⟩
      have e' : decide (k' = k) = true := decide_eq_true e
      unfold valD
      rw [List.find?_cons]
      simp only [e']
      rfl
    · have e1 : valV ((k', v) :: vs) k = valV vs k := valV_neg (p := (k', v)) e
      have e2 : valD ((k', d) :: ds) k = valD ds k := by
        have e' : decide (k' = k) = false := decide_eq_false e
        unfold valD
        rw [List.find?_cons]
        simp only [e']
      rw [e1, e2]; exact ih
theorem KRV.any {vs : List (Key × V)} {ds : List (Key × DV)} (r : KRV K H vs ds) (k : Key) : (vs.any fun kv => decide (kv.1 = k)) = ds.any fun kv => decide (kv.1 = k) := by
  induction r with
  | nil => rfl
  | cons h t ih => rw [List.any_cons, List.any_cons, ih]
theorem KRV.map {vs : List (Key × V)} {ds : List (Key × DV)} (r : KRV K H vs ds) (k : Key) {y : V} {u : DV} (ry : RV K H y u) : KRV K H (vs.map fun kv => if kv.1 = k then (kv.1, y) else kv) (ds.map fun kv => if kv.1 = k then (kv.1, u) else kv) := by
  induction r with
  | nil => exact .nil
  | @cons k' v d vs ds h t ih =>
    rw [List.map_cons, List.map_cons]
    by_cases e : k' = k
    · rw [if_pos e, if_pos e]; exact .cons ry ih
    · rw [if_neg e, if_neg e]; exact .cons h ih
theorem KRV.append {vs vs' : List (Key × V)} {ds ds' : List (Key × DV)} (r : KRV K H vs ds) (r' : KRV K H vs' ds') : KRV K H (vs ++ vs') (ds ++ ds') := by
  induction r with
  | nil => exact r'
  | cons h t ih => exact .cons h ih
theorem KRV.put {vs : List (Key × V)} {ds : List (Key × DV)} (r : KRV K H vs ds) (k : Key) {y : V} {u : DV} (ry : RV K H y u) : KRV K H (putK vs k y) (putD ds k u) := by
  unfold putK putD
  rw [r.any k]
  split
  · exact r.map k ry
  · exact r.append (.cons ry .nil)
theorem wd_dct {G : DG} {p : Addr} {kvs : List (Key × DV)} (w : Wd K H G) (e : G p = some (.dct kvs)) : ∃ vs, H p = some (.dK vs) ∧ KRV K H vs kvs := by
  obtain ⟨O, w⟩ := w
  exact w.ob p _ e
end
def keyD (z : Str) : Key := .inr z
section
variable {X : Cx}
theorem hu_of {k : Nat} {A : Around} (h : Room k A) : A.units + 1 < cLine := by have := h.units; omega
def dDNew : TD := fun _ G Q => ∀ p, G p = none → Q (.ref p) (dupd G p (.dct []))
variable {o i e e2 value : Expr} {pos pos' apos cpos : Pos} {td ti tv : TD}
def dDGet (td ti : TD) : TD := fun δ G Q => td δ G fun x G1 => ti δ G1 fun y G2 => ∃ p kvs z v, x = .ref p ∧ y = .str z ∧ G2 p = some (.dct kvs) ∧ valD kvs (keyD z) = some v ∧ Q v G2
def dDGet2 (td ti tv : TD) : TD := fun δ G Q => td δ G fun x G1 => ∃ p, x = .ref p ∧ (∃ kvs, G1 p = some (.dct kvs)) ∧ ti δ G1 fun y G2 => tv δ G2 fun u G3 => ∃ kvs z, y = .str z ∧ G3 p = some (.dct kvs) ∧ Q ((valD kvs (keyD z)).getD u) G3
theorem de_dget2 (hu : X.A.units + 1 < cLine) (ho : DE X o td) (he : DE X e ti) (hf : DE X e2 tv) (m : M2 X o "get" apos e e2 cpos := by exact ⟨rfl, rfl, rfl, rfl⟩) : DE X (.Call (.Attribute o "get" apos) [e, e2] [] cpos) (dDGet2 td ti tv) :=
  PE_mono (pe_dget2 hu ho he hf m) fun σ H Q ⟨δ, G, R, sl, w, q, f⟩ => ⟨δ, G, _, sl, w, q, fun x G1 vx H1 ⟨p, e1, ⟨kvs1, eG1⟩, q1⟩ t1 w1 r1 => by
    subst e1
    cases r1
    obtain ⟨vs1, hv1, _⟩ := wd_dct w1 eG1
    refine ⟨p, rfl, .inl ⟨vs1, .inl hv1⟩, δ, G1, _, sl.mono t1, w1, q1, fun y G2 vy H2 q2 t2 w2 r2 => ⟨δ, G2, _, sl.mono (t1.trans t2), w2, q2, fun u G3 vu H3 ⟨kvs, z, e2, eG, q3⟩ t3 w3 r3 => ?_⟩⟩
    subst e2
    cases r2
    obtain ⟨vs, hv, kr⟩ := wd_dct w3 eG
    have t13 := (t1.trans t2).trans t3
    refine ⟨_, DGet.k (k := keyD z) hv, ?_⟩
    rcases kr.val (keyD z) with ⟨h1, h2⟩ | ⟨v', d', h1, h2, rv⟩
    · rw [h1]; rw [h2] at q3; exact f _ _ _ _ q3 t13 w3 r3
    · rw [h1]; rw [h2] at q3; exact f _ _ _ _ q3 t13 w3 rv⟩
def dDIn (n : Bool) (ti td : TD) : TD := fun δ G Q => ti δ G fun y G1 => td δ G1 fun x G2 => ∃ p kvs z, x = .ref p ∧ y = .str z ∧ G2 p = some (.dct kvs) ∧ Q (.bl (ng n (valD kvs (keyD z)).isSome)) G2
def dDPut (td ti tv : TD) : TDS := fun D δ G => tv δ G fun v G1 => td δ G1 fun x G2 => ti δ G2 fun y G3 => ∃ p kvs z, x = .ref p ∧ y = .str z ∧ G3 p = some (.dct kvs) ∧ kvs.length < sizeLine ∧ D.nx δ (dupd G3 p (.dct (putD kvs (keyD z) v)))
end
end DD
/-! tuple(d) of a dict: its keys -/
namespace DD
open PySem PySem.Spec PyProof.Rows PySem.W
end DD
namespace DD
open PySem PySem.W L2 SX Cm
/-! ### comprehensions that make dicts -/
def DcG (ds : List DV) (st : DG → Prop) (ld : TL) (tt : TDT) (tk tv : TD) (δ : DSt) (G1 : DG) (Q : DK) : Prop := ∀ p, G1 p = none → ∃ Pv : Nat → List (Key × DV) → DG → Prop, Pv 0 [] (dupd G1 p (.dct [])) ∧ (∀ i kvs G, Pv i kvs G → st G) ∧
  (∀ i d kvs G, ds[i]? = some d → Pv i kvs G → ld d δ fun δ2 => tt δ2 G fun b G3 => if b = true then tk δ2 G3 fun y G4 => tv δ2 G4 fun u G5 => ∃ z, y = .str z ∧ G5 p = some (.dct kvs) ∧ kvs.length < sizeLine ∧ Pv (i + 1) (putD kvs (keyD z) u) (dupd G5 p (.dct (putD kvs (keyD z) u))) else Pv (i + 1) kvs G3) ∧
  (∀ kvs G, Pv ds.length kvs G → Q (.ref p) G)
def dDc (ti : TDI) (ld : TL) (tt : TDT) (tk tv : TD) (vs : List Nat) : TD := fun δ G Q => ti δ G fun ds st G1 => DcG ds st ld tt tk tv (wipeD δ vs) G1 Q
theorem w_dc {ti : TDI} {ld : TL} {tt : TDT} {tk tv : TD} {vs : List Nat} {δ : DSt} {G : DG} {Q : DK} (h : ti δ G fun ds st G1 => DcG ds st ld tt tk tv (wipeD δ vs) G1 Q) : dDc ti ld tt tk tv vs δ G Q := h
end DD
namespace Cm
open PySem PySem.W L2 SX
/-! ### xs[a:] = ys, another list -/
section
open PySem.Spec PyProof.Rows
variable {prog : Program} {w : World} {A : Around} {E : Value → Shared → Prop} {s : Shared}
theorem bounds_tail {a n : Nat} (h : a ≤ n) : sliceBounds (some (a : Int)) none none n = ((a : Int), (n : Int), 1) := by
  have h1 : ¬ ((a : Int) < 0) := by omega
  simp only [sliceBounds, Option.getD_none, h1, if_false, show (1 : Int) > 0 by decide, if_true]
  congr 1; omega
variable {X : Cx}
end
end Cm
/-! del xs[a:] -/
namespace Cm
open PySem PySem.W L2 SX
section
open PySem.Spec PyProof.Rows
variable {prog : Program} {w : World} {A : Around} {E : Value → Shared → Prop} {s : Shared}
theorem cut_sel {α : Type} (f : α × Nat → Option α) : ∀ (xs : List α) (k a : Nat), (∀ x j, k ≤ j → j < k + xs.length → f (x, j) = if a ≤ j then none else some x) → (xs.zipIdx k).filterMap f = xs.take (a - k)
  | [], _, _, _ => by simp
  | x :: r, k, a, h => by
    have ih := cut_sel f r (k + 1) a fun y j h1 h2 => h y j (by omega) (by rw [List.length_cons]; omega)
    have hk := h x k (Nat.le_refl k) (by rw [List.length_cons]; omega)
    rw [List.zipIdx_cons]
    by_cases hak : a ≤ k
    · rw [if_pos hak] at hk
      rw [List.filterMap_cons_none hk, ih, show a - (k + 1) = 0 by omega, show a - k = 0 by omega]; rfl
    · rw [if_neg hak] at hk
      rw [List.filterMap_cons_some hk, ih, show a - k = (a - (k + 1)) + 1 by omega]; rfl
theorem delItem_tail {l sl : Addr} {items : Array Value} {n a : Nat} {vl vu : Value} {Q : Unit → Shared → Prop} (e : s.heap.get? l = some { cls := .type "list", data := .seq items n })
    (hs : s.heap.IsSliceOf sl vl vu .none) (pl : IsPart vl (some (a : Int))) (pu : IsPart vu none) (ha : a ≤ items.size) (hsz : items.size ≤ sizeLine)
    (h : ∀ F : Array Value → Array Value, F items = (items.toList.take a).toArray → Q () { s with heap := s.heap.update l (Obj.mapSeq F) }) : wpAny (model prog w) A (delItem (.ref l) (.ref sl)) Q E s := by
  have tl : s.TypeIs (.ref l) "list" := (PySem.IsL.isList e).typeIs
  obtain ⟨os, hos, hcs, hds⟩ := id hs
  have ts : s.TypeIs (.ref sl) "slice" := ⟨os, hos, hcs⟩
  have st0 : ¬ ((rawPart none == rawInt 0) = true) := Bool.false_ne_true
  refine wpAny_delItem_slot tl (by decide) F.slot_list_delitem (wpAny_call_entry F.slot_list_delitem tl F.entry_list_delitem ?_ (F.args_list_delitem_2 _ _))
  show wpAny _ _ (Builtin.List.listSubscript? (.ref sl) >>= _) _ _ s
  refine wpAny_bind ?_; unfold Builtin.List.listSubscript?
  refine wpAny_bind (wpAny_specialOf ts slice_no_index ?_)
  simp only [Option.isNone_none, if_true]
  refine wpAny_pure ?_
  show wpAny _ _ (typeOf (.ref sl) >>= _) _ _ s
  refine wpAny_bind (wpAny_typeOf ts ?_)
  first | rw [if_neg (by decide)] | refine PySem.W.KFB.if_not (by decide) ?_
  rw [listSliceParts_eq]
  refine wpAny_bind (wpAny_bind (wpAny_field hos hds (x := .none) rfl (wpAny_bind (wpAny_listPart .none ?_)))); rw [if_neg st0]
  refine wpAny_bind (wpAny_field hos hds (x := vl) rfl (wpAny_bind (wpAny_listPart pl (wpAny_bind (wpAny_field hos hds (x := vu) rfl (wpAny_bind (wpAny_listPart pu (wpAny_pure ?_))))))))
  unfold Builtin.List.listItems
  refine wpAny_bind (wpAny_bind (wpAny_seqItems e rfl (wpAny_pure ?_)))
  refine wpAny_bind (wpAny_of_eq ((sliceIndices_raw (some (a : Int)) none none items.size (by simp)).trans (congrArg (pure : Int × Int × Int → Sem (Int × Int × Int)) (bounds_tail ha))) ?_)
  refine wpAny_bind (wpAny_rule ?_)
  refine wpAny_bind ?_
  unfold Builtin.List.listUpdate
  refine wpAny_updateSeq (hz := hsz) (_hz' := ?_) e rfl (wpAny_bind (wpAny_letGo ?_))
  · refine wpAny_bind (wpAny_pure (wpAny_pure ⟨.none, rfl, h _ ?_⟩))
    refine congrArg List.toArray ((cut_sel _ items.toList 0 a fun x j _ h2 => ?_).trans (by rw [Nat.sub_zero]))
    rw [Array.length_toList, Nat.zero_add] at h2
    show (if (if (1 : Int) > 0 then decide ((a : Int) ≤ (j : Int)) && decide ((j : Int) < (items.size : Int)) && (((j : Int) - (a : Int)) % 1 == 0) else decide ((items.size : Int) < (j : Int)) && decide ((j : Int) ≤ (a : Int)) && (((a : Int) - (j : Int)) % (-1) == 0)) = true then none else some x) = if a ≤ j then none else some x
    rw [if_pos (show (1 : Int) > 0 by decide), Int.emod_one, decide_eq_true (show (j : Int) < (items.size : Int) by omega)]
    by_cases haj : a ≤ j
    · rw [if_pos haj, decide_eq_true (show (a : Int) ≤ (j : Int) by omega)]; rfl
    · rw [if_neg haj, decide_eq_false (show ¬ (a : Int) ≤ (j : Int) by omega)]; rfl
  · refine Nat.le_trans ?_ (Nat.le_succ_of_le hsz)
    show (List.filterMap _ items.toList.zipIdx).toArray.size ≤ items.size
    rw [List.size_toArray]
    refine Nat.le_trans (List.length_filterMap_le _ _) ?_
    rw [List.length_zipIdx, Array.length_toList]; exact Nat.le_refl _
variable {X : Cx}
def tDelT (to tl : TE) : TS := fun D σ H => to σ H fun x H1 => tl σ H1 fun y H2 => ∃ (l : Addr) (a : Int) (xs : List V), x = .ref l ∧ y = .int a ∧ H2 l = some (.lst xs) ∧ 0 ≤ a ∧ a ≤ xs.length ∧ D.nx σ (upd H2 l (.lst (xs.take a.toNat)))
theorem ps_delT {o lo : Expr} {to tl : TE} {p2 tpos pos : Pos} (ho : PE X o to) (hi : PE X lo tl) : PS X (.Delete [.Subscript o (.Slice (some lo) none none p2) tpos] pos) (tDelT to tl) := by
  refine ⟨fun pins s σ H D I h => ?_⟩
  refine wpAny_Delete (wpAny_deleteEach_cons (wpAny_delete_Subscript (thn (ho.run pins s σ H _ I h) fun u s1 ⟨x, H1, I1, r1, q1⟩ => ?_)))
  refine wpAny_Slice ?_
  rw [evalPart_some]
  refine thn (hi.run pins s1 σ H1 _ I1 q1) fun vl s2 ⟨y, H2, I2, r2, q2⟩ => ?_
  rw [evalPart_none]
  refine wpAny_pure (wpAny_pure ?_)
  obtain ⟨l, a, xs, rfl, rfl, hl, a0, a1, q⟩ := q2
  cases r1
  obtain ⟨t, rfl⟩ := r2
  have I3 : Inv X pins σ H2 { s2 with heap := s2.heap.push { cls := .type "slice", data := .fields #[.int a t, .none, .none] } } := I2.kept (t' := s2.toks) fun b ob q => Heap.get?_push_of_some _ q
  obtain ⟨z, its, n, rv, hln, e⟩ := I3.lstM hl
  obtain ⟨a', rfl⟩ := Int.eq_ofNat_of_zero_le a0
  refine delItem_tail (a := a') e (Heap.IsSliceOf.new ..) (.int _ _) .none (by rw [List.size_toArray]; omega) (by rw [List.size_toArray]; omega) fun F hF => wpAny_deleteEach_nil ⟨σ, _, ?_, q⟩
  refine I3.lset (its' := its.take a') (t' := s2.toks) hl e hF (rv.take _) ?_
  rw [List.length_take]; omega
end
end Cm
namespace DD
open PySem PySem.W L2 SX Cm
section
variable {X : Cx}
def dDelT (to tl : TD) : TDS := fun D δ G => to δ G fun x G1 => tl δ G1 fun y G2 => ∃ (l : Addr) (a : Int) (xs : List DV), x = .ref l ∧ y = .int a ∧ G2 l = some (.lst xs) ∧ 0 ≤ a ∧ a ≤ xs.length ∧ D.nx δ (dupd G2 l (.lst (xs.take a.toNat)))
theorem ds_delT {o lo : Expr} {to tl : TD} {p2 tpos pos : Pos} (ho : DE X o to) (hi : DE X lo tl) : DS X (.Delete [.Subscript o (.Slice (some lo) none none p2) tpos] pos) (dDelT to tl) :=
  PS_mono (ps_delT ho hi) fun D σ H ⟨D', δ, G, sl, w, l, h⟩ => ⟨δ, G, _, sl, w, h, fun x G1 vx H1 q1 t1 w1 r1 => ⟨δ, G1, _, sl.mono t1, w1, q1, fun y G2 vy H2 ⟨p, a, xs, e1, e2, eG, a0, a1, q2⟩ t2 w2 r2 => by
    subst e1 e2
    cases r1
    cases r2
    obtain ⟨us, hu, r⟩ := wd_list w2 eG
    obtain ⟨t3, w3⟩ := put_lst w2 eG hu (r.take a.toNat)
    exact ⟨p, a, us, rfl, rfl, hu, a0, by rw [r.len]; exact a1, l.nx _ _ _ _ q2 ((t1.trans t2).trans t3) w3 (sl.mono ((t1.trans t2).trans t3))⟩⟩⟩
end
theorem w_delT {nx : DSt → DG → Prop} {rt : DK} {bk ct : DSt → DG → Prop} {δ : DSt} {G : DG} {to tl : TD} (h : to δ G fun x G1 => tl δ G1 fun y G2 => ∃ (l : Addr) (a : Int) (xs : List DV), x = .ref l ∧ y = .int a ∧ G2 l = some (.lst xs) ∧ 0 ≤ a ∧ a ≤ xs.length ∧ nx δ (dupd G2 l (.lst (xs.take a.toNat)))) : dDelT to tl ⟨nx, rt, bk, ct⟩ δ G := h
end DD
/-! methods of texts over data -/
namespace DD
open PySem PySem.W L2 SX Cm
section
variable {X : Cx}
/-- a.split(b) -/
def bSplit : DM := fun x ds G Q => ∃ (a b : Str), x = .str a ∧ ds = [.str b] ∧ (b.length == 0) = false ∧ a.length + 2 ≤ sizeLine ∧ ∀ p, G p = none → Q (.ref p) (dupd G p (.lst ((Txt.split a b).map .str)))
theorem md_split : MtD X "str.split" bSplit := by
  refine ⟨_, mt_split, fun x ds vx vs H G R Q rx rs w h f => ?_⟩
  obtain ⟨a, b, rfl, rfl, hb, hl, q⟩ := h
  cases rx
  cases rs with
  | cons r rt =>
    cases rt
    cases r
    refine ⟨a, b, rfl, rfl, hb, hl, fun p np => ?_⟩
    have s' := same_new np (.lst ((Txt.split a b).map V.str))
    exact f _ _ _ _ (q p (w.free np)) (TKs.of s') (w.new np fun O => ⟨_, upd_same, RVs.strs' _⟩) (.ref p)
theorem w_split {a b : Str} {G : DG} {Q : DK} (hb : (b.length == 0) = false) (hl : a.length + 2 ≤ sizeLine) (h : ∀ p, G p = none → Q (.ref p) (dupd G p (.lst ((Txt.split a b).map .str)))) : bSplit (.str a) [.str b] G Q := ⟨a, b, rfl, rfl, hb, hl, h⟩
end
end DD
/-! kinds as they are, and as data -/
namespace DD
open PySem PySem.W L2 SX Cm
mutual
inductive Kd where
  | num
  | opn (z : Str)
  | lst (k : Kd)
  | row (a b : Sk)
inductive Sk where
  | mk (r : Str) (ks : List Kd)
end
def Sk.rest : Sk → Str
  | .mk r _ => r
def Sk.ks : Sk → List Kd
  | .mk _ ks => ks
mutual
def eK : Kd → DV
  | .num => .tup [.str "number"]
  | .opn z => .tup [.str "open", .str z]
  | .lst k => .tup [.str "list", eK k]
  | .row a b => .tup [.str "row", eS a, eS b]
def eS : Sk → DV
  | .mk r ks => .tup [.str r, .tup (eKs ks)]
def eKs : List Kd → List DV
  | [] => []
  | k :: r => eK k :: eKs r
end
mutual
/-- how many parts -/
def szK : Kd → Nat
  | .num => 1
  | .opn _ => 1
  | .lst k => 1 + szK k
  | .row a b => 1 + szS a + szS b
def szS : Sk → Nat
  | .mk _ ks => 1 + szKs ks
def szKs : List Kd → Nat
  | [] => 0
  | k :: r => szK k + szKs r
end
mutual
def dpK : Kd → Nat
  | .num => 0
  | .opn _ => 0
  | .lst k => 1 + dpK k
  | .row a b => 1 + max (dpS a) (dpS b)
def dpS : Sk → Nat
  | .mk _ ks => dpKs ks
def dpKs : List Kd → Nat
  | [] => 0
  | k :: r => max (dpK k) (dpKs r)
end
mutual
/-- its open things and its rests -/
def NK (P R : Str → Prop) : Kd → Prop
  | .num => True
  | .opn z => P z
  | .lst k => NK P R k
  | .row a b => NS P R a ∧ NS P R b
def NS (P R : Str → Prop) : Sk → Prop
  | .mk r ks => R r ∧ NKs P R ks
def NKs (P R : Str → Prop) : List Kd → Prop
  | [] => True
  | k :: r => NK P R k ∧ NKs P R r
end
mutual
theorem NK.imp {P R P' R' : Str → Prop} (hp : ∀ z, P z → P' z) (hr : ∀ z, R z → R' z) : ∀ k, NK P R k → NK P' R' k
  | .num, _ => trivial
  | .opn z, h => hp z h
  | .lst k, h => NK.imp hp hr k h
  | .row a b, h => ⟨NS.imp hp hr a h.1, NS.imp hp hr b h.2⟩
theorem NS.imp {P R P' R' : Str → Prop} (hp : ∀ z, P z → P' z) (hr : ∀ z, R z → R' z) : ∀ k, NS P R k → NS P' R' k
  | .mk r ks, h => ⟨hr r h.1, NKs.imp hp hr ks h.2⟩
theorem NKs.imp {P R P' R' : Str → Prop} (hp : ∀ z, P z → P' z) (hr : ∀ z, R z → R' z) : ∀ k, NKs P R k → NKs P' R' k
  | [], _ => trivial
  | k :: r, h => ⟨NK.imp hp hr k h.1, NKs.imp hp hr r h.2⟩
end
/-! ### filling -/
mutual
def fK (f : Str → Kd) (g : Str → Sk) : Kd → Kd
  | .num => .num
  | .opn z => f z
  | .lst k => .lst (fK f g k)
  | .row a b => .row (fS f g a) (fS f g b)
def fS (f : Str → Kd) (g : Str → Sk) : Sk → Sk
  | .mk r ks => .mk (g r).rest ((g r).ks ++ fKs f g ks)
def fKs (f : Str → Kd) (g : Str → Sk) : List Kd → List Kd
  | [] => []
  | k :: r => fK f g k :: fKs f g r
end
/-! one filling and then another one -/
/-! ### marks -/
/-! ### comparing kinds -/
end DD
/-! decks of the form [cells, number, number], as a thing of the store -/
namespace DD
open PySem PySem.W L2 SX Cm
/-- a deck stands at d, its cells at c -/
structure Deck (H : Hp) (d c : Addr) : Prop where
  ne : d ≠ c
  at_ : ∃ (s k : Int), H d = some (.lst [.ref c, .int s, .int k])
  cells : ∃ ms : List Int, H c = some (.lst (ms.map V.int)) ∧ ms.length ≤ 1000
theorem Deck.new {H : Hp} {d c p : Addr} {o : HO} (D : Deck H d c) (h : H p = none) : Deck (upd H p o) d c := by
  obtain ⟨s, k, e⟩ := D.at_
  obtain ⟨ms, e2, l⟩ := D.cells
  exact ⟨D.ne, ⟨s, k, kn e h⟩, ms, kn e2 h, l⟩
theorem Deck.same {H H' : Hp} {d c : Addr} (D : Deck H d c) (s : Same H H') : Deck H' d c := by
  obtain ⟨a, k, e⟩ := D.at_
  obtain ⟨ms, e2, l⟩ := D.cells
  exact ⟨D.ne, ⟨a, k, s _ _ e⟩, ms, s _ _ e2, l⟩
theorem Deck.nd {H : Hp} {d c p : Addr} (D : Deck H d c) (h : H p = none) : p ∉ [d, c] := by
  obtain ⟨a, k, e⟩ := D.at_
  obtain ⟨ms, e2, l⟩ := D.cells
  intro z
  rcases List.mem_cons.mp z with z | z
  · rw [z, e] at h; cases h
  · rw [List.mem_singleton.mp z, e2] at h; cases h
theorem Deck.put {H : Hp} {d c p : Addr} {o : HO} (D : Deck H d c) (h : p ∉ [d, c]) : Deck (upd H p o) d c := by
  obtain ⟨s, k, e⟩ := D.at_
  obtain ⟨ms, e2, l⟩ := D.cells
  have h1 : d ≠ p := fun z => h (by rw [← z]; exact List.mem_cons_self ..)
  have h2 : c ≠ p := fun z => h (by rw [← z]; exact List.mem_cons_of_mem _ (List.mem_singleton.mpr rfl))
  exact ⟨D.ne, ⟨s, k, by rw [upd_ne h1]; exact e⟩, ms, by rw [upd_ne h2]; exact e2, l⟩
def dkO (d c : Addr) : DO := .abs [d, c] (fun H => Deck H d c)
/-- there is a deck -/
def HasDk (G : DG) (d : Addr) : Prop := ∃ c, G d = some (dkO d c)
abbrev A_L_draw : List Str := ["_law_deck_here", "_law_most"]
theorem HasDk.new {G : DG} {d p : Addr} {o : DO} (h : HasDk G d) (n : G p = none) : HasDk (dupd G p o) d := by
  obtain ⟨c, h⟩ := h
  exact ⟨c, by rw [dupd_ne (ne_some h n)]; exact h⟩
theorem HasDk.put {G : DG} {d p : Addr} {o : DO} (h : HasDk G d) (n : d ≠ p) : HasDk (dupd G p o) d := by
  obtain ⟨c, h⟩ := h
  exact ⟨c, by rw [dupd_ne n]; exact h⟩
theorem HasDk.sub {G G' : DG} {d : Addr} (h : HasDk G d) (s : Sub G G') : HasDk G' d := by
  obtain ⟨c, h⟩ := h
  exact ⟨c, s _ _ h⟩
theorem HasDk.ne {G : DG} {d p : Addr} {ds : List DV} (h : HasDk G d) (e : G p = some (.lst ds)) : d ≠ p := fun z => by
  obtain ⟨c, h⟩ := h
  rw [z, e] at h; cases h
theorem HasDk.neD {G : DG} {d p : Addr} {ds : List (Key × DV)} (h : HasDk G d) (e : G p = some (.dct ds)) : d ≠ p := fun z => by
  obtain ⟨c, h⟩ := h
  rw [z, e] at h; cases h
def spLaw (K : PySem.W.Frag) : Sp := fun vs H Q _ => ∃ (a : Addr) (ns : List Int), vs = [.ref a] ∧ SqL K H a (ns.map V.int) ∧ ns.length ≤ 63 ∧ ∀ H', Q (.bl true) H'
theorem pick {α : Type} {xs : List α} {r : Int} {n : Nat} (h0 : 0 ≤ r) (h1 : r < n) (hl : xs.length = n) : ∃ x, x ∈ xs ∧ atI xs r = some x := by
  obtain ⟨i, rfl⟩ := Int.eq_ofNat_of_zero_le h0
  have hi : i < xs.length := by omega
  exact ⟨xs[i], List.getElem_mem hi, atI_nat (List.getElem?_eq_getElem hi)⟩
theorem int2 {α : Type} {a b : α} (t : Bool) : atI [a, b] (if t = true then (1 : Int) else 0) = some (if t = true then b else a) := by
  cases t
  · exact atI_nat (j := 0) rfl
  · exact atI_nat (j := 1) rfl
/-! lists -/
def dRevL (te : TD) : TD := fun δ G Q => te δ G fun x G1 => ∃ p ds, x = .ref p ∧ Ls G1 p ds ∧ ∀ r, G1 r = none → Q (.ref r) (dupd G1 r (.lst ds.reverse))
theorem de_revL {X : Cx} {e : Expr} {te : TD} {k : Nat} {p1 p2 p3 pos : Pos} (he : DE X e te) : DE X (.Subscript e (.Slice none none (some (.UnaryOp .USub (.Constant (.int 1) k p1) p2)) p3) pos) (dRevL te) := by
  refine PE_mono (L2.pe_revL he) fun σ H Q ⟨δ, G, R, sl, w, q, f⟩ => ⟨δ, G, _, sl, w, q, fun x G1 vx H1 q1 t1 w1 r1 => ?_⟩
  obtain ⟨p, ds, rfl, ls, q⟩ := q1
  cases r1
  obtain ⟨xs, s, r⟩ := wd_seq w1 ls
  refine ⟨p, xs, rfl, s, fun r' nr => ?_⟩
  have s' := same_new nr (.lst xs.reverse)
  exact f _ _ _ _ (q r' (w1.free nr)) (t1.trans (TKs.of s')) (w1.new nr fun O => ⟨_, upd_same, r.reverse.mono (.of s')⟩) (.ref r')
theorem w_revL {te : TD} {δ : DSt} {G : DG} {Q : DK} (h : te δ G fun x G1 => ∃ p ds, x = .ref p ∧ Ls G1 p ds ∧ ∀ r, G1 r = none → Q (.ref r) (dupd G1 r (.lst ds.reverse))) : dRevL te δ G Q := h
end DD
/-! more steps: dicts, targets, signs -/
namespace DD
open PySem PySem.W L2 SX Cm
section
variable {nx : DSt → DG → Prop} {rt : DK} {bk ct : DSt → DG → Prop} {δ : DSt} {G : DG} {Q : DK} {te td ti tv : TD}
theorem w_dnew (h : ∀ p, G p = none → Q (.ref p) (dupd G p (.dct []))) : dDNew δ G Q := h
theorem w_dget (h : td δ G fun x G1 => ti δ G1 fun y G2 => ∃ p kvs z v, x = .ref p ∧ y = .str z ∧ G2 p = some (.dct kvs) ∧ valD kvs (keyD z) = some v ∧ Q v G2) : dDGet td ti δ G Q := h
theorem w_dget2 (h : td δ G fun x G1 => ∃ p, x = .ref p ∧ (∃ kvs, G1 p = some (.dct kvs)) ∧ ti δ G1 fun y G2 => tv δ G2 fun u G3 => ∃ kvs z, y = .str z ∧ G3 p = some (.dct kvs) ∧ Q ((valD kvs (keyD z)).getD u) G3) : dDGet2 td ti tv δ G Q := h
theorem wx_get {k : Addr → Prop} {p : Addr} {kvs : List (Key × DV)} (e : G p = some (.dct kvs)) (h : k p) : ∃ p', DV.ref p = .ref p' ∧ (∃ kvs, G p' = some (.dct kvs)) ∧ k p' := ⟨p, rfl, ⟨kvs, e⟩, h⟩
theorem wx_get2 {k : List (Key × DV) → Str → Prop} {p : Addr} {kvs : List (Key × DV)} {z : Str} (e : G p = some (.dct kvs)) (h : k kvs z) : ∃ kvs' z', DV.str z = .str z' ∧ G p = some (.dct kvs') ∧ k kvs' z' := ⟨kvs, z, rfl, e, h⟩
theorem w_din {n : Bool} (h : ti δ G fun y G1 => td δ G1 fun x G2 => ∃ p kvs z, x = .ref p ∧ y = .str z ∧ G2 p = some (.dct kvs) ∧ Q (.bl (ng n (valD kvs (keyD z)).isSome)) G2) : dDIn n ti td δ G Q := h
theorem wx_in {k : List (Key × DV) → Str → Prop} {p : Addr} {kvs : List (Key × DV)} {z : Str} (e : G p = some (.dct kvs)) (h : k kvs z) : ∃ p' kvs' z', DV.ref p = .ref p' ∧ DV.str z = .str z' ∧ G p' = some (.dct kvs') ∧ k kvs' z' := ⟨p, kvs, z, rfl, rfl, e, h⟩
theorem w_dput (h : tv δ G fun v G1 => td δ G1 fun x G2 => ti δ G2 fun y G3 => ∃ p kvs z, x = .ref p ∧ y = .str z ∧ G3 p = some (.dct kvs) ∧ kvs.length < sizeLine ∧ nx δ (dupd G3 p (.dct (putD kvs (keyD z) v)))) : dDPut td ti tv ⟨nx, rt, bk, ct⟩ δ G := h
/-! targets -/
variable {k : DSt → DG → Prop}
theorem w_asgT {n : Nat} {t : TDGs} (h : te δ G fun d G1 => gT n t d δ G1 nx) : dAsg te (gT n t) ⟨nx, rt, bk, ct⟩ δ G := h
theorem g_T {n : Nat} {t : TDGs} {ds : List DV} (h : t ds δ G k) (e : ds.length = n := by rfl) : gT n t (.tup ds) δ G k := ⟨ds, rfl, e, h⟩
theorem g_C {i : Nat} {u : TDGs} {d : DV} {r : List DV} (h : u r (δ.set i (some d)) G k) : gNC (gN i) u (d :: r) δ G k := ⟨d, r, rfl, h⟩
theorem g_0 (h : k δ G) : gN0 [] δ G k := ⟨rfl, h⟩
/-! signs, texts, lists -/
theorem w_inS {n : Bool} {c : Nat} {b : Str} (h : Q (.bl (ng n (decide (c ∈ b.cps.toList)))) G) : bIn n (.str ⟨#[c]⟩) (.str b) G Q := ⟨c, rfl, h⟩
theorem w_inT {n : Bool} {z : Str} {ds : List DV} (hd : ds.all flatD = true) (h : Q (.bl (ng n (inD (.str z) ds))) G) : bIn n (.str z) (.tup ds) G Q := ⟨rfl, hd, h⟩
theorem w_inL {n : Bool} {z : Str} {p : Addr} {ds : List DV} (e : G p = some (.lst ds)) (hd : ds.all flatD = true) (h : Q (.bl (ng n (inD (.str z) ds))) G) : bIn n (.str z) (.ref p) G Q := ⟨ds, .inl e, rfl, hd, h⟩
theorem flat_strs : ∀ zs : List Str, (zs.map DV.str).all flatD = true
  | [] => rfl
  | z :: r => by rw [List.map_cons, List.all_cons, flat_strs r]; rfl
theorem inD_strs (z : Str) : ∀ zs : List Str, inD (.str z) (zs.map .str) = decide (z ∈ zs)
  | [] => (decide_eq_false (fun h => nomatch h)).symm
  | y :: r => by
    have ih := inD_strs z r
    unfold inD at ih ⊢
    rw [List.map_cons, List.map_cons]
    unfold inV at ih ⊢
    rw [List.any_cons, ih]
    have e : eqV (toV (.str y)) (toV (.str z)) = decide (y = z) := by
      show (y == z) = _
      by_cases h : y = z
      · rw [h, decide_eq_true rfl, beq_self_eq_true]
      · rw [decide_eq_false h, beq_eq_false_iff_ne.mpr h]
    rw [e]
    by_cases h : y = z
    · rw [decide_eq_true h, Bool.true_or, decide_eq_true (by rw [h]; exact List.mem_cons_self ..)]
    · rw [decide_eq_false h, Bool.false_or]
      exact decq ⟨fun g => List.mem_cons_of_mem _ g, fun g => by
        rcases List.mem_cons.mp g with g | g
        · exact absurd g.symm h
        · exact g⟩
theorem w_ixS {z : Str} {i : Int} {c : Nat} (l : z.length ≤ sizeLine) (h : atI z.cps.toList i = some c) (q : Q (.str ⟨#[c]⟩) G) : bIx (.str z) (.int i) G Q := ⟨l, c, h, q⟩
theorem w_slS {z : Str} {lo hi : Option Int} (l : z.length ≤ sizeLine) (h : Q (.str (cutS z lo hi)) G) : bSl (.str z) lo hi G Q := ⟨l, h⟩
theorem w_slL {p : Addr} {ds : List DV} {lo hi : Option Int} (e : G p = some (.lst ds)) (h : ∀ r, G r = none → Q (.ref r) (dupd G r (.lst (cutD ds lo hi)))) : bSl (.ref p) lo hi G Q := ⟨ds, .inl e, h⟩
theorem w_addL {p q : Addr} {xs ys : List DV} (ep : G p = some (.lst xs)) (eq : G q = some (.lst ys)) (l : xs.length + ys.length ≤ sizeLine) (h : ∀ r, G r = none → Q (.ref r) (dupd G r (.lst (xs ++ ys)))) : bAdd (.ref p) (.ref q) G Q := ⟨xs, ys, ep, eq, l, h⟩
theorem w_allL {p : Addr} {bs : List Bool} (e : G p = some (.lst (bs.map DV.bl))) (h : Q (.bl (bs.all id)) G) : bAll [.ref p] G Q := ⟨bs, .inl e, h⟩
end
theorem Sub.put {G G' : DG} {p : Addr} {o : DO} (s : Sub G G') (n : G p = none) : Sub G (dupd G' p o) := s.new n
end DD
/-! the plain steps of readings, each found by the head of what is to be shown -/
namespace DD
open PySem PySem.W L2 SX Cm
class WS (p : Prop) (q : outParam Prop) : Prop where
  im : q → p
theorem w_go {p q : Prop} [i : WS p q] (h : q) : p := i.im h
section
variable {nx : DSt → DG → Prop} {rt : DK} {bk ct : DSt → DG → Prop} {δ : DSt} {G : DG} {t u : TDS} {Q : DK} {QB : Bool → DG → Prop} {QA : List DV → DG → Prop} {te ta tb tc : TD} {tt tu : TDT} {ts : TDA}
instance iw_next  : WS (dNext ⟨nx, rt, bk, ct⟩ δ G) (nx δ G) := ⟨fun h => w_next h⟩
end
section
variable {nx : DSt → DG → Prop} {rt : DK} {bk ct : DSt → DG → Prop} {δ : DSt} {G : DG} {t u : TDS} {Q : DK} {QB : Bool → DG → Prop} {QA : List DV → DG → Prop} {te ta tb tc : TD} {tt tu : TDT} {ts : TDA}
instance iw_seq  : WS (dSeq t u ⟨nx, rt, bk, ct⟩ δ G) (t ⟨u ⟨nx, rt, bk, ct⟩, rt, bk, ct⟩ δ G) := ⟨fun h => w_seq h⟩
end
section
variable {nx : DSt → DG → Prop} {rt : DK} {bk ct : DSt → DG → Prop} {δ : DSt} {G : DG} {t u : TDS} {Q : DK} {QB : Bool → DG → Prop} {QA : List DV → DG → Prop} {te ta tb tc : TD} {tt tu : TDT} {ts : TDA}
instance iw_break  : WS (dBreak ⟨nx, rt, bk, ct⟩ δ G) (bk δ G) := ⟨fun h => w_break h⟩
end
section
variable {nx : DSt → DG → Prop} {rt : DK} {bk ct : DSt → DG → Prop} {δ : DSt} {G : DG} {t u : TDS} {Q : DK} {QB : Bool → DG → Prop} {QA : List DV → DG → Prop} {te ta tb tc : TD} {tt tu : TDT} {ts : TDA}
instance iw_cont  : WS (dCont ⟨nx, rt, bk, ct⟩ δ G) (ct δ G) := ⟨fun h => w_cont h⟩
end
section
variable {nx : DSt → DG → Prop} {rt : DK} {bk ct : DSt → DG → Prop} {δ : DSt} {G : DG} {t u : TDS} {Q : DK} {QB : Bool → DG → Prop} {QA : List DV → DG → Prop} {te ta tb tc : TD} {tt tu : TDT} {ts : TDA}
instance iw_drop  : WS (dDrop te ⟨nx, rt, bk, ct⟩ δ G) (te δ G fun _ G1 => nx δ G1) := ⟨fun h => w_drop h⟩
end
section
variable {nx : DSt → DG → Prop} {rt : DK} {bk ct : DSt → DG → Prop} {δ : DSt} {G : DG} {t u : TDS} {Q : DK} {QB : Bool → DG → Prop} {QA : List DV → DG → Prop} {te ta tb tc : TD} {tt tu : TDT} {ts : TDA}
instance iw_ret  : WS (dRet te ⟨nx, rt, bk, ct⟩ δ G) (te δ G rt) := ⟨fun h => w_ret h⟩
end
section
variable {nx : DSt → DG → Prop} {rt : DK} {bk ct : DSt → DG → Prop} {δ : DSt} {G : DG} {t u : TDS} {Q : DK} {QB : Bool → DG → Prop} {QA : List DV → DG → Prop} {te ta tb tc : TD} {tt tu : TDT} {ts : TDA}
instance iw_retN  : WS (dRetN ⟨nx, rt, bk, ct⟩ δ G) (rt .non G) := ⟨fun h => w_retN h⟩
end
section
variable {nx : DSt → DG → Prop} {rt : DK} {bk ct : DSt → DG → Prop} {δ : DSt} {G : DG} {t u : TDS} {Q : DK} {QB : Bool → DG → Prop} {QA : List DV → DG → Prop} {te ta tb tc : TD} {tt tu : TDT} {ts : TDA}
instance iw_ifS {c : TDT} : WS (dIfS c t u ⟨nx, rt, bk, ct⟩ δ G) (c δ G fun b G1 => if b = true then t ⟨nx, rt, bk, ct⟩ δ G1 else u ⟨nx, rt, bk, ct⟩ δ G1) := ⟨fun h => w_ifS h⟩
end
section
variable {nx : DSt → DG → Prop} {rt : DK} {bk ct : DSt → DG → Prop} {δ : DSt} {G : DG} {t u : TDS} {Q : DK} {QB : Bool → DG → Prop} {QA : List DV → DG → Prop} {te ta tb tc : TD} {tt tu : TDT} {ts : TDA}
instance iw_asg {i : Nat} : WS (dAsg te (gN i) ⟨nx, rt, bk, ct⟩ δ G) (te δ G fun d G1 => nx (δ.set i (some d)) G1) := ⟨fun h => w_asg h⟩
end
section
variable {nx : DSt → DG → Prop} {rt : DK} {bk ct : DSt → DG → Prop} {δ : DSt} {G : DG} {t u : TDS} {Q : DK} {QB : Bool → DG → Prop} {QA : List DV → DG → Prop} {te ta tb tc : TD} {tt tu : TDT} {ts : TDA}
instance iw_asgS  : WS (dAsg te (gSb ta tb) ⟨nx, rt, bk, ct⟩ δ G) (te δ G fun v G1 => ta δ G1 fun o G2 => tb δ G2 fun i G3 => bSet o i v G3 fun G4 => nx δ G4) := ⟨fun h => w_asgS h⟩
end
section
variable {nx : DSt → DG → Prop} {rt : DK} {bk ct : DSt → DG → Prop} {δ : DSt} {G : DG} {t u : TDS} {Q : DK} {QB : Bool → DG → Prop} {QA : List DV → DG → Prop} {te ta tb tc : TD} {tt tu : TDT} {ts : TDA}
instance iw_par {i j : Nat} : WS (dPar i j ts ⟨nx, rt, bk, ct⟩ δ G) (ts δ G fun ds G1 => ∃ a b, ds = [a, b] ∧ nx ((δ.set i (some a)).set j (some b)) G1) := ⟨fun h => w_par h⟩
end
section
variable {nx : DSt → DG → Prop} {rt : DK} {bk ct : DSt → DG → Prop} {δ : DSt} {G : DG} {t u : TDS} {Q : DK} {QB : Bool → DG → Prop} {QA : List DV → DG → Prop} {te ta tb tc : TD} {tt tu : TDT} {ts : TDA}
instance iw_c {d : DV} : WS (dC d δ G Q) (Q d G) := ⟨fun h => w_c h⟩
end
section
variable {nx : DSt → DG → Prop} {rt : DK} {bk ct : DSt → DG → Prop} {δ : DSt} {G : DG} {t u : TDS} {Q : DK} {QB : Bool → DG → Prop} {QA : List DV → DG → Prop} {te ta tb tc : TD} {tt tu : TDT} {ts : TDA}
instance iw_op {b : D2} : WS (dOp b ta tb δ G Q) (ta δ G fun x G1 => tb δ G1 fun y G2 => b x y G2 Q) := ⟨fun h => w_op h⟩
end
section
variable {nx : DSt → DG → Prop} {rt : DK} {bk ct : DSt → DG → Prop} {δ : DSt} {G : DG} {t u : TDS} {Q : DK} {QB : Bool → DG → Prop} {QA : List DV → DG → Prop} {te ta tb tc : TD} {tt tu : TDT} {ts : TDA}
instance iw_call {n : Nat} {sp : DSp} : WS (dCall n sp ts δ G Q) (ts δ G fun ds G1 => ds.length = n ∧ sp ds G1 Q) := ⟨fun h => w_call h⟩
end
section
variable {nx : DSt → DG → Prop} {rt : DK} {bk ct : DSt → DG → Prop} {δ : DSt} {G : DG} {t u : TDS} {Q : DK} {QB : Bool → DG → Prop} {QA : List DV → DG → Prop} {te ta tb tc : TD} {tt tu : TDT} {ts : TDA}
instance iw_CB {b : DC} : WS (dCB b ts δ G Q) (ts δ G fun ds G1 => b ds G1 Q) := ⟨fun h => w_CB h⟩
end
section
variable {nx : DSt → DG → Prop} {rt : DK} {bk ct : DSt → DG → Prop} {δ : DSt} {G : DG} {t u : TDS} {Q : DK} {QB : Bool → DG → Prop} {QA : List DV → DG → Prop} {te ta tb tc : TD} {tt tu : TDT} {ts : TDA}
instance iw_tup  : WS (dTup ts δ G Q) (ts δ G fun ds G1 => ds.length ≤ sizeLine ∧ Q (.tup ds) G1) := ⟨fun h => w_tup h⟩
end
section
variable {nx : DSt → DG → Prop} {rt : DK} {bk ct : DSt → DG → Prop} {δ : DSt} {G : DG} {t u : TDS} {Q : DK} {QB : Bool → DG → Prop} {QA : List DV → DG → Prop} {te ta tb tc : TD} {tt tu : TDT} {ts : TDA}
instance iw_lst  : WS (dLst ts δ G Q) (ts δ G fun ds G1 => ds.length ≤ sizeLine ∧ ∀ p, G1 p = none → Q (.ref p) (dupd G1 p (.lst ds))) := ⟨fun h => w_lst h⟩
end
section
variable {nx : DSt → DG → Prop} {rt : DK} {bk ct : DSt → DG → Prop} {δ : DSt} {G : DG} {t u : TDS} {Q : DK} {QB : Bool → DG → Prop} {QA : List DV → DG → Prop} {te ta tb tc : TD} {tt tu : TDT} {ts : TDA}
instance iw_nil  : WS (dNil δ G QA) (QA [] G) := ⟨fun h => w_nil h⟩
end
section
variable {nx : DSt → DG → Prop} {rt : DK} {bk ct : DSt → DG → Prop} {δ : DSt} {G : DG} {t u : TDS} {Q : DK} {QB : Bool → DG → Prop} {QA : List DV → DG → Prop} {te ta tb tc : TD} {tt tu : TDT} {ts : TDA}
instance iw_cons  : WS (dCons te ts δ G QA) (te δ G fun x G1 => ts δ G1 fun xs G2 => QA (x :: xs) G2) := ⟨fun h => w_cons h⟩
end
section
variable {nx : DSt → DG → Prop} {rt : DK} {bk ct : DSt → DG → Prop} {δ : DSt} {G : DG} {t u : TDS} {Q : DK} {QB : Bool → DG → Prop} {QA : List DV → DG → Prop} {te ta tb tc : TD} {tt tu : TDT} {ts : TDA}
instance iw_sl {tl th : TDO} : WS (dSl te tl th δ G Q) (te δ G fun x G1 => tl δ G1 fun l G2 => th δ G2 fun u G3 => bSl x l u G3 Q) := ⟨fun h => w_sl h⟩
end
section
variable {nx : DSt → DG → Prop} {rt : DK} {bk ct : DSt → DG → Prop} {δ : DSt} {G : DG} {t u : TDS} {Q : DK} {QB : Bool → DG → Prop} {QA : List DV → DG → Prop} {te ta tb tc : TD} {tt tu : TDT} {ts : TDA}
instance iw_none {QO : Option Int → DG → Prop} : WS (dNone δ G QO) (QO none G) := ⟨fun h => w_none h⟩
end
section
variable {nx : DSt → DG → Prop} {rt : DK} {bk ct : DSt → DG → Prop} {δ : DSt} {G : DG} {t u : TDS} {Q : DK} {QB : Bool → DG → Prop} {QA : List DV → DG → Prop} {te ta tb tc : TD} {tt tu : TDT} {ts : TDA}
instance iw_some {QO : Option Int → DG → Prop} : WS (dSome te δ G QO) (te δ G fun d G' => ∃ i, d = .int i ∧ QO (some i) G') := ⟨fun h => w_some h⟩
end
section
variable {nx : DSt → DG → Prop} {rt : DK} {bk ct : DSt → DG → Prop} {δ : DSt} {G : DG} {t u : TDS} {Q : DK} {QB : Bool → DG → Prop} {QA : List DV → DG → Prop} {te ta tb tc : TD} {tt tu : TDT} {ts : TDA}
instance iw_rev  : WS (dRev te δ G Q) (te δ G fun x G1 => ∃ ds, x = .tup ds ∧ Q (.tup ds.reverse) G1) := ⟨fun h => w_rev h⟩
end
section
variable {nx : DSt → DG → Prop} {rt : DK} {bk ct : DSt → DG → Prop} {δ : DSt} {G : DG} {t u : TDS} {Q : DK} {QB : Bool → DG → Prop} {QA : List DV → DG → Prop} {te ta tb tc : TD} {tt tu : TDT} {ts : TDA}
instance iw_neg  : WS (dNeg te δ G Q) (te δ G fun x G1 => ∃ i, x = .int i ∧ Q (.int (-i)) G1) := ⟨fun h => w_neg h⟩
end
section
variable {nx : DSt → DG → Prop} {rt : DK} {bk ct : DSt → DG → Prop} {δ : DSt} {G : DG} {t u : TDS} {Q : DK} {QB : Bool → DG → Prop} {QA : List DV → DG → Prop} {te ta tb tc : TD} {tt tu : TDT} {ts : TDA}
instance iw_ifE  : WS (dIf tt ta tb δ G Q) (tt δ G fun c G1 => if c = true then ta δ G1 Q else tb δ G1 Q) := ⟨fun h => w_ifE h⟩
end
section
variable {nx : DSt → DG → Prop} {rt : DK} {bk ct : DSt → DG → Prop} {δ : DSt} {G : DG} {t u : TDS} {Q : DK} {QB : Bool → DG → Prop} {QA : List DV → DG → Prop} {te ta tb tc : TD} {tt tu : TDT} {ts : TDA}
instance iw_andV  : WS (dAndV ta tb δ G Q) (ta δ G fun x G1 => ∃ c, x = .bl c ∧ if c = true then tb δ G1 Q else Q (.bl false) G1) := ⟨fun h => w_andV h⟩
end
section
variable {nx : DSt → DG → Prop} {rt : DK} {bk ct : DSt → DG → Prop} {δ : DSt} {G : DG} {t u : TDS} {Q : DK} {QB : Bool → DG → Prop} {QA : List DV → DG → Prop} {te ta tb tc : TD} {tt tu : TDT} {ts : TDA}
instance iw_orV  : WS (dOrV ta tb δ G Q) (ta δ G fun x G1 => ∃ c, x = .bl c ∧ if c = true then Q (.bl true) G1 else tb δ G1 Q) := ⟨fun h => w_orV h⟩
end
section
variable {nx : DSt → DG → Prop} {rt : DK} {bk ct : DSt → DG → Prop} {δ : DSt} {G : DG} {t u : TDS} {Q : DK} {QB : Bool → DG → Prop} {QA : List DV → DG → Prop} {te ta tb tc : TD} {tt tu : TDT} {ts : TDA}
instance iw_notV  : WS (dNotV ta δ G Q) (ta δ G fun x G1 => ∃ c, x = .bl c ∧ Q (.bl (!c)) G1) := ⟨fun h => w_notV h⟩
end
section
variable {nx : DSt → DG → Prop} {rt : DK} {bk ct : DSt → DG → Prop} {δ : DSt} {G : DG} {t u : TDS} {Q : DK} {QB : Bool → DG → Prop} {QA : List DV → DG → Prop} {te ta tb tc : TD} {tt tu : TDT} {ts : TDA}
instance iw_BM {T : String} {b : DM} : WS (dBM T b te ts δ G Q) (te δ G fun x G1 => rcv T x G1 ∧ ts δ G1 fun ds G2 => b x ds G2 Q) := ⟨fun h => w_BM h⟩
end
section
variable {nx : DSt → DG → Prop} {rt : DK} {bk ct : DSt → DG → Prop} {δ : DSt} {G : DG} {t u : TDS} {Q : DK} {QB : Bool → DG → Prop} {QA : List DV → DG → Prop} {te ta tb tc : TD} {tt tu : TDT} {ts : TDA}
instance iw_BM0 {T : String} {b : DM} : WS (dBM0 T b te δ G Q) (te δ G fun x G1 => rcv T x G1 ∧ b x [] G1 Q) := ⟨fun h => w_BM0 h⟩
end
section
variable {nx : DSt → DG → Prop} {rt : DK} {bk ct : DSt → DG → Prop} {δ : DSt} {G : DG} {t u : TDS} {Q : DK} {QB : Bool → DG → Prop} {QA : List DV → DG → Prop} {te ta tb tc : TD} {tt tu : TDT} {ts : TDA}
instance iw_rcvS {z : Str} {A : Prop} : WS (rcv "str" (.str z) G ∧ A) (A) := ⟨fun h => w_rcvS h⟩
end
section
variable {nx : DSt → DG → Prop} {rt : DK} {bk ct : DSt → DG → Prop} {δ : DSt} {G : DG} {t u : TDS} {Q : DK} {QB : Bool → DG → Prop} {QA : List DV → DG → Prop} {te ta tb tc : TD} {tt tu : TDT} {ts : TDA}
instance iw_test  : WS (dTest te δ G QB) (te δ G fun d G' => ∃ k, d = .bl k ∧ QB k G') := ⟨fun h => w_test h⟩
end
section
variable {nx : DSt → DG → Prop} {rt : DK} {bk ct : DSt → DG → Prop} {δ : DSt} {G : DG} {t u : TDS} {Q : DK} {QB : Bool → DG → Prop} {QA : List DV → DG → Prop} {te ta tb tc : TD} {tt tu : TDT} {ts : TDA}
instance iw_tru  : WS (dTru te δ G QB) (te δ G fun d G' => bTru d G' QB) := ⟨fun h => w_tru h⟩
end
section
variable {nx : DSt → DG → Prop} {rt : DK} {bk ct : DSt → DG → Prop} {δ : DSt} {G : DG} {t u : TDS} {Q : DK} {QB : Bool → DG → Prop} {QA : List DV → DG → Prop} {te ta tb tc : TD} {tt tu : TDT} {ts : TDA}
instance iw_and  : WS (dAnd tt tu δ G QB) (tt δ G fun c G1 => if c = true then tu δ G1 QB else QB false G1) := ⟨fun h => w_and h⟩
end
section
variable {nx : DSt → DG → Prop} {rt : DK} {bk ct : DSt → DG → Prop} {δ : DSt} {G : DG} {t u : TDS} {Q : DK} {QB : Bool → DG → Prop} {QA : List DV → DG → Prop} {te ta tb tc : TD} {tt tu : TDT} {ts : TDA}
instance iw_or  : WS (dOr tt tu δ G QB) (tt δ G fun c G1 => if c = true then QB true G1 else tu δ G1 QB) := ⟨fun h => w_or h⟩
end
section
variable {nx : DSt → DG → Prop} {rt : DK} {bk ct : DSt → DG → Prop} {δ : DSt} {G : DG} {t u : TDS} {Q : DK} {QB : Bool → DG → Prop} {QA : List DV → DG → Prop} {te ta tb tc : TD} {tt tu : TDT} {ts : TDA}
instance iw_not  : WS (dNot tt δ G QB) (tt δ G fun c G1 => QB (!c) G1) := ⟨fun h => w_not h⟩
end
section
variable {nx : DSt → DG → Prop} {rt : DK} {bk ct : DSt → DG → Prop} {δ : DSt} {G : DG} {t u : TDS} {Q : DK} {QB : Bool → DG → Prop} {QA : List DV → DG → Prop} {te ta tb tc : TD} {tt tu : TDT} {ts : TDA}
instance iw_yes  : WS (dYes δ G QB) (QB true G) := ⟨fun h => w_yes h⟩
end
section
variable {nx : DSt → DG → Prop} {rt : DK} {bk ct : DSt → DG → Prop} {δ : DSt} {G : DG} {t u : TDS} {Q : DK} {QB : Bool → DG → Prop} {QA : List DV → DG → Prop} {te ta tb tc : TD} {tt tu : TDT} {ts : TDA}
instance iw_truB {b : Bool} : WS (bTru (.bl b) G QB) (QB b G) := ⟨fun h => w_truB h⟩
end
section
variable {nx : DSt → DG → Prop} {rt : DK} {bk ct : DSt → DG → Prop} {δ : DSt} {G : DG} {t u : TDS} {Q : DK} {QB : Bool → DG → Prop} {QA : List DV → DG → Prop} {te ta tb tc : TD} {tt tu : TDT} {ts : TDA}
instance iw_truI {i : Int} : WS (bTru (.int i) G QB) (QB (i != 0) G) := ⟨fun h => w_truI h⟩
end
section
variable {nx : DSt → DG → Prop} {rt : DK} {bk ct : DSt → DG → Prop} {δ : DSt} {G : DG} {t u : TDS} {Q : DK} {QB : Bool → DG → Prop} {QA : List DV → DG → Prop} {te ta tb tc : TD} {tt tu : TDT} {ts : TDA}
instance iw_truN  : WS (bTru .non G QB) (QB false G) := ⟨fun h => w_truN h⟩
end
section
variable {nx : DSt → DG → Prop} {rt : DK} {bk ct : DSt → DG → Prop} {δ : DSt} {G : DG} {t u : TDS} {Q : DK} {QB : Bool → DG → Prop} {QA : List DV → DG → Prop} {te ta tb tc : TD} {tt tu : TDT} {ts : TDA}
instance iw_truT {ds : List DV} : WS (bTru (.tup ds) G QB) (QB (!ds.isEmpty) G) := ⟨fun h => w_truT h⟩
end
section
variable {nx : DSt → DG → Prop} {rt : DK} {bk ct : DSt → DG → Prop} {δ : DSt} {G : DG} {t u : TDS} {Q : DK} {QB : Bool → DG → Prop} {QA : List DV → DG → Prop} {te ta tb tc : TD} {tt tu : TDT} {ts : TDA}
instance iw_addI {i j : Int} : WS (bAdd (.int i) (.int j) G Q) (Q (.int (i + j)) G) := ⟨fun h => w_addI h⟩
end
section
variable {nx : DSt → DG → Prop} {rt : DK} {bk ct : DSt → DG → Prop} {δ : DSt} {G : DG} {t u : TDS} {Q : DK} {QB : Bool → DG → Prop} {QA : List DV → DG → Prop} {te ta tb tc : TD} {tt tu : TDT} {ts : TDA}
instance iw_subI {i j : Int} : WS (bSub (.int i) (.int j) G Q) (Q (.int (i - j)) G) := ⟨fun h => w_subI h⟩
end
section
variable {nx : DSt → DG → Prop} {rt : DK} {bk ct : DSt → DG → Prop} {δ : DSt} {G : DG} {t u : TDS} {Q : DK} {QB : Bool → DG → Prop} {QA : List DV → DG → Prop} {te ta tb tc : TD} {tt tu : TDT} {ts : TDA}
instance iw_cmpI {g : Int → Int → Bool} {s : List Nat → List Nat → Bool} {i j : Int} : WS (bCmp g s (.int i) (.int j) G Q) (Q (.bl (g i j)) G) := ⟨fun h => w_cmpI h⟩
end
section
variable {nx : DSt → DG → Prop} {rt : DK} {bk ct : DSt → DG → Prop} {δ : DSt} {G : DG} {t u : TDS} {Q : DK} {QB : Bool → DG → Prop} {QA : List DV → DG → Prop} {te ta tb tc : TD} {tt tu : TDT} {ts : TDA}
instance iw_cmpS {g : Int → Int → Bool} {s : List Nat → List Nat → Bool} {i j : Str} : WS (bCmp g s (.str i) (.str j) G Q) (Q (.bl (s i.cps.toList j.cps.toList)) G) := ⟨fun h => w_cmpS h⟩
end
section
variable {nx : DSt → DG → Prop} {rt : DK} {bk ct : DSt → DG → Prop} {δ : DSt} {G : DG} {t u : TDS} {Q : DK} {QB : Bool → DG → Prop} {QA : List DV → DG → Prop} {te ta tb tc : TD} {tt tu : TDT} {ts : TDA}
instance iw_eqSS {a b : Str} : WS (bEq false (.str a) (.str b) G Q) (Q (.bl (decide (a = b))) G) := ⟨fun h => w_eqSS h⟩
end
section
variable {nx : DSt → DG → Prop} {rt : DK} {bk ct : DSt → DG → Prop} {δ : DSt} {G : DG} {t u : TDS} {Q : DK} {QB : Bool → DG → Prop} {QA : List DV → DG → Prop} {te ta tb tc : TD} {tt tu : TDT} {ts : TDA}
instance iw_eqII {a b : Int} : WS (bEq false (.int a) (.int b) G Q) (Q (.bl (decide (a = b))) G) := ⟨fun h => w_eqII h⟩
end
section
variable {nx : DSt → DG → Prop} {rt : DK} {bk ct : DSt → DG → Prop} {δ : DSt} {G : DG} {t u : TDS} {Q : DK} {QB : Bool → DG → Prop} {QA : List DV → DG → Prop} {te ta tb tc : TD} {tt tu : TDT} {ts : TDA}
instance iw_eqBB {a b : Bool} : WS (bEq false (.bl a) (.bl b) G Q) (Q (.bl (decide (a = b))) G) := ⟨fun h => w_eqBB h⟩
end
section
variable {nx : DSt → DG → Prop} {rt : DK} {bk ct : DSt → DG → Prop} {δ : DSt} {G : DG} {t u : TDS} {Q : DK} {QB : Bool → DG → Prop} {QA : List DV → DG → Prop} {te ta tb tc : TD} {tt tu : TDT} {ts : TDA}
instance iw_neSS {a b : Str} : WS (bEq true (.str a) (.str b) G Q) (Q (.bl (!decide (a = b))) G) := ⟨fun h => w_neSS h⟩
end
section
variable {nx : DSt → DG → Prop} {rt : DK} {bk ct : DSt → DG → Prop} {δ : DSt} {G : DG} {t u : TDS} {Q : DK} {QB : Bool → DG → Prop} {QA : List DV → DG → Prop} {te ta tb tc : TD} {tt tu : TDT} {ts : TDA}
instance iw_neII {a b : Int} : WS (bEq true (.int a) (.int b) G Q) (Q (.bl (!decide (a = b))) G) := ⟨fun h => w_neII h⟩
end
section
variable {nx : DSt → DG → Prop} {rt : DK} {bk ct : DSt → DG → Prop} {δ : DSt} {G : DG} {t u : TDS} {Q : DK} {QB : Bool → DG → Prop} {QA : List DV → DG → Prop} {te ta tb tc : TD} {tt tu : TDT} {ts : TDA}
instance iw_neBB {a b : Bool} : WS (bEq true (.bl a) (.bl b) G Q) (Q (.bl (!decide (a = b))) G) := ⟨fun h => w_neBB h⟩
end
section
variable {nx : DSt → DG → Prop} {rt : DK} {bk ct : DSt → DG → Prop} {δ : DSt} {G : DG} {t u : TDS} {Q : DK} {QB : Bool → DG → Prop} {QA : List DV → DG → Prop} {te ta tb tc : TD} {tt tu : TDT} {ts : TDA}
instance iw_eqSN {a : Str} {n : Bool} : WS (bEq n (.str a) .non G Q) (Q (.bl n) G) := ⟨fun h => w_eqSN h⟩
end
section
variable {nx : DSt → DG → Prop} {rt : DK} {bk ct : DSt → DG → Prop} {δ : DSt} {G : DG} {t u : TDS} {Q : DK} {QB : Bool → DG → Prop} {QA : List DV → DG → Prop} {te ta tb tc : TD} {tt tu : TDT} {ts : TDA}
instance iw_eqIN {a : Int} {n : Bool} : WS (bEq n (.int a) .non G Q) (Q (.bl n) G) := ⟨fun h => w_eqIN h⟩
end
section
variable {nx : DSt → DG → Prop} {rt : DK} {bk ct : DSt → DG → Prop} {δ : DSt} {G : DG} {t u : TDS} {Q : DK} {QB : Bool → DG → Prop} {QA : List DV → DG → Prop} {te ta tb tc : TD} {tt tu : TDT} {ts : TDA}
instance iw_eqSI {a : Str} {b : Int} {n : Bool} : WS (bEq n (.str a) (.int b) G Q) (Q (.bl n) G) := ⟨fun h => w_eqSI h⟩
end
section
variable {nx : DSt → DG → Prop} {rt : DK} {bk ct : DSt → DG → Prop} {δ : DSt} {G : DG} {t u : TDS} {Q : DK} {QB : Bool → DG → Prop} {QA : List DV → DG → Prop} {te ta tb tc : TD} {tt tu : TDT} {ts : TDA}
instance iw_eqIS {a : Int} {b : Str} {n : Bool} : WS (bEq n (.int a) (.str b) G Q) (Q (.bl n) G) := ⟨fun h => w_eqIS h⟩
end
section
variable {nx : DSt → DG → Prop} {rt : DK} {bk ct : DSt → DG → Prop} {δ : DSt} {G : DG} {t u : TDS} {Q : DK} {QB : Bool → DG → Prop} {QA : List DV → DG → Prop} {te ta tb tc : TD} {tt tu : TDT} {ts : TDA}
instance iw_eqNS {b : Str} {n : Bool} : WS (bEq n .non (.str b) G Q) (Q (.bl n) G) := ⟨fun h => w_eqNS h⟩
end
section
variable {nx : DSt → DG → Prop} {rt : DK} {bk ct : DSt → DG → Prop} {δ : DSt} {G : DG} {t u : TDS} {Q : DK} {QB : Bool → DG → Prop} {QA : List DV → DG → Prop} {te ta tb tc : TD} {tt tu : TDT} {ts : TDA}
instance iw_eqBS {a : Bool} {b : Str} {n : Bool} : WS (bEq n (.bl a) (.str b) G Q) (Q (.bl n) G) := ⟨fun h => w_eqBS h⟩
end
section
variable {nx : DSt → DG → Prop} {rt : DK} {bk ct : DSt → DG → Prop} {δ : DSt} {G : DG} {t u : TDS} {Q : DK} {QB : Bool → DG → Prop} {QA : List DV → DG → Prop} {te ta tb tc : TD} {tt tu : TDT} {ts : TDA}
instance iw_eqT0 {a : List DV} : WS (bEq false (.tup a) (.tup []) G Q) (Q (.bl a.isEmpty) G) := ⟨fun h => w_eqT0 h⟩
end
section
variable {nx : DSt → DG → Prop} {rt : DK} {bk ct : DSt → DG → Prop} {δ : DSt} {G : DG} {t u : TDS} {Q : DK} {QB : Bool → DG → Prop} {QA : List DV → DG → Prop} {te ta tb tc : TD} {tt tu : TDT} {ts : TDA}
instance iw_isN {x : DV} : WS (bIs false x .non G Q) (Q (.bl (decide (x = .non))) G) := ⟨fun h => w_isN h⟩
end
section
variable {nx : DSt → DG → Prop} {rt : DK} {bk ct : DSt → DG → Prop} {δ : DSt} {G : DG} {t u : TDS} {Q : DK} {QB : Bool → DG → Prop} {QA : List DV → DG → Prop} {te ta tb tc : TD} {tt tu : TDT} {ts : TDA}
instance iw_isnN {x : DV} : WS (bIs true x .non G Q) (Q (.bl (!decide (x = .non))) G) := ⟨fun h => w_isnN h⟩
end
section
variable {nx : DSt → DG → Prop} {rt : DK} {bk ct : DSt → DG → Prop} {δ : DSt} {G : DG} {t u : TDS} {Q : DK} {QB : Bool → DG → Prop} {QA : List DV → DG → Prop} {te ta tb tc : TD} {tt tu : TDT} {ts : TDA}
instance iw_ix0 {a : DV} {r : List DV} : WS (bIx (.tup (a :: r)) (.int 0) G Q) (Q a G) := ⟨fun h => w_ix0 h⟩
end
section
variable {nx : DSt → DG → Prop} {rt : DK} {bk ct : DSt → DG → Prop} {δ : DSt} {G : DG} {t u : TDS} {Q : DK} {QB : Bool → DG → Prop} {QA : List DV → DG → Prop} {te ta tb tc : TD} {tt tu : TDT} {ts : TDA}
instance iw_ix1 {a b : DV} {r : List DV} : WS (bIx (.tup (a :: b :: r)) (.int 1) G Q) (Q b G) := ⟨fun h => w_ix1 h⟩
end
section
variable {nx : DSt → DG → Prop} {rt : DK} {bk ct : DSt → DG → Prop} {δ : DSt} {G : DG} {t u : TDS} {Q : DK} {QB : Bool → DG → Prop} {QA : List DV → DG → Prop} {te ta tb tc : TD} {tt tu : TDT} {ts : TDA}
instance iw_ix2 {a b c : DV} {r : List DV} : WS (bIx (.tup (a :: b :: c :: r)) (.int 2) G Q) (Q c G) := ⟨fun h => w_ix2 h⟩
end
section
variable {nx : DSt → DG → Prop} {rt : DK} {bk ct : DSt → DG → Prop} {δ : DSt} {G : DG} {t u : TDS} {Q : DK} {QB : Bool → DG → Prop} {QA : List DV → DG → Prop} {te ta tb tc : TD} {tt tu : TDT} {ts : TDA}
instance iw_ix3 {a b c d : DV} {r : List DV} : WS (bIx (.tup (a :: b :: c :: d :: r)) (.int 3) G Q) (Q d G) := ⟨fun h => w_ix3 h⟩
end
section
variable {nx : DSt → DG → Prop} {rt : DK} {bk ct : DSt → DG → Prop} {δ : DSt} {G : DG} {t u : TDS} {Q : DK} {QB : Bool → DG → Prop} {QA : List DV → DG → Prop} {te ta tb tc : TD} {tt tu : TDT} {ts : TDA}
instance iw_slT {ds : List DV} {lo hi : Option Int} : WS (bSl (.tup ds) lo hi G Q) (Q (.tup (cutD ds lo hi)) G) := ⟨fun h => w_slT h⟩
end
section
variable {nx : DSt → DG → Prop} {rt : DK} {bk ct : DSt → DG → Prop} {δ : DSt} {G : DG} {t u : TDS} {Q : DK} {QB : Bool → DG → Prop} {QA : List DV → DG → Prop} {te ta tb tc : TD} {tt tu : TDT} {ts : TDA}
instance iw_lenT {ds : List DV} : WS (bLen [.tup ds] G Q) (Q (.int ds.length) G) := ⟨fun h => w_lenT h⟩
end
section
variable {nx : DSt → DG → Prop} {rt : DK} {bk ct : DSt → DG → Prop} {δ : DSt} {G : DG} {t u : TDS} {Q : DK} {QB : Bool → DG → Prop} {QA : List DV → DG → Prop} {te ta tb tc : TD} {tt tu : TDT} {ts : TDA}
instance iw_intB {k : Bool} : WS (bInt1 [.bl k] G Q) (Q (.int (if k = true then 1 else 0)) G) := ⟨fun h => w_intB h⟩
end
section
variable {nx : DSt → DG → Prop} {rt : DK} {bk ct : DSt → DG → Prop} {δ : DSt} {G : DG} {t u : TDS} {Q : DK} {QB : Bool → DG → Prop} {QA : List DV → DG → Prop} {te ta tb tc : TD} {tt tu : TDT} {ts : TDA}
instance iw_intI {k : Int} : WS (bInt1 [.int k] G Q) (Q (.int k) G) := ⟨fun h => w_intI h⟩
end
section
variable {nx : DSt → DG → Prop} {rt : DK} {bk ct : DSt → DG → Prop} {δ : DSt} {G : DG} {t u : TDS} {Q : DK} {QB : Bool → DG → Prop} {QA : List DV → DG → Prop} {te ta tb tc : TD} {tt tu : TDT} {ts : TDA}
instance iw_tupT {ds : List DV} : WS (bTuple [.tup ds] G Q) (Q (.tup ds) G) := ⟨fun h => w_tupT h⟩
end
section
variable {nx : DSt → DG → Prop} {rt : DK} {bk ct : DSt → DG → Prop} {δ : DSt} {G : DG} {t u : TDS} {Q : DK} {QB : Bool → DG → Prop} {QA : List DV → DG → Prop} {te ta tb tc : TD} {tt tu : TDT} {ts : TDA}
instance iw_for {tg : TDG} {tb : TDS} {ti : TDI} : WS (dFor ti tg tb ⟨nx, rt, bk, ct⟩ δ G) (ti δ G fun ds st G1 => ForG ds st tg tb nx rt δ G1) := ⟨fun h => w_for h⟩
end
section
variable {nx : DSt → DG → Prop} {rt : DK} {bk ct : DSt → DG → Prop} {δ : DSt} {G : DG} {t u : TDS} {Q : DK} {QB : Bool → DG → Prop} {QA : List DV → DG → Prop} {te ta tb tc : TD} {tt tu : TDT} {ts : TDA}
instance iw_lc {ti : TDI} {ld : TL} {vs : List Nat} : WS (dLc ti ld tt te vs δ G Q) (ti δ G fun ds st G1 => LcG ds st ld tt te (wipeD δ vs) G1 Q) := ⟨fun h => w_lc h⟩
end
section
variable {nx : DSt → DG → Prop} {rt : DK} {bk ct : DSt → DG → Prop} {δ : DSt} {G : DG} {t u : TDS} {Q : DK} {QB : Bool → DG → Prop} {QA : List DV → DG → Prop} {te ta tb tc : TD} {tt tu : TDT} {ts : TDA}
variable {RI : List DV → (DG → Prop) → DG → Prop}
instance iwi_tup  : WS (dITup te δ G RI) (te δ G fun d G1 => ∃ ds, d = .tup ds ∧ RI ds (fun _ => True) G1) := ⟨fun h => wi_tup h⟩
end
section
variable {nx : DSt → DG → Prop} {rt : DK} {bk ct : DSt → DG → Prop} {δ : DSt} {G : DG} {t u : TDS} {Q : DK} {QB : Bool → DG → Prop} {QA : List DV → DG → Prop} {te ta tb tc : TD} {tt tu : TDT} {ts : TDA}
variable {RI : List DV → (DG → Prop) → DG → Prop}
instance iwi_lst  : WS (dIList te δ G RI) (te δ G fun d G1 => ∃ p ds, d = .ref p ∧ Ls G1 p ds ∧ RI ds (fun G => Ls G p ds) G1) := ⟨fun h => wi_lst h⟩
end
section
variable {nx : DSt → DG → Prop} {rt : DK} {bk ct : DSt → DG → Prop} {δ : DSt} {G : DG} {t u : TDS} {Q : DK} {QB : Bool → DG → Prop} {QA : List DV → DG → Prop} {te ta tb tc : TD} {tt tu : TDT} {ts : TDA}
variable {RI : List DV → (DG → Prop) → DG → Prop}
instance iwi_str  : WS (dIStr te δ G RI) (te δ G fun d G1 => ∃ z, d = .str z ∧ RI (signs z) (fun _ => True) G1) := ⟨fun h => wi_str h⟩
end
section
variable {nx : DSt → DG → Prop} {rt : DK} {bk ct : DSt → DG → Prop} {δ : DSt} {G : DG} {t u : TDS} {Q : DK} {QB : Bool → DG → Prop} {QA : List DV → DG → Prop} {te ta tb tc : TD} {tt tu : TDT} {ts : TDA}
variable {RI : List DV → (DG → Prop) → DG → Prop}
instance iwi_rng  : WS (dIRng ts δ G RI) (ts δ G fun ds G1 => ∃ j : Int, ds = [.int j] ∧ -(2 ^ 62) ≤ j ∧ j < 2 ^ 62 ∧ RI (rng 0 j.toNat) (fun _ => True) G1) := ⟨fun h => wi_rng h⟩
end
section
variable {nx : DSt → DG → Prop} {rt : DK} {bk ct : DSt → DG → Prop} {δ : DSt} {G : DG} {t u : TDS} {Q : DK} {QB : Bool → DG → Prop} {QA : List DV → DG → Prop} {te ta tb tc : TD} {tt tu : TDT} {ts : TDA}
variable {RI : List DV → (DG → Prop) → DG → Prop}
instance iwi_rng2  : WS (dIRng2 ts δ G RI) (ts δ G fun ds G1 => ∃ i j : Int, ds = [.int i, .int j] ∧ (-(2 ^ 62) ≤ i ∧ i < 2 ^ 62 ∧ -(2 ^ 62) ≤ j ∧ j < 2 ^ 62) ∧ RI (rng i (j - i).toNat) (fun _ => True) G1) := ⟨fun h => wi_rng2 h⟩
end
section
variable {nx : DSt → DG → Prop} {rt : DK} {bk ct : DSt → DG → Prop} {δ : DSt} {G : DG} {t u : TDS} {Q : DK} {QB : Bool → DG → Prop} {QA : List DV → DG → Prop} {te ta tb tc : TD} {tt tu : TDT} {ts : TDA}
variable {RI : List DV → (DG → Prop) → DG → Prop}
instance iwi_enumT  : WS (dIEnumT ts δ G RI) (ts δ G fun xs G1 => ∃ ds, xs = [.tup ds] ∧ RI (nmbd ds) (fun _ => True) G1) := ⟨fun h => wi_enumT h⟩
end
section
variable {nx : DSt → DG → Prop} {rt : DK} {bk ct : DSt → DG → Prop} {δ : DSt} {G : DG} {t u : TDS} {Q : DK} {QB : Bool → DG → Prop} {QA : List DV → DG → Prop} {te ta tb tc : TD} {tt tu : TDT} {ts : TDA}
variable {RI : List DV → (DG → Prop) → DG → Prop}
instance iwi_enum  : WS (dIEnum ts δ G RI) (ts δ G fun xs G1 => ∃ p ds, xs = [.ref p] ∧ Ls G1 p ds ∧ RI (nmbd ds) (fun G => Ls G p ds) G1) := ⟨fun h => wi_enum h⟩
end
section
variable {nx : DSt → DG → Prop} {rt : DK} {bk ct : DSt → DG → Prop} {δ : DSt} {G : DG} {t u : TDS} {Q : DK} {QB : Bool → DG → Prop} {QA : List DV → DG → Prop} {te ta tb tc : TD} {tt tu : TDT} {ts : TDA}
variable {RI : List DV → (DG → Prop) → DG → Prop}
instance iwi_rev  : WS (dIRev ts δ G RI) (ts δ G fun xs G1 => ∃ p ds, xs = [.ref p] ∧ Ls G1 p ds ∧ RI ds.reverse (fun G => Ls G p ds) G1) := ⟨fun h => wi_rev h⟩
end
section
variable {nx : DSt → DG → Prop} {rt : DK} {bk ct : DSt → DG → Prop} {δ : DSt} {G : DG} {t u : TDS} {Q : DK} {QB : Bool → DG → Prop} {QA : List DV → DG → Prop} {te ta tb tc : TD} {tt tu : TDT} {ts : TDA}
variable {RI : List DV → (DG → Prop) → DG → Prop}
instance iwi_revR  : WS (dIRevR ts δ G RI) (ts δ G fun ds G1 => ∃ j : Int, ds = [.int j] ∧ 0 ≤ j ∧ j < 2 ^ 62 ∧ RI (rng 0 j.toNat).reverse (fun _ => True) G1) := ⟨fun h => wi_revR h⟩
end
section
variable {nx : DSt → DG → Prop} {rt : DK} {bk ct : DSt → DG → Prop} {δ : DSt} {G : DG} {t u : TDS} {Q : DK} {QB : Bool → DG → Prop} {QA : List DV → DG → Prop} {te ta tb tc : TD} {tt tu : TDT} {ts : TDA}
variable {RI : List DV → (DG → Prop) → DG → Prop}
instance ig_n {d : DV} {i : Nat} {k : DSt → DG → Prop} : WS (gN i d δ G k) (k (δ.set i (some d)) G) := ⟨fun h => g_n h⟩
end
section
variable {nx : DSt → DG → Prop} {rt : DK} {bk ct : DSt → DG → Prop} {δ : DSt} {G : DG} {Q : DK} {te td ti tv : TD}
instance iw_dnew  : WS (dDNew δ G Q) (∀ p, G p = none → Q (.ref p) (dupd G p (.dct []))) := ⟨fun h => w_dnew h⟩
end
section
variable {nx : DSt → DG → Prop} {rt : DK} {bk ct : DSt → DG → Prop} {δ : DSt} {G : DG} {Q : DK} {te td ti tv : TD}
instance iw_dget  : WS (dDGet td ti δ G Q) (td δ G fun x G1 => ti δ G1 fun y G2 => ∃ p kvs z v, x = .ref p ∧ y = .str z ∧ G2 p = some (.dct kvs) ∧ valD kvs (keyD z) = some v ∧ Q v G2) := ⟨fun h => w_dget h⟩
end
section
variable {nx : DSt → DG → Prop} {rt : DK} {bk ct : DSt → DG → Prop} {δ : DSt} {G : DG} {Q : DK} {te td ti tv : TD}
instance iw_dget2  : WS (dDGet2 td ti tv δ G Q) (td δ G fun x G1 => ∃ p, x = .ref p ∧ (∃ kvs, G1 p = some (.dct kvs)) ∧ ti δ G1 fun y G2 => tv δ G2 fun u G3 => ∃ kvs z, y = .str z ∧ G3 p = some (.dct kvs) ∧ Q ((valD kvs (keyD z)).getD u) G3) := ⟨fun h => w_dget2 h⟩
end
section
variable {nx : DSt → DG → Prop} {rt : DK} {bk ct : DSt → DG → Prop} {δ : DSt} {G : DG} {Q : DK} {te td ti tv : TD}
instance iw_din {n : Bool} : WS (dDIn n ti td δ G Q) (ti δ G fun y G1 => td δ G1 fun x G2 => ∃ p kvs z, x = .ref p ∧ y = .str z ∧ G2 p = some (.dct kvs) ∧ Q (.bl (ng n (valD kvs (keyD z)).isSome)) G2) := ⟨fun h => w_din h⟩
end
section
variable {nx : DSt → DG → Prop} {rt : DK} {bk ct : DSt → DG → Prop} {δ : DSt} {G : DG} {Q : DK} {te td ti tv : TD}
instance iw_dput  : WS (dDPut td ti tv ⟨nx, rt, bk, ct⟩ δ G) (tv δ G fun v G1 => td δ G1 fun x G2 => ti δ G2 fun y G3 => ∃ p kvs z, x = .ref p ∧ y = .str z ∧ G3 p = some (.dct kvs) ∧ kvs.length < sizeLine ∧ nx δ (dupd G3 p (.dct (putD kvs (keyD z) v)))) := ⟨fun h => w_dput h⟩
end
section
variable {nx : DSt → DG → Prop} {rt : DK} {bk ct : DSt → DG → Prop} {δ : DSt} {G : DG} {Q : DK} {te td ti tv : TD}
variable {k : DSt → DG → Prop}
instance iw_asgT {n : Nat} {t : TDGs} : WS (dAsg te (gT n t) ⟨nx, rt, bk, ct⟩ δ G) (te δ G fun d G1 => gT n t d δ G1 nx) := ⟨fun h => w_asgT h⟩
end
section
variable {nx : DSt → DG → Prop} {rt : DK} {bk ct : DSt → DG → Prop} {δ : DSt} {G : DG} {Q : DK} {te td ti tv : TD}
variable {k : DSt → DG → Prop}
instance ig_C {i : Nat} {u : TDGs} {d : DV} {r : List DV} : WS (gNC (gN i) u (d :: r) δ G k) (u r (δ.set i (some d)) G k) := ⟨fun h => g_C h⟩
end
section
variable {nx : DSt → DG → Prop} {rt : DK} {bk ct : DSt → DG → Prop} {δ : DSt} {G : DG} {Q : DK} {te td ti tv : TD}
variable {k : DSt → DG → Prop}
instance ig_0  : WS (gN0 [] δ G k) (k δ G) := ⟨fun h => g_0 h⟩
end
section
variable {nx : DSt → DG → Prop} {rt : DK} {bk ct : DSt → DG → Prop} {δ : DSt} {G : DG} {Q : DK} {te td ti tv : TD}
variable {k : DSt → DG → Prop}
instance iw_inS {n : Bool} {c : Nat} {b : Str} : WS (bIn n (.str ⟨#[c]⟩) (.str b) G Q) (Q (.bl (ng n (decide (c ∈ b.cps.toList)))) G) := ⟨fun h => w_inS h⟩
end
end DD
/-! steps that leave the store behind them unnamed -/
namespace DD
open PySem PySem.W L2 SX Cm
/-- all but p as ahead -/
def Upd (G : DG) (p : Addr) (G' : DG) : Prop := ∀ a, a ≠ p → G' a = G a
theorem Upd.mk {G : DG} {p : Addr} {o : DO} : Upd G p (dupd G p o) := fun a h => dupd_ne h
theorem Upd.tr {A B C : DG} {p : Addr} (h : Upd A p B) (g : Upd B p C) : Upd A p C := fun a n => (g a n).trans (h a n)
theorem Upd.refl (A : DG) (p : Addr) : Upd A p A := fun _ _ => rfl
theorem sub_get {G G' : DG} {a : Addr} {o : DO} (s : Sub G G') (h : G a = some o) : G' a = some o := s _ _ h
theorem upd_get {G G' : DG} {a p : Addr} {o : DO} (u : Upd G p G') (h : G a = some o) (n : a ≠ p) : G' a = some o := (u _ n).trans h
theorem sub_tr {B G G' : DG} (s2 : Sub G G') (s1 : Sub B G) : Sub B G' := s1.trans s2
theorem sub_up {B G G' : DG} {p : Addr} (u : Upd G p G') (s : Sub B G) (n : B p = none) : Sub B G' := fun a o e => by
  have : a ≠ p := fun z => by rw [z, n] at e; cases e
  rw [u a this]; exact s a o e
theorem upd_in {B G G' : DG} {p : Addr} (u : Upd G p G') (s : Upd B p G) : Upd B p G' := s.tr u
@[elab_as_elim] theorem abs_new {G : DG} {p : Addr} {o : DO} {M : DG → Prop} (np : G p = none) (h : ∀ G', Sub G G' → G' p = some o → M G') : M (dupd G p o) := h _ ((Sub.refl G).new np) dupd_same
@[elab_as_elim] theorem abs_upd {G : DG} {p : Addr} {o o' : DO} {M : DG → Prop} (e : G p = some o') (h : ∀ G', Upd G p G' → G' p = some o → M G') : M (dupd G p o) := h _ Upd.mk dupd_same
/-! comprehensions whose elements leave the store as it is -/
theorem lcs_pure {ds : List DV} {st : DG → Prop} {ld : TL} {tt : TDT} {te : TD} {δ : DSt} {G1 : DG} {Q : DK} (f : DV → Option DV) (hsc : ∀ G, Sub G1 G → st G) (hl : ds.length ≤ 1000000)
    (h : ∀ d ∈ ds, ∀ (G : DG) (k1 : DK) (k0 : DG → Prop), Sub G1 G → (∀ y, f d = some y → k1 y G) → (f d = none → k0 G) →
      ld d δ fun δ2 => tt δ2 G fun b G3 => if b = true then te δ2 G3 k1 else k0 G3)
    (q : ∀ p G', G1 p = none → Sub G1 G' → G' p = some (.lst (ds.filterMap f)) → Q (.ref p) G') : LcG ds st ld tt te δ G1 Q :=
  lcg_pure f (fun p o np => hsc _ ((Sub.refl G1).new np)) hl (fun d hd G k1 k0 ⟨p, acc, np, e⟩ h1 h0 => h d hd G k1 k0 (by rw [e]; exact (Sub.refl G1).new np) h1 h0) fun p np => q p _ np ((Sub.refl G1).new np) dupd_same
theorem lcs_each {ds : List DV} {st : DG → Prop} {ld : TL} {tt : TDT} {te : TD} {δ : DSt} {G1 : DG} {Q : DK} (E : Nat → DV → Prop) (hsc : ∀ G, Sub G1 G → st G) (hl : ds.length ≤ 1000000)
    (h : ∀ i d, ds[i]? = some d → ∀ (G : DG) (k1 : DK) (k0 : DG → Prop), Sub G1 G → (∀ y, E i y → k1 y G) →
      ld d δ fun δ2 => tt δ2 G fun b G3 => if b = true then te δ2 G3 k1 else k0 G3)
    (q : ∀ p G' acc, G1 p = none → Sub G1 G' → G' p = some (.lst acc) → acc.length = ds.length → (∀ i y, acc[i]? = some y → E i y) → Q (.ref p) G') : LcG ds st ld tt te δ G1 Q :=
  lcg_each E (fun p o np => hsc _ ((Sub.refl G1).new np)) hl (fun i d hd G k1 k0 ⟨p, acc, np, e⟩ h1 => h i d hd G k1 k0 (by rw [e]; exact (Sub.refl G1).new np) h1) fun p acc np la he => q p _ acc np ((Sub.refl G1).new np) dupd_same la he
/-- elements that may make objects of their own: the store grows -/
theorem lcs_grow {ds : List DV} {st : DG → Prop} {ld : TL} {tt : TDT} {te : TD} {δ : DSt} {G1 : DG} {Q : DK} (E : Nat → DV → Prop) (hsc : ∀ G, Sub G1 G → st G) (hl : ds.length ≤ 1000000)
    (h : ∀ i d, ds[i]? = some d → ∀ (G : DG) (k1 : DK) (k0 : DG → Prop), Sub G1 G → (∀ y G', E i y → Sub G G' → k1 y G') →
      ld d δ fun δ2 => tt δ2 G fun b G3 => if b = true then te δ2 G3 k1 else k0 G3)
    (q : ∀ p G' acc, G1 p = none → Sub G1 G' → G' p = some (.lst acc) → acc.length = ds.length → (∀ i y, acc[i]? = some y → E i y) → Q (.ref p) G') : LcG ds st ld tt te δ G1 Q := by
  intro p np
  refine ⟨fun i acc G => acc.length = i ∧ i ≤ ds.length ∧ (∀ j y, acc[j]? = some y → E j y) ∧ Sub G1 G ∧ G p = some (.lst acc), ⟨rfl, Nat.zero_le _, (fun _ _ h => nomatch h), (Sub.refl G1).new np, dupd_same⟩, fun i acc G ⟨_, _, _, s, _⟩ => hsc G s, ?_, ?_⟩
  · rintro i d acc G hd ⟨ea, hi, he, sG, ep⟩
    have hlt : i < ds.length := (List.getElem?_eq_some_iff.mp hd).1
    refine h i d hd _ _ _ sG fun y G' hy s' => ⟨s' _ _ ep, midlt (by omega), ?_, hlt, ?_, sub_up (Upd.mk (G := G') (p := p)) (sG.trans s') np, dupd_same⟩
    · rw [List.length_append, ea]; rfl
    · intro j z hz
      by_cases hj : j < acc.length
      · rw [List.getElem?_append_left hj] at hz; exact he j z hz
      · have hj' := (List.getElem?_eq_some_iff.mp hz).1
        rw [List.length_append, List.length_singleton] at hj'
        have : j = i := by omega
        subst this
        rw [List.getElem?_append_right (by omega), ea, Nat.sub_self] at hz
        cases hz
        exact hy
  · rintro acc G ⟨ea, _, he, sG, ep⟩
    exact q p G acc np sG ep ea he
end DD
/-! decks that are one list of cells, as a thing of the store -/
namespace DD
open PySem PySem.W L2 SX Cm
/-- a deck stands at d -/
def DeckB (H : Hp) (d : Addr) : Prop := ∃ ms : List Int, H d = some (.lst (ms.map V.int)) ∧ ms.length ≤ 10000
theorem DeckB.new {d p : Addr} {H : Hp} {o : HO} (a : DeckB H d) (h : H p = none) : DeckB (upd H p o) d := by
  obtain ⟨ms, e, l⟩ := a
  exact ⟨ms, kn e h, l⟩
theorem DeckB.same {H H' : Hp} {d : Addr} (D : DeckB H d) (s : Same H H') : DeckB H' d := by
  obtain ⟨ms, e, l⟩ := D
  exact ⟨ms, s _ _ e, l⟩
theorem DeckB.put {d p : Addr} {H : Hp} {o : HO} (a : DeckB H d) (h : p ∉ [d]) : DeckB (upd H p o) d := by
  obtain ⟨ms, e, l⟩ := a
  exact ⟨ms, by rw [upd_ne (fun z => h (List.mem_singleton.mpr z.symm))]; exact e, l⟩
theorem dmB {d : Addr} : d ∈ [d] := List.mem_singleton.mpr rfl
section
def spMixedB : Sp := fun vs H Q _ => ∃ n : Int, vs = [.int n] ∧ ∀ m : Int, 0 ≤ m → m < 2147483587 → Q (.int m) H
def spDeckB (K : PySem.W.Frag) : Sp := fun vs H Q _ => ∃ (a : Addr) (ns : List Int) (m : Int), vs = [.ref a, .int m] ∧ SqL K H a (ns.map V.int) ∧ ns.length ≤ 63 ∧ m ≤ 9000 ∧
  ∀ (p : Addr) (H' : Hp), Same H H' → H p = none → DeckB H' p → Q (.ref p) H'
def spTakeB : Sp := fun vs H Q _ => ∃ (d : Addr) (m : Int), vs = [.ref d, .int m] ∧ DeckB H d ∧ 0 < m ∧ m < 2 ^ 64 ∧
  ∀ (r : Int) (H' : Hp), 0 ≤ r → r < m → Kp [d] H H' → DeckB H' d → Q (.int r) H'
end
def dbO (d : Addr) : DO := .abs [d] (fun H => DeckB H d)
theorem deckB_loc {d : Addr} (H1 H2 : Hp) (h : ∀ b ∈ [d], H1 b = H2 b) (D : DeckB H1 d) : DeckB H2 d := by
  obtain ⟨ms, e, l⟩ := D
  exact ⟨ms, by rw [← h d dmB]; exact e, l⟩
theorem deckB_lst {H : Hp} {d : Addr} (D : DeckB H d) : ∀ b ∈ [d], ∃ xs, H b = some (.lst xs) := fun b hb => by
  obtain ⟨ms, e, l⟩ := D
  rw [List.mem_singleton.mp hb]; exact ⟨_, e⟩
/-- there is a deck -/
def HasDb (G : DG) (d : Addr) : Prop := G d = some (dbO d)
abbrev A_B_draw : List Str := ["_law_deck_here", "_law_most"]
def SP_drawB : DSp := fun ds G R => ∃ d m, ds = [.ref d, .int m] ∧ HasDb G d ∧ 0 < m ∧ m < 2 ^ 64 ∧ ∀ r, 0 ≤ r → r < m → R (.int r) G
theorem HasDb.new {G : DG} {d p : Addr} {o : DO} (h : HasDb G d) (n : G p = none) : HasDb (dupd G p o) d := by
  show dupd G p o d = _
  rw [dupd_ne (ne_some h n)]; exact h
theorem HasDb.put {G : DG} {d p : Addr} {o : DO} (h : HasDb G d) (n : d ≠ p) : HasDb (dupd G p o) d := by
  show dupd G p o d = _
  rw [dupd_ne n]; exact h
theorem HasDb.sub {G G' : DG} {d : Addr} (h : HasDb G d) (s : Sub G G') : HasDb G' d := s _ _ h
theorem HasDb.ne {G : DG} {d p : Addr} {ds : List DV} (h : HasDb G d) (e : G p = some (.lst ds)) : d ≠ p := fun z => by
  have h : G d = some (dbO d) := h
  rw [z, e] at h; cases h
theorem HasDb.neD {G : DG} {d p : Addr} {ds : List (Key × DV)} (h : HasDb G d) (e : G p = some (.dct ds)) : d ≠ p := fun z => by
  have h : G d = some (dbO d) := h
  rw [z, e] at h; cases h
section
variable {P : Program} {w : World} {K : Frag} {mg : Str → Option Value} {base : Heap}
theorem has_drawB {st : Stmt} (a : At K mg "_law_draw" st A_B_draw) (h : ∀ f fd, Fun K "_law_draw" "_law_draw" st f fd → FnOk P w K mg base CX0 2 f fd A_B_draw spTakeB) : Has P w K mg base 2 "_law_draw" A_B_draw SP_drawB := by
  refine has_of a h fun vs H Q E ⟨ds, G, R, r, wd, l, ⟨d, m, e, hk, m0, m1, q⟩, fin⟩ => ?_
  subst e
  cases r with
  | cons r1 r2 =>
    cases r2 with
    | cons r2 r3 =>
      cases r3
      cases r1
      cases r2
      obtain ⟨O, wo⟩ := id wd
      obtain ⟨_, _, D, _⟩ := wo.ob d _ hk
      refine ⟨d, m, rfl, D, m0, m1, fun r H' r0 r1 kp D' => ?_⟩
      have t : TKs K H H' := TKs.kp kp (deckB_lst D)
      exact fin _ G _ H' (q r r0 r1) t (wd.abs_keep hk kp t D' (deckB_lst D')) (.int r)
end
theorem law_goB {K : Frag} {t : TDS} {nx : St → Hp → Prop} {rt : VK} {bk ct : St → Hp → Prop} {σ : St} {δ : DSt} {H : Hp} {d : Addr} (dk : DeckB H d) (sl : Sl K H σ δ) (q : ∀ H', rt (.bl true) H') (h : ∀ G, HasDb G d → t ⟨fun _ _ => False, fun v _ => v = .bl true, fun _ _ => False, fun _ _ => False⟩ δ G) : upS K t ⟨nx, rt, bk, ct⟩ σ H := by
  refine ⟨⟨fun _ _ => False, fun v _ => v = .bl true, fun _ _ => False, fun _ _ => False⟩, δ, _, sl, wd_one (d := d) (L := [d]) (φ := fun H => DeckB H d) (List.mem_cons_self ..) dk (deckB_lst dk) deckB_loc, ?_, h _ dupd_same⟩
  exact ⟨fun _ _ _ _ h => h.elim, fun v G u H' e t w r => by cases e; cases r; exact q _, fun _ _ _ _ h => h.elim, fun _ _ _ _ h => h.elim⟩
theorem db_sub {G G' : DG} {d : Addr} (s : Sub G G') (h : HasDb G d) : HasDb G' d := h.sub s
theorem db_upd {G G' : DG} {d p : Addr} (u : Upd G p G') (h : HasDb G d) (e : ∃ ds, G p = some (.lst ds)) : HasDb G' d := by
  obtain ⟨ds, e⟩ := e
  exact (u d (h.ne e)).trans h
theorem db_updD {G G' : DG} {d p : Addr} (u : Upd G p G') (h : HasDb G d) (e : ∃ ds, G p = some (.dct ds)) : HasDb G' d := by
  obtain ⟨ds, e⟩ := e
  exact (u d (h.neD e)).trans h
end DD
namespace Cm
open PySem PySem.W L2 SX
/-! ### any value: None, truths, numbers, texts, tuples of such; lists and dicts are not looked into -/
mutual
inductive Bt (K : Frag) (L : List Addr) (H : Hp) : V → PyData → Prop
  | non : Bt K L H .non .none
  | bl (b : Bool) : Bt K L H (.bl b) (.bool b)
  | int (i : Int) : Bt K L H (.int i) (.int i)
  | str {x : Str} (h : Tx x 1000) : Bt K L H (.str x) (.str x)
  | lst {a : Addr} {xs : List V} : a ∉ L → H a = some (.lst xs) → Bt K L H (.ref a) (.list [])
  | dct {a : Addr} {kvs : List (Key × V)} : a ∉ L → H a = some (.dK kvs) → Bt K L H (.ref a) (.dict [])
  | tup {a : Addr} {xs : List V} {ds : List PyData} : SqT K H a xs → BtAll K L H xs ds → Bt K L H (.ref a) (.tuple ds)
inductive BtAll (K : Frag) (L : List Addr) (H : Hp) : List V → List PyData → Prop
  | nil : BtAll K L H [] []
  | cons {v : V} {vs : List V} {d : PyData} {ds : List PyData} : Bt K L H v d → BtAll K L H vs ds → BtAll K L H (v :: vs) (d :: ds)
end
/-- what such a value needs to stay -/
structure BKs (K : Frag) (L : List Addr) (H H' : Hp) : Prop where
  tk : TKs K H H'
  kp : Kp L H H'
theorem BKs.of {K : Frag} {L : List Addr} {H H' : Hp} (s : Same H H') : BKs K L H H' := ⟨TKs.of s, fun a o _ e => s a o e⟩
theorem BKs.trans {K : Frag} {L : List Addr} {H H1 H2 : Hp} (a : BKs K L H H1) (b : BKs K L H1 H2) : BKs K L H H2 := ⟨a.tk.trans b.tk, a.kp.trans b.kp⟩
mutual
theorem Bt.mono {K : Frag} {L : List Addr} {H H' : Hp} (k : BKs K L H H') : ∀ {v : V} {d : PyData}, Bt K L H v d → Bt K L H' v d
  | _, _, .non => .non
  | _, _, .bl b => .bl b
  | _, _, .int i => .int i
  | _, _, .str h => .str h
  | _, _, .lst n h => .lst n (k.kp _ _ n h)
  | _, _, .dct n h => .dct n (k.kp _ _ n h)
  | _, _, .tup h t => .tup (k.tk _ _ h) (BtAll.mono k t)
theorem BtAll.mono {K : Frag} {L : List Addr} {H H' : Hp} (k : BKs K L H H') : ∀ {v : List V} {d : List PyData}, BtAll K L H v d → BtAll K L H' v d
  | _, _, .nil => .nil
  | _, _, .cons h t => .cons (Bt.mono k h) (BtAll.mono k t)
end
theorem BtAll.len {K : Frag} {L : List Addr} {H : Hp} : ∀ {v : List V} {d : List PyData}, BtAll K L H v d → v.length = d.length
  | _, _, .nil => rfl
  | _, _, .cons _ t => congrArg (· + 1) (BtAll.len t)
theorem BtAll.append {K : Frag} {L : List Addr} {H : Hp} : ∀ {v v' : List V} {d d' : List PyData}, BtAll K L H v d → BtAll K L H v' d' → BtAll K L H (v ++ v') (d ++ d')
  | _, _, _, _, .nil, h => h
  | _, _, _, _, .cons h t, h' => .cons h (BtAll.append t h')
theorem BtAll.get {K : Frag} {L : List Addr} {H : Hp} : ∀ {v : List V} {d : List PyData} {i : Nat} {x : V}, BtAll K L H v d → v[i]? = some x → ∃ y, d[i]? = some y ∧ Bt K L H x y
  | _, _, i, x, .nil, h => by simp at h
  | _, _, 0, x, .cons h t, e => ⟨_, rfl, by cases e; exact h⟩
  | _, _, i + 1, x, .cons h t, e => by
    rw [List.getElem?_cons_succ] at e ⊢
    exact BtAll.get t e
theorem Bt.tupD {K : Frag} {L : List Addr} {H : Hp} {v : V} {ds : List PyData} (h : Bt K L H v (.tuple ds)) : ∃ a xs, v = .ref a ∧ SqT K H a xs ∧ BtAll K L H xs ds := by
  cases h with
  | tup h t => exact ⟨_, _, rfl, h, t⟩
def kTupB : PyData → Bool
  | .tuple _ => true
  | _ => false
def kStrB : PyData → Bool
  | .str _ => true
  | _ => false
def kIntB : PyData → Bool
  | .int _ => true
  | .bool _ => true
  | _ => false
def kBoolB : PyData → Bool
  | .bool _ => true
  | _ => false
/-- isinstance of such a value -/
theorem Bt.ty {K : Frag} {L : List Addr} {H : Hp} {v : V} {d : PyData} (h : Bt K L H v d) : ∃ t, TyX K H v t ∧ kitOne K t (.type "tuple") = some (kTupB d) ∧ kitOne K t (.type "str") = some (kStrB d) ∧ kitOne K t (.type "int") = some (kIntB d) ∧ kitOne K t (.type "bool") = some (kBoolB d) := by
  cases h with
  | non => exact ⟨_, .base .non, kit_ty (r := false) (by decide +kernel), kit_ty (r := false) (by decide +kernel), kit_ty (r := false) (by decide +kernel), kit_ty (r := false) (by decide +kernel)⟩
  | bl b => exact ⟨_, .base (.bl _), kit_ty (r := false) (by decide +kernel), kit_ty (r := false) (by decide +kernel), kit_ty (r := true) (by decide +kernel), kit_ty (r := true) (by decide +kernel)⟩
  | int i => exact ⟨_, .base (.int _), kit_ty (r := false) (by decide +kernel), kit_ty (r := false) (by decide +kernel), kit_ty (r := true) (by decide +kernel), kit_ty (r := false) (by decide +kernel)⟩
  | str h => exact ⟨_, .base (.str _), kit_ty (r := false) (by decide +kernel), kit_ty (r := true) (by decide +kernel), kit_ty (r := false) (by decide +kernel), kit_ty (r := false) (by decide +kernel)⟩
  | lst n h => exact ⟨_, .base (.lst h), kit_ty (r := false) (by decide +kernel), kit_ty (r := false) (by decide +kernel), kit_ty (r := false) (by decide +kernel), kit_ty (r := false) (by decide +kernel)⟩
  | dct n h => exact ⟨_, .base (.dK h), kit_ty (r := false) (by decide +kernel), kit_ty (r := false) (by decide +kernel), kit_ty (r := false) (by decide +kernel), kit_ty (r := false) (by decide +kernel)⟩
  | tup h t => exact ⟨_, tyTup h, kit_ty (r := true) (by decide +kernel), kit_ty (r := false) (by decide +kernel), kit_ty (r := false) (by decide +kernel), kit_ty (r := false) (by decide +kernel)⟩
/-! ### size and depth -/
mutual
def sz : PyData → Nat
  | .tuple ds => 1 + szs ds
  | _ => 1
def szs : List PyData → Nat
  | [] => 0
  | d :: r => sz d + szs r
end
end Cm
namespace K14
open PySem PySem.W L2 SX Cm DD
def top (i : Nat) : Stmt := PySem.Challenge.pw_takeleave_k14_whole_what_lies_beneath.main.body.getD i (.Pass ⟨0, 0, 0, 0⟩)
abbrev s_p_push_row : Stmt := top 5
abbrev s_p_is_shuffle : Stmt := top 9
abbrev s_p_taken_left : Stmt := top 10
abbrev s_p_is_basic : Stmt := top 13
abbrev s_p_number_thing : Stmt := top 16
abbrev s_p_plus_does : Stmt := top 17
abbrev s_p_minus_does : Stmt := top 18
abbrev s_p_times_does : Stmt := top 19
abbrev s_p_less_does : Stmt := top 20
abbrev s_p_same_does : Stmt := top 21
abbrev s_p_do_does : Stmt := top 22
abbrev s_p_dip_does : Stmt := top 23
abbrev s_p_if_does : Stmt := top 24
abbrev s_p_while_does : Stmt := top 25
abbrev s_p_repeat_does : Stmt := top 26
abbrev s_p_join_does : Stmt := top 27
abbrev s_p_wrap_does : Stmt := top 28
abbrev s_p_put_does : Stmt := top 29
abbrev s_p_part_does : Stmt := top 30
abbrev s_p_each_does : Stmt := top 31
abbrev s_p_effect_of : Stmt := top 33
abbrev s_p_effect_of_basic : Stmt := top 34
abbrev s_p_effect_of_shuffle : Stmt := top 35
abbrev s_p_top_of : Stmt := top 36
abbrev s_p_held_as : Stmt := top 37
abbrev s_p_row_told : Stmt := top 38
abbrev s_p_run : Stmt := top 40
abbrev s_p_states : Stmt := top 41
abbrev s_p_begun : Stmt := top 42
abbrev s_p_advance : Stmt := top 43
abbrev s_p_state_of : Stmt := top 44
abbrev s_L_mixed : Stmt := top 46
abbrev s_L_deck : Stmt := top 47
abbrev s_L_draw : Stmt := top 48
abbrev s_L_size : Stmt := top 49
abbrev s_L_cut : Stmt := top 50
abbrev s_L_number : Stmt := top 51
abbrev s_L_thing : Stmt := top 52
abbrev s_L_shuffle : Stmt := top 53
abbrev s_L_any_word : Stmt := top 54
abbrev s_L_book : Stmt := top 55
abbrev s_L_reckoned : Stmt := top 56
abbrev s_L_row_deed : Stmt := top 57
abbrev s_L_thing_deed : Stmt := top 58
abbrev s_L_kinds : Stmt := top 59
abbrev s_L_fit : Stmt := top 60
abbrev s_L_step : Stmt := top 61
abbrev s_L_play : Stmt := top 62
abbrev s_L_states : Stmt := top 63
abbrev s_L_words : Stmt := top 64
abbrev s_L_grown : Stmt := top 65
abbrev s_L_law : Stmt := top 66
section
variable {P : Program} {w : World} {K : PySem.W.Frag} {mg : Str → Option Value} {base : Heap}
theorem scMixed : FnScope ["_law_number_here"] ["_law_number_here"] (defScope s_L_mixed) := ⟨rfl, rfl, rfl, by decide +kernel, rfl, by decide +kernel, by decide +kernel⟩
theorem ok_mixed {f : Addr} {fd : FuncData} (F : Fun K "_law_mixed" "_law_mixed" s_L_mixed f fd) : FnOk P w K mg base CX0 1 f fd ["_law_number_here"] spMixedB := by
  refine F.ok scMixed (fun vs H Q E h => ?_) (fun cdv A outer s H vs Q E hr h => ?_)
  · obtain ⟨n, rfl, _⟩ := h
    rfl
  obtain ⟨n, rfl, q⟩ := h
  refine ⟨_, pss_cons (ps_set (i := 0) scMixed.nd rfl (.inl rfl) (pe_op op_mod (pe_op op_add (pe_op op_mul (pe_op op_mod (pv 0) pe_int) pe_int) pe_int) pe_int))
    (pss_cons (ps_set (i := 0) scMixed.nd rfl (.inl rfl) (pe_op op_mod (pe_op op_add (pe_op op_add (pe_op op_mul (pv 0) (pv 0)) (pe_op op_mul pe_int (pv 0))) pe_int) pe_int))
    (pss_one (ps_ret (pe_op op_mod (pe_op op_add (pe_op op_mul (pv 0) pe_int) pe_int) pe_int)))), ?_⟩
  refine ⟨_, rfl, _, _, rfl, rfl, (by show (0 : Int) < 2147483629; decide), _, _, rfl, rfl, .inr ⟨by decide, by decide⟩, _, _, rfl, rfl, _, _, rfl, rfl, (by show (0 : Int) < 2147483647; decide), ?_⟩
  generalize e1 : (n % 2147483629 * 48271 + 7) % 2147483647 = n1
  have b1 : 0 ≤ n1 ∧ n1 < 2147483647 := by omega
  refine ⟨_, rfl, _, rfl, _, _, rfl, rfl, .inl ⟨by omega, by omega⟩, _, rfl, _, _, rfl, rfl, .inl ⟨by decide, by decide⟩, _, _, rfl, rfl, _, _, rfl, rfl, _, _, rfl, rfl, (by show (0 : Int) < 2147483629; decide), ?_⟩
  generalize e2 : (n1 * n1 + 69621 * n1 + 11) % 2147483629 = n2
  have b2 : 0 ≤ n2 ∧ n2 < 2147483629 := by
    constructor
    · rw [← e2]; exact Int.emod_nonneg _ (by decide)
    · rw [← e2]; exact Int.emod_lt_of_pos _ (by decide)
  refine ⟨_, rfl, _, _, rfl, rfl, .inr ⟨by decide, by decide⟩, _, _, rfl, rfl, _, _, rfl, rfl, (by show (0 : Int) < 2147483587; decide), ?_⟩
  exact q _ (Int.emod_nonneg _ (by decide)) (Int.emod_lt_of_pos _ (by decide))
theorem scDeck : FnScope ["_law_script", "_law_most", "_law_deck_here", "_law_last"] ["_law_script", "_law_most"] (defScope s_L_deck) := ⟨rfl, rfl, rfl, by decide +kernel, rfl, by decide +kernel, by decide +kernel⟩
theorem ok_deck {f g : Addr} {fd gd : FuncData} (F : Fun K "_law_deck" "_law_deck" s_L_deck f fd) (G : FnOk P w K mg base CX0 1 g gd ["_law_number_here"] spMixedB) (bG : L2.Binds K gd ["_law_number_here"] []) (kG : PySem.W.keepIn K (.ref g) = true) (mG : mg "_law_mixed" = some (.ref g))
    (mlist : mg "list" = none) (msum : mg "sum" = none) (mlen : mg "len" = none) : FnOk P w K mg base CX0 2 f fd ["_law_script", "_law_most"] (spDeckB K) := by
  refine F.ok scDeck (fun vs H Q E h => ?_) (fun cdv A outer s H vs Q E hr h => ?_)
  · obtain ⟨a, ns, m, rfl, _⟩ := h
    rfl
  obtain ⟨a, ns, m, rfl, hS, h63, hm, q⟩ := h
  refine ⟨_, pss_cons (ps_set (i := 2) scDeck.nd rfl (.inl rfl) (pe_callTy call_list_of (by rfl) mlist (by decide +kernel) (pa_cons (pe_slice sl_list (pv 0) po_none (po_some pe_int)) pa_nil)))
    (pss_cons (ps_set (i := 3) scDeck.nd rfl (.inl rfl) (pe_op op_add pe_int (pe_op op_mod (pe_callB (cr_sum rfl) (by rfl) msum PyProof.Rows.boot_sum (pa_cons (pv 2) pa_nil)) pe_int)))
    (pss_cons (ps_while PassesOwn.never (pt_cmpR op_lt (pe_callB call_len_seq (by rfl) mlen PySem.boot_len (pa_cons (pv 2) pa_nil)) (pv 1) (nomark _))
      (pss_cons (ps_set (i := 3) scDeck.nd rfl (.inl rfl) (pe_call G hr rfl mG kG bG .nil pass0 (pa_cons (pe_op op_add (pv 3) (pe_callB call_len_seq (by rfl) mlen PySem.boot_len (pa_cons (pv 2) pa_nil))) pa_nil)))
      (pss_one (ps_expr (pe_bm PySem.F.plainAttrs_list PySem.F.slot_list_append PySem.F.type_list_append mt_append (pv 2) (pa_cons (pv 3) pa_nil))))))
    (pss_one (ps_ret (pe_revL (pv 2)))))), ?_⟩
  refine ⟨_, rfl, 63, rfl, a, _, rfl, hS, fun p1 n1 => ?_⟩
  obtain ⟨ds, e1, l1⟩ := cut_map V.int ns none (some 63)
  rw [e1]
  refine ⟨p1, _, rfl, .inl (SqL.of upd_same), fun p2 n2 => ?_⟩
  have s1 : Same H (upd H p1 (.lst (ds.map V.int))) := same_new n1 _
  have f2 : H p2 = none := s1.free n2
  refine ⟨_, rfl, p2, ds, rfl, SqL.of upd_same, _, _, rfl, rfl, (by show (0 : Int) < 2147483647; decide), _, _, rfl, rfl, ?_⟩
  refine ⟨fun k σ H' => ∃ (es : List Int) (l : Int), σ = [some (.ref a), some (.int m), some (.ref p2), some (.int l)] ∧ Same H H' ∧ H' p2 = some (.lst (es.map V.int)) ∧ es.length ≤ 9000 ∧ k = (m - es.length).toNat,
    ⟨_, ds, _, rfl, own_new s1 f2, upd_same, by omega, rfl⟩, ?_⟩
  rintro k σ H' ⟨es, l, rfl, sm, he, hl, rfl⟩
  refine ⟨_, rfl, p2, _, rfl, .inl (SqL.of he), _, rfl, _, _, rfl, rfl, _, rfl, ?_⟩
  refine ite2 (fun c => ?_) (fun c => ?_)
  · have c' : ((es.map V.int).length : Int) < m := of_decide_eq_true c
    rw [List.length_map] at c'
    refine ⟨fun σ' H2 => ∃ (l2 : Int), σ' = [some (.ref a), some (.int m), some (.ref p2), some (.int l2)] ∧ Same H H2 ∧ H2 p2 = some (.lst ((es ++ [l2]).map V.int)), ?_, ?_⟩
    · rintro σ' H2 ⟨l2, rfl, sm2, he2⟩
      refine ⟨_, ?_, es ++ [l2], l2, rfl, sm2, he2, ?_, rfl⟩
      · rw [List.length_append, List.length_singleton]; omega
      · rw [List.length_append, List.length_singleton]; omega
    · refine ⟨_, rfl, _, rfl, p2, _, rfl, .inl (SqL.of he), _, _, rfl, rfl, _, rfl, fun l2 _ _ => ?_⟩
      refine ⟨_, rfl, .inl ⟨rfl, _, SqL.of he⟩, _, rfl, p2, _, _, rfl, rfl, he, by rw [List.length_map]; exact midlt (by omega), ?_⟩
      refine ⟨l2, rfl, own_new sm f2, ?_⟩
      rw [upd_same, List.map_append]; rfl
  · refine ⟨_, rfl, p2, _, rfl, SqL.of he, fun p3 n3 => ?_⟩
    refine q p3 _ (sm.trans (same_new n3 _)) (sm.free n3) ⟨es.reverse, ?_, ?_⟩
    · rw [upd_same, List.map_reverse]
    · rw [List.length_reverse]; omega
theorem scDraw : FnScope ["_law_deck_here", "_law_most", "_law_cell"] ["_law_deck_here", "_law_most"] (defScope s_L_draw) := ⟨rfl, rfl, rfl, by decide +kernel, rfl, by decide +kernel, by decide +kernel⟩
theorem ok_draw {f g : Addr} {fd gd : FuncData} (F : Fun K "_law_draw" "_law_draw" s_L_draw f fd) (G : FnOk P w K mg base CX0 1 g gd ["_law_number_here"] spMixedB) (bG : L2.Binds K gd ["_law_number_here"] []) (kG : PySem.W.keepIn K (.ref g) = true) (mG : mg "_law_mixed" = some (.ref g)) :
    FnOk P w K mg base CX0 2 f fd ["_law_deck_here", "_law_most"] spTakeB := by
  refine F.ok scDraw (fun vs H Q E h => ?_) (fun cdv A outer s H vs Q E hr h => ?_)
  · obtain ⟨d, m, rfl, _⟩ := h
    rfl
  obtain ⟨d, m, rfl, ⟨ms, hd, hl⟩, m0, m1, q⟩ := h
  refine ⟨_, pss_cons (ps_if (pt_cmpR (op_eqD hr.units) (pv 0) (pe_lst pa_nil) (nomark _)) (pss_one (ps_ret pe_int)) pss_nil)
    (pss_cons (ps_set (i := 2) scDraw.nd rfl (.inl rfl) (pe_bm0 PySem.F.plainAttrs_list PySem.F.slot_list_pop PySem.F.type_list_pop mt_pop (pv 0)))
    (pss_cons (ps_if (pt_cmpR op_ge (pv 2) (pe_op op_pow pe_int pe_int) (nomark _))
      (pss_cons (ps_expr (pe_bm PySem.F.plainAttrs_list PySem.F.slot_list_append PySem.F.type_list_append mt_append (pv 0) (pa_cons (pe_op op_fdivW (pv 2) (pv 1)) pa_nil)))
        (pss_one (ps_ret (pe_op op_mod (pv 2) (pv 1))))) pss_nil)
    (pss_one (ps_ret (pe_op op_mod (pe_call G hr rfl mG kG bG .nil pass0 (pa_cons (pv 2) pa_nil)) (pv 1)))))), ?_⟩
  refine ⟨_, rfl, (by show 0 ≤ sizeLine; decide), fun p hp => ?_⟩
  have hd1 : (upd H p (.lst [])) d = some (.lst (ms.map V.int)) := by rw [upd_ne (ne_of_none hd hp)]; exact hd
  refine ⟨_, _, .lst (SqL.of hd1) (dp_ints ms), .lst (SqL.of upd_same) .nil, Cm.shaped_ints ms, rfl, _, rfl, ?_⟩
  have k1 : Kp [d] H (upd H p (.lst [])) := (Kp.refl [d] H).new hp
  rcases List.eq_nil_or_concat ms with rfl | ⟨ns, n, rfl⟩
  · refine iteT ?_
    exact q 0 _ (Int.le_refl 0) m0 k1 ⟨[], hd1, by decide⟩
  · have ne : PyData.eqv (.list ((ns.concat n).map PyData.int)) (.list []) = false := by
      cases ns with
      | nil => rfl
      | cons x r => rfl
    rw [ne]
    refine iteF ?_
    rw [List.length_concat] at hl
    have hq : (((ns.concat n).map V.int) : List V)[((ns.concat n).map V.int).length - 1]? = some (V.int n) := by
      rw [List.concat_eq_append, List.map_append, List.length_append]
      simp
    have hdl : ((ns.concat n).map V.int).dropLast = ns.map V.int := by
      rw [List.concat_eq_append, List.map_append]
      simp
    refine ⟨_, rfl, .inl ⟨rfl, _, SqL.of hd1⟩, d, _, _, rfl, rfl, hd1, hq, ?_⟩
    rw [hdl]
    refine ⟨_, rfl, _, _, rfl, rfl, ⟨by decide, by decide, by decide⟩, _, _, rfl, rfl, _, rfl, ?_⟩
    refine ite2 (fun c => ?_) (fun c => ?_)
    · refine ⟨_, rfl, .inl ⟨rfl, _, SqL.of upd_same⟩, _, rfl, _, rfl, _, _, rfl, rfl, wide_div m0 (b := 64) (by omega) (by decide) (by decide), d, _, _, rfl, rfl, upd_same, by rw [List.length_map]; exact midlt (by omega), ?_⟩
      refine ⟨_, rfl, _, rfl, _, _, rfl, rfl, m0, ?_⟩
      refine q _ _ (Int.emod_nonneg _ (by omega)) (Int.emod_lt_of_pos _ m0) ((k1.own dmB).own dmB) ⟨ns ++ [n / m], ?_, ?_⟩
      · rw [upd_same, List.map_append]; rfl
      · rw [List.length_append, List.length_singleton]; omega
    · refine ⟨_, rfl, _, rfl, fun r r0 r1 => ?_⟩
      refine ⟨_, rfl, _, _, rfl, rfl, m0, ?_⟩
      exact q _ _ (Int.emod_nonneg _ (by omega)) (Int.emod_lt_of_pos _ m0) (k1.own dmB) ⟨ns, upd_same, by omega⟩
abbrev A_L_draw : List Str := A_B_draw
abbrev A_L_mixed : List Str := ["_law_number_here"]
theorem h_draw (a : At K mg "_law_draw" s_L_draw A_L_draw) (b : At K mg "_law_mixed" s_L_mixed A_L_mixed) : Has P w K mg base 2 "_law_draw" A_L_draw SP_drawB := by
  obtain ⟨g, gd, G, bG, mG⟩ := b
  exact has_drawB a fun f fd F => ok_draw F (ok_mixed G) bG G.kp mG
end
end K14
/-! names of open things and rests -/
namespace DD
open PySem PySem.W L2 SX Cm
theorem S_tl (z : Str) : S (TL.tl z) = z := by
  obtain ⟨a⟩ := z
  show (⟨a.toList.toArray⟩ : Str) = ⟨a⟩
  rw [Array.toArray_toList]
def figs : List Nat := [48, 49, 50, 51, 52, 53, 54, 55, 56, 57]
def azs : List Nat := [97, 98, 99, 100, 101, 102, 103, 104, 105, 106, 107, 108, 109, 110, 111, 112, 113, 114, 115, 116, 117, 118, 119, 120, 121, 122]
def AZs : List Nat := [65, 66, 67, 68, 69, 70, 71, 72, 73, 74, 75, 76, 77, 78, 79, 80, 81, 82, 83, 84, 85, 86, 87, 88, 89, 90]
/-- figures, no nought ahead but in 0 itself -/
def figB (x : List Nat) : Bool := match x with
  | [] => false
  | c :: r => ((c :: r).all fun s => decide (s ∈ figs)) && (decide (c :: r = [48]) || !decide (c = 48))
/-- a letter of these, perhaps with figures behind -/
def nmB (ls : List Nat) (x : List Nat) : Bool := match x with
  | [] => false
  | c :: r => decide (c ∈ ls) && (decide (r = []) || (figB r && !decide (r = [48])))
def smB (z : Str) : Bool := nmB azs (TL.tl z)
def gtB (z : Str) : Bool := nmB AZs (TL.tl z)
def signD : DV → Nat
  | .str z => (TL.tl z).headD 0
  | _ => 0
theorem signs_S (x : List Nat) : signs (S x) = x.map fun c => .str ⟨#[c]⟩ := by
  unfold signs
  show (x.toArray.toList).map _ = _
  rw [List.toList_toArray]
theorem fm_signs (f : Nat → DV) : ∀ x : List Nat, (x.map fun c => DV.str ⟨#[c]⟩).filterMap (fun d => some (f (signD d))) = x.map f
  | [] => rfl
  | c :: r => by rw [List.map_cons, List.filterMap_cons_some (f := fun d => some (f (signD d))) (b := f c) rfl, fm_signs f r]; rfl
end DD
/-! tuples kept as the objects that were made: dict of a tuple of pairs; zip; calls of what a local name holds -/
namespace DD
open PySem PySem.W L2 SX Cm
section
variable {X : Cx}
/-! dict of a tuple of pairs -/
def prT (zs : List (Str × DV)) : List DV := zs.map fun x => .tup [.str x.1, x.2]
/-! zip of two tuples or of two lists -/
def zipD (xs ys : List DV) : List DV := List.zipWith (fun x y => .tup [x, y]) xs ys
theorem zipD_len (xs ys : List DV) : (zipD xs ys).length = min xs.length ys.length := List.length_zipWith
theorem zipD_get {xs ys : List DV} {i : Nat} {x y : DV} (hx : xs[i]? = some x) (hy : ys[i]? = some y) : (zipD xs ys)[i]? = some (.tup [x, y]) := by
  unfold zipD
  rw [List.getElem?_zipWith, hx, hy]
variable {elts : List Expr} {kk : Nat} {tpos : Pos}
def dIZip (t : TDA) : TDI := fun δ G R => t δ G fun vs G1 => (∃ xs ys, vs = [.tup xs, .tup ys] ∧ R (zipD xs ys) (fun _ => True) G1) ∨ ∃ p q xs ys, vs = [.ref p, .ref q] ∧ Ls G1 p xs ∧ Ls G1 q ys ∧ R (zipD xs ys) (fun G => Ls G p xs ∧ Ls G q ys) G1
end
end DD
namespace DD
open PySem PySem.W L2 SX Cm
section
variable {X : Cx} {i o : Expr} {ti td : TD} {pos : Pos}
theorem wi_zip {δ : DSt} {G : DG} {t : TDA} {R : List DV → (DG → Prop) → DG → Prop} (h : t δ G fun vs G1 => (∃ xs ys, vs = [.tup xs, .tup ys] ∧ R (zipD xs ys) (fun _ => True) G1) ∨ ∃ p q xs ys, vs = [.ref p, .ref q] ∧ Ls G1 p xs ∧ Ls G1 q ys ∧ R (zipD xs ys) (fun G => Ls G p xs ∧ Ls G q ys) G1) : dIZip t δ G R := h
end
end DD
/-! instances of a class over data: fields, methods, makers -/
namespace DD
open PySem PySem.W L2 SX Cm
def oputO (f : Str) (v : DV) : List (Str × DV) → List (Str × DV)
  | [] => [(f, v)]
  | (g, x) :: r => if g = f then (g, v) :: r else (g, x) :: oputO f v r
theorem look_cons {α : Type} (f g : Str) (x : α) (r : List (Str × α)) : List.lookup f ((g, x) :: r) = if f = g then some x else List.lookup f r := by
  rw [List.lookup_cons]
  by_cases h : f = g
  · rw [if_pos h, h, beq_self_eq_true]
  · rw [if_neg h, beq_eq_false_iff_ne.mpr h]
theorem FRV.len {K : Frag} {H : Hp} {vs : List (Str × V)} {ds : List (Str × DV)} (h : FRV K H vs ds) : vs.length = ds.length := by
  induction h with
  | nil => rfl
  | cons _ _ ih => rw [List.length_cons, List.length_cons, ih]
theorem FRV.look {K : Frag} {H : Hp} {f : Str} {vs : List (Str × V)} {ds : List (Str × DV)} (h : FRV K H vs ds) : ∀ {d : DV}, ds.lookup f = some d → ∃ v, vs.lookup f = some v ∧ RV K H v d := by
  induction h with
  | nil => intro d e; cases e
  | cons r _ ih =>
    intro d e
    rw [look_cons] at e ⊢
    split at e
    · cases e; rw [if_pos (by assumption)]; exact ⟨_, rfl, r⟩
    · rw [if_neg (by assumption)]; exact ih e
theorem FRV.none {K : Frag} {H : Hp} {f : Str} {vs : List (Str × V)} {ds : List (Str × DV)} (h : FRV K H vs ds) : ds.lookup f = Option.none → vs.lookup f = Option.none := by
  induction h with
  | nil => intro _; rfl
  | cons r _ ih =>
    intro e
    rw [look_cons] at e ⊢
    split at e
    · cases e
    · rw [if_neg (by assumption)]; exact ih e
theorem FRV.put {K : Frag} {H : Hp} {f : Str} {v : V} {d : DV} (r : RV K H v d) {vs : List (Str × V)} {ds : List (Str × DV)} (h : FRV K H vs ds) : FRV K H (putF f v vs) (oputO f d ds) := by
  induction h with
  | nil => exact .cons r .nil
  | cons q t ih =>
    unfold putF oputO
    split
    · exact .cons r t
    · exact .cons q ih
theorem _root_.Cm.TKs.ins {K : Frag} {H : Hp} {p C dx : Addr} {fs : List (Str × V)} {u : HO} (h : H p = some (.ins C dx fs)) : TKs K H (upd H p u) := fun a xs g => by
  have ne : ∀ o, H a = some o → (∀ C dx fs, o ≠ .ins C dx fs) → a ≠ p := fun o e n z => by
    rw [z, h] at e
    exact n _ _ _ (Option.some.inj e).symm
  rcases g with (g | ⟨o, g⟩) | g
  · exact .inl (.inl (by rw [upd_ne (ne _ g fun _ _ _ z => by cases z)]; exact g))
  · exact .inl (.inr ⟨o, by rw [upd_ne (ne _ g fun _ _ _ z => by cases z)]; exact g⟩)
  · exact .inr g
/-! readings -/
end DD
/-! a module's dict of texts: `in`, and what it holds -/
namespace DD
open PySem PySem.W L2 SX Cm
end DD
/-! more methods of texts over data: partition, startswith, index; a module's dict of texts with any number of keys -/
namespace DD
open PySem PySem.W L2 SX Cm
section
variable {X : Cx}
def bPartition : DM := fun x ds G Q => ∃ (a b : Str), x = .str a ∧ ds = [.str b] ∧ (b.length == 0) = false ∧ a.length ≤ sizeLine ∧ Q (.tup [.str (Txt.partition a b).1, .str (Txt.partition a b).2.1, .str (Txt.partition a b).2.2]) G
theorem md_partition : MtD X "str.partition" bPartition := by
  refine ⟨_, mt_partition, fun x ds vx vs H G R Q rx rs w h f => ?_⟩
  obtain ⟨a, b, rfl, rfl, hb, hl, q⟩ := h
  cases rx
  cases rs with
  | cons r rt =>
    cases rt
    cases r
    refine ⟨a, b, rfl, rfl, hb, hl, fun p np => ?_⟩
    have s' := same_new np (.tup [.str (Txt.partition a b).1, .str (Txt.partition a b).2.1, .str (Txt.partition a b).2.2])
    exact f _ _ _ _ q (TKs.of s') (w.same s') (.tup (SqT.of upd_same) (.cons (.str _) (.cons (.str _) (.cons (.str _) .nil))))
def bStartswith : DM := fun x ds G Q => ∃ (a b : Str), x = .str a ∧ ds = [.str b] ∧ Q (.bl (Txt.startswith a b)) G
theorem md_startswith : MtD X "str.startswith" bStartswith := by
  refine ⟨_, mt_startswith, fun x ds vx vs H G R Q rx rs w h f => ?_⟩
  obtain ⟨a, b, rfl, rfl, q⟩ := h
  cases rx
  cases rs with
  | cons r rt =>
    cases rt
    cases r
    exact ⟨a, b, rfl, rfl, f _ _ _ _ q (TKs.refl H) w (.bl _)⟩
def bSindex : DM := fun x ds G Q => ∃ (a b : Str) (i : Nat) (rest : List Nat), x = .str a ∧ ds = [.str b] ∧ Builtin.Str.occurrences a b 0 a.length 1 = i :: rest ∧ Q (.int (i : Nat)) G
theorem md_sindex : MtD X "str.index" bSindex := by
  refine ⟨_, mt_sindex, fun x ds vx vs H G R Q rx rs w h f => ?_⟩
  obtain ⟨a, b, i, rest, rfl, rfl, e, q⟩ := h
  cases rx
  cases rs with
  | cons r rt =>
    cases rt
    cases r
    exact ⟨a, b, i, rest, rfl, rfl, e, f _ _ _ _ q (TKs.refl H) w (.int _)⟩
end
section
theorem w_partition {a b : Str} {G : DG} {Q : DK} (hb : (b.length == 0) = false) (hl : a.length ≤ sizeLine) (h : Q (.tup [.str (Txt.partition a b).1, .str (Txt.partition a b).2.1, .str (Txt.partition a b).2.2]) G) : bPartition (.str a) [.str b] G Q := ⟨a, b, rfl, rfl, hb, hl, h⟩
theorem w_startswith {a b : Str} {G : DG} {Q : DK} (h : Q (.bl (Txt.startswith a b)) G) : bStartswith (.str a) [.str b] G Q := ⟨a, b, rfl, rfl, h⟩
theorem w_sindex {a b : Str} {i : Nat} {rest : List Nat} {G : DG} {Q : DK} (e : Builtin.Str.occurrences a b 0 a.length 1 = i :: rest) (h : Q (.int (i : Nat)) G) : bSindex (.str a) [.str b] G Q := ⟨a, b, i, rest, rfl, rfl, e, h⟩
end
end DD
/-! the pieces that kinds are written by -/
namespace DD
open PySem PySem.W L2 SX Cm
/-- a def that makes a new list -/
def MkL (G : DG) (R : DK) (xs : List DV) : Prop := ∀ r G', G r = none → Sub G G' → G' r = some (.lst xs) → R (.ref r) G'
theorem MkL.less {G G' : DG} {R : DK} {xs : List DV} {r : Addr} (h : MkL G R xs) (n : G r = none) (s : Sub G G') (e : G' r = some (.lst xs)) : Less R (.ref r) G' := Less.of (h r G' n s e)
end DD
/-! filling kinds by a table: the tasks -/
namespace DD
open PySem PySem.W L2 SX Cm
/-- all that is known but at p -/
def SubX (G : DG) (p : Addr) (G' : DG) : Prop := ∀ a o, a ≠ p → G a = some o → G' a = some o
theorem subx_get {G G' : DG} {a p : Addr} {o : DO} (u : SubX G p G') (h : G a = some o) (n : a ≠ p) : G' a = some o := u _ _ n h
theorem sub_ux {B G G' : DG} {p : Addr} (u : SubX G p G') (s : Sub B G) (n : B p = none) : Sub B G' := fun a o e => u a o (fun z => by rw [z, n] at e; cases e) (s a o e)
theorem SubX.refl (G : DG) (p : Addr) : SubX G p G := fun _ _ _ h => h
theorem subx_sub {B G G' : DG} {p : Addr} (s : Sub G G') (h : SubX B p G) : SubX B p G' := fun a o n e => s _ _ (h a o n e)
theorem subx_upd {B G G' : DG} {p : Addr} (u : Upd G p G') (h : SubX B p G) : SubX B p G' := fun a o n e => (u a n).trans (h a o n e)
theorem subx_tr {B G G' : DG} {p : Addr} (u : SubX G p G') (h : SubX B p G) : SubX B p G' := fun a o n e => u a o n (h a o n e)
structure TabOK (kvs : List (Key × DV)) (P R : Str → Prop) (f : Str → Kd) (g : Str → Sk) : Prop where
  k : ∀ z, P z → (valD kvs (keyD z)).getD (eK (.opn z)) = eK (f z)
  s : ∀ r, R r → (valD kvs (keyD r)).getD (.tup [.str r, .tup []]) = eS (g r)
  w : ∀ r, R r → (g r).ks.length ≤ 1000
inductive FT where
  | kind (k : Kd)
  | stack (s : Sk)
  | endl
  | endr
  | ends (r : Str) (n : Nat)
def eF : FT → DV
  | .kind k => .tup [.str "kind", eK k]
  | .stack s => .tup [.str "stack", eS s]
  | .endl => .tup [.str "end list", .non]
  | .endr => .tup [.str "end row", .non]
  | .ends r n => .tup [.str "end stack", .tup [.str r, .int (n : Int)]]
section
variable {P R : Str → Prop} {f : Str → Kd} {g : Str → Sk}
/-- what the tasks make of what is made so far -/
inductive RunF (P R : Str → Prop) (f : Str → Kd) (g : Str → Sk) : List FT → List DV → List DV → Prop
  | nil {m : List DV} : RunF P R f g [] m m
  | kind {k : Kd} {r : List FT} {m z : List DV} : NK P R k → RunF P R f g r (m ++ [eK (fK f g k)]) z → RunF P R f g (.kind k :: r) m z
  | stack {s : Sk} {r : List FT} {m z : List DV} : NS P R s → RunF P R f g r (m ++ [eS (fS f g s)]) z → RunF P R f g (.stack s :: r) m z
  | endl {r : List FT} {m z : List DV} {x : DV} : RunF P R f g r (m ++ [.tup [.str "list", x]]) z → RunF P R f g (.endl :: r) (m ++ [x]) z
  | endr {r : List FT} {m z : List DV} {x y : DV} : RunF P R f g r (m ++ [.tup [.str "row", x, y]]) z → RunF P R f g (.endr :: r) ((m ++ [x]) ++ [y]) z
  | ends {r : List FT} {m z ks : List DV} {q : Str} {n : Nat} : R q → ks.length = n → RunF P R f g r (m ++ [.tup [.str (g q).rest, .tup (eKs (g q).ks ++ ks)]]) z → RunF P R f g (.ends q n :: r) (m ++ ks) z
theorem RunF.lst {k : Kd} {r : List FT} {m z : List DV} (h : RunF P R f g (.kind (.lst k) :: r) m z) : RunF P R f g (.kind k :: .endl :: r) m z := by
  cases h with
  | kind n h => exact .kind n (.endl h)
theorem RunF.row {a b : Sk} {r : List FT} {m z : List DV} (h : RunF P R f g (.kind (.row a b) :: r) m z) : RunF P R f g (.stack a :: .stack b :: .endr :: r) m z := by
  cases h with
  | kind n h => exact .stack n.1 (.stack n.2 (.endr h))
end
end DD
/-! the open names of a kind, each once, and the told form -/
namespace DD
open PySem PySem.W L2 SX Cm
/-! names that are names -/
def vP (z : Str) : Prop := smB z = true ∧ (TL.tl z).length ≤ 1000
def vR (r : Str) : Prop := r = "" ∨ (gtB r = true ∧ (TL.tl r).length ≤ 1000)
/-! tables -/
/-! the letters -/
end DD
namespace DD
open PySem PySem.W L2 SX Cm
end DD
/-! kinds with other names -/
namespace DD
open PySem PySem.W L2 SX Cm
theorem nodup_le {α : Type} [DecidableEq α] : ∀ {xs L : List α}, xs.Nodup → (∀ x ∈ xs, x ∈ L) → xs.length ≤ L.length
  | [], L, _, _ => Nat.zero_le _
  | x :: r, L, h, g => by
    rw [List.nodup_cons] at h
    have hx := g x (List.mem_cons_self ..)
    have ih := nodup_le (xs := r) (L := L.erase x) h.2 fun y hy => by
      have hyL := g y (List.mem_cons_of_mem _ hy)
      have ne : y ≠ x := fun z => by rw [z] at hy; exact h.1 hy
      exact (List.mem_erase_of_ne ne).mpr hyL
    rw [List.length_erase_of_mem hx] at ih
    have := List.length_pos_of_mem hx
    rw [List.length_cons]; omega
/-! ### names of letters and numbers -/
/-! names are texts -/
end DD
/-! names called by their order -/
namespace DD
open PySem PySem.W L2 SX Cm
end DD
/-! the marks of a told form against the pattern of the open names -/
namespace DD
open PySem PySem.W L2 SX Cm
/-! the other way: the told marks out of the pattern -/
end DD
/-! tables of fillings that grow by puts; how much a filling adds -/
namespace DD
open PySem PySem.W L2 SX Cm
/-- at most so many parts, so deep -/
structure GdK (m e : Nat) (k : Kd) : Prop where
  sz : szK k ≤ m
  dp : dpK k ≤ e
  nm : NK vP vR k
structure GdS (m e : Nat) (s : Sk) : Prop where
  sz : szS s ≤ m
  dp : dpS s ≤ e
  nm : NS vP vR s
/-- a table whose entries are so -/
def GTab (m e : Nat) (kvs : List (Key × DV)) : Prop := ∃ f g, TabOK kvs vP vR f g ∧ (∀ z, vP z → GdK m e (f z)) ∧ ∀ r, vR r → GdS m e (g r)
theorem GTab.nil {m e : Nat} (hm : 1 ≤ m) : GTab m e [] := ⟨.opn, fun r => .mk r [], ⟨fun z _ => rfl, fun r _ => rfl, fun r _ => Nat.zero_le _⟩, fun z h => ⟨hm, Nat.zero_le _, h⟩, fun r h => ⟨hm, Nat.zero_le _, h, trivial⟩⟩
/-! what a filling makes -/
/-! how many open names -/
end DD
/-! laying one kind on another one: what is found for each open name -/
namespace DD
open PySem PySem.W L2 SX Cm
abbrev Part := Kd ⊕ Sk
noncomputable instance : DecidableEq Part := fun a b => Classical.propDecidable (a = b)
def eP : Part → DV
  | .inl k => eK k
  | .inr s => eS s
abbrev Fnd := List (Str × Part)
def look : Fnd → Str → Option Part
  | [], _ => none
  | c :: r, z => if c.1 = z then some c.2 else look r z
theorem look_none : ∀ {F : Fnd} {z : Str}, look F z = none ↔ z ∉ F.map (·.1)
  | [], z => ⟨(fun _ h => nomatch h), fun _ => rfl⟩
  | c :: r, z => by
    unfold look
    rw [List.map_cons, List.mem_cons]
    by_cases e : c.1 = z
    · rw [if_pos e]; exact ⟨(fun h => nomatch h), fun h => absurd (Or.inl e.symm) h⟩
    · rw [if_neg e, look_none]
      exact ⟨fun h g => g.elim (fun q => e q.symm) h, fun h g => h (.inr g)⟩
theorem look_nodup : ∀ {F : Fnd} {c : Str × Part}, (F.map (·.1)).Nodup → c ∈ F → look F c.1 = some c.2
  | a :: r, c, nd, h => by
    rw [List.map_cons, List.nodup_cons] at nd
    unfold look
    rcases List.mem_cons.mp h with rfl | h
    · rw [if_pos rfl]
    · have : a.1 ≠ c.1 := fun e => nd.1 (by rw [e]; exact List.mem_map_of_mem h)
      rw [if_neg this, look_nodup nd.2 h]
/-! the steps -/
inductive WI where
  | k (a b : Kd)
  | s (a b : Sk)
def zk (ks ks' : List Kd) : List WI := List.zipWith WI.k ks ks'
def step : WI → Option (List WI × Option (Str × Part))
  | .s (.mk r ks) (.mk r' ks') =>
    if ks'.length < ks.length then none
    else if r = "" then (if r' = "" ∧ ks'.length = ks.length then some (zk ks (ks'.drop (ks'.length - ks.length)), none) else none)
    else some (zk ks (ks'.drop (ks'.length - ks.length)), some (r, .inr (.mk r' (ks'.take (ks'.length - ks.length)))))
  | .k (.opn z) b => some ([], some (z, .inl b))
  | .k .num .num => some ([], none)
  | .k (.lst a) (.lst b) => some ([.k a b], none)
  | .k (.row a b) (.row c d) => some ([.s a c, .s b d], none)
  | .k _ _ => none
noncomputable def putFn (F : Fnd) (c : Str × Part) : Option Fnd := match look F c.1 with
  | none => some (F ++ [c])
  | some p => if p = c.2 then some F else none
noncomputable def putO (F : Fnd) : Option (Str × Part) → Option Fnd
  | none => some F
  | some c => putFn F c
noncomputable def run : Nat → List WI → Fnd → Option Fnd
  | _, [], F => some F
  | 0, _ :: _, _ => none
  | n + 1, w :: l, F => (step w).bind fun x => (putO F x.2).bind fun F' => run n (x.1.reverse ++ l) F'
/-! what is found fills the one to the other -/
/-! where there is a filling, one is found -/
def hP (f : Str → Kd) (g : Str → Sk) (z : Str) : Part := if smB z = true then .inl (f z) else .inr (g z)
/-- a part as its name asks -/
def okC (c : Str × Part) : Prop := match c.2 with
  | .inl k => vP c.1 ∧ NK vP vR k
  | .inr s => gtB c.1 = true ∧ (TL.tl c.1).length ≤ 1000 ∧ NS vP vR s
end DD
/-! names found; marks tell the kind; sorted names -/
namespace DD
open PySem PySem.W L2 SX Cm
/-! marks tell the kind -/
/-! names -/
/-! what is found -/
structure FOk (B D : Nat) (F : Fnd) : Prop where
  nd : (F.map (·.1)).Nodup
  ok : ∀ c ∈ F, okC c
  bd : ∀ c ∈ F, match c.2 with | .inl k => szK k ≤ B ∧ dpK k ≤ D | .inr s => szS s ≤ B ∧ dpS s ≤ D
/-! sorted names -/
open PyProof.Rows (sortedS risingS ltCps_eq)
open PySem.Spec (ltCps)
def leS (a b : Str) : Prop := ¬ (b.cps.toList < a.cps.toList)
theorem rise_pair : ∀ (p : Str) (l : List Str), risingS p l = true → (p :: l).Pairwise leS
  | p, [], _ => List.pairwise_singleton _ _
  | p, x :: r, h => by
    have h' : (!ltCps x.cps.toList p.cps.toList && risingS x r) = true := h
    rw [Bool.and_eq_true, ltCps_eq] at h'
    have h1 : leS p x := fun q => by rw [decide_eq_true q] at h'; cases h'.1
    have ih := rise_pair x r h'.2
    refine List.pairwise_cons.mpr ⟨fun y hy => ?_, ih⟩
    rcases List.mem_cons.mp hy with rfl | hy
    · exact h1
    · have h2 : leS x y := List.rel_of_pairwise_cons ih hy
      intro q
      have a1 : p.cps.toList ≤ x.cps.toList := List.not_lt.mp h1
      have a2 : x.cps.toList ≤ y.cps.toList := List.not_lt.mp h2
      exact List.not_lt.mpr (List.le_trans a1 a2) q
theorem sorted_pair {l : List Str} (h : sortedS l = true) : l.Pairwise leS := by
  cases l with
  | nil => exact List.Pairwise.nil
  | cons x r => exact rise_pair x r h
theorem str_ext {a b : Str} (h : a.cps.toList = b.cps.toList) : a = b := by
  obtain ⟨x⟩ := a
  obtain ⟨y⟩ := b
  congr 1
  exact Array.toList_inj.mp h
theorem sorted_eq {a b : List Str} (ha : sortedS a = true) (hb : sortedS b = true) (p : a.Perm b) : a = b :=
  List.Perm.eq_of_pairwise (le := leS) (fun x y _ _ h1 h2 => str_ext (List.le_antisymm (List.not_lt.mp h1) (List.not_lt.mp h2))) (sorted_pair ha) (sorted_pair hb) p
end DD
/-! data as plain values of any sort -/
namespace DD
open PySem PySem.W L2 SX Cm
end DD
/-! tables of fillings over names of any sort (as CmFit) -/
namespace DD
open PySem PySem.W L2 SX Cm
/-- at most so many parts, so deep -/
structure GnK (P R : Str → Prop) (m e : Nat) (k : Kd) : Prop where
  sz : szK k ≤ m
  dp : dpK k ≤ e
  nm : NK P R k
structure GnS (P R : Str → Prop) (m e : Nat) (s : Sk) : Prop where
  sz : szS s ≤ m
  dp : dpS s ≤ e
  nm : NS P R s
/-- a table whose entries are so -/
def GnTab (P R : Str → Prop) (m e : Nat) (kvs : List (Key × DV)) : Prop := ∃ f g, TabOK kvs P R f g ∧ (∀ z, P z → GnK P R m e (f z)) ∧ (∀ r, R r → GnS P R m e (g r)) ∧ g "" = .mk "" []
section
variable {P R : Str → Prop}
theorem GnTab.nil {m e : Nat} (hm : 1 ≤ m) : GnTab P R m e [] := ⟨.opn, fun r => .mk r [], ⟨fun z _ => rfl, fun r _ => rfl, fun r _ => Nat.zero_le _⟩, fun z h => ⟨hm, Nat.zero_le _, h⟩, fun r h => ⟨hm, Nat.zero_le _, h, trivial⟩, rfl⟩
end
/-! what a filling makes -/
end DD
namespace Cm
open PySem PySem.W L2 SX PySem.Spec PyProof.Rows
end Cm
/-! fillings as kept tuples of pairs; one filling and then another one -/
namespace DD
open PySem PySem.W L2 SX Cm
section
variable {X : Cx}
/-- a display that is kept -/
def dTupP (t : TDA) : TD := fun δ G Q => t δ G fun ds G1 => ds.length ≤ sizeLine ∧ ∀ p, G1 p = none → Q (.ref p) (dupd G1 p (.ptp ds))
theorem w_tupPd {δ : DSt} {G : DG} {Q : DK} {ts : TDA} (h : ts δ G fun ds G1 => ds.length ≤ sizeLine ∧ ∀ p, G1 p = none → Q (.ref p) (dupd G1 p (.ptp ds))) : dTupP ts δ G Q := h
/-- (a, b, ..) = a list -/
def gLs (n : Nat) (t : TDGs) : TDG := fun d δ G Q => ∃ p ds, d = .ref p ∧ Ls G p ds ∧ ds.length = n ∧ t ds δ G Q
theorem dg_lst {es : List Expr} {k : Nat} {t : TDGs} {n : Nat} {pos : Pos} (hc : X.calm = true) (h : DGs X es t)
    (hn : (assignEach es X.env).length = n := by rfl) (hst : (assignEach es X.env).findIdx? (·.1) = none := by rfl) : DGt X (.Tuple es k pos) (gLs n t) := PG_mono (pg_lst hc h hn hst) fun v σ H Q ⟨d, δ, G, R, r, sl, w, ⟨p, ds, e, ls, l, h⟩, f⟩ => by
  subst e
  cases r
  obtain ⟨us, hs, r⟩ := wd_seq w ls
  exact ⟨p, us, rfl, hs, by rw [r.len]; exact l, ds, δ, G, R, r, sl, w, h, f⟩
theorem w_asgL {nx : DSt → DG → Prop} {rt : DK} {bk ct : DSt → DG → Prop} {δ : DSt} {G : DG} {te : TD} {n : Nat} {t : TDGs} (h : te δ G fun d G1 => gLs n t d δ G1 nx) : dAsg te (gLs n t) ⟨nx, rt, bk, ct⟩ δ G := h
theorem g_L {δ : DSt} {G : DG} {k : DSt → DG → Prop} {n : Nat} {t : TDGs} {p : Addr} {ds : List DV} (e : G p = some (.lst ds)) (h : t ds δ G k) (l : ds.length = n := by rfl) : gLs n t (.ref p) δ G k := ⟨p, ds, rfl, .inl e, l, h⟩
/-- a call without arguments -/
def dCall0 (dsp : DSp) : TD := fun _ G Q => dsp [] G Q
theorem w_call0 {δ : DSt} {G : DG} {Q : DK} {dsp : DSp} (h : dsp [] G Q) : dCall0 dsp δ G Q := h
end
/-! fillings -/
abbrev pL (F : Fnd) : List DV := prT (F.map fun c => (c.1, eP c.2))
/-! what a found filling makes of names -/
/-- a sorted filling -/
structure FG (B D : Nat) (F : Fnd) : Prop where
  fo : FOk B D F
  so : PyProof.Rows.sortedS (F.map (·.1)) = true
theorem pairs_look {F : Fnd} (nd : (F.map (·.1)).Nodup) : F = (F.map (·.1)).map fun z => (z, (look F z).getD (.inl .num)) := by
  rw [List.map_map]
  conv => lhs; rw [← List.map_id F]
  refine List.map_congr_left fun c hc => ?_
  show c = (c.1, (look F c.1).getD _)
  rw [look_nodup nd hc]; rfl
/-- told by what stands for each name -/
theorem FG.ext {B D B' D' : Nat} {F F' : Fnd} (h : FG B D F) (h' : FG B' D' F') (e : ∀ z, look F z = look F' z) : F = F' := by
  have mem : ∀ {F : Fnd} (z : Str), z ∈ F.map (·.1) ↔ look F z ≠ none := fun z => ⟨fun q r => look_none.mp r q, fun q => Decidable.byContradiction fun r => q (look_none.mpr r)⟩
  have en : F.map (·.1) = F'.map (·.1) := sorted_eq h.so h'.so ((List.perm_ext_iff_of_nodup h.fo.nd h'.fo.nd).mpr fun z => by rw [mem z, mem z, e z])
  rw [pairs_look h.fo.nd, pairs_look h'.fo.nd, en]
  refine List.map_congr_left fun z _ => ?_
  rw [e z]
end DD
/-! shuffles as texts -/
namespace DD
open PySem PySem.W L2 SX Cm
def shL (n : Nat) : List Nat := (List.range n).map (97 + ·)
def shP (ps : List Nat) : List Nat := ps.map (97 + ·)
theorem S_append (x z : List Nat) : S (x ++ z) = S x ++ S z := by
  show (⟨(x ++ z).toArray⟩ : Str) = ⟨x.toArray ++ z.toArray⟩
  rw [List.append_toArray]
def shT (n : Nat) (ps : List Nat) : Str := S (shL n) ++ "-" ++ S (shP ps)
structure ShOk (n : Nat) (ps : List Nat) : Prop where
  hn : n ≤ 8
  hp : ∀ p ∈ ps, p < n
  hl : ps.length ≤ 12
theorem no45 : ∀ {xs : List Nat} {p : Nat}, p ∈ xs.map (97 + ·) → p ≠ 45 := by
  intro xs p h e
  obtain ⟨q, _, rfl⟩ := List.mem_map.mp h
  omega
theorem tl_S' (x : List Nat) : TL.tl (S x) = x := by show x.toArray.toList = x; rw [List.toList_toArray]
theorem sh_part (n : Nat) (ps : List Nat) : Txt.partition (shT n ps) "-" = (S (shL n), ("-" : Str), S (shP ps)) := by
  unfold shT
  exact TL.partition_app (y := ("-" : Str)) (s := 45) (S := []) (by decide +kernel) (by rw [tl_S']; exact fun h => no45 h rfl)
theorem sh_split (n : Nat) (ps : List Nat) : Txt.split (shT n ps) "-" = [S (shL n), S (shP ps)] := by
  have h := TL.split_join (y := ("-" : Str)) (s := 45) (S := []) (by decide +kernel) (by decide +kernel) (parts := [S (shL n), S (shP ps)]) (by simp) (fun p hp => by
    rcases List.mem_cons.mp hp with rfl | hp
    · rw [tl_S']; exact fun h => no45 h rfl
    · rw [List.mem_singleton.mp hp, tl_S']; exact fun h => no45 h rfl)
  rw [TL.join_eq] at h
  exact h
theorem sh_start : ∀ n, n < 9 → Txt.startswith "abcdefgh" (S (shL n)) = true := by decide +kernel
theorem sh_index : ∀ p, p < 8 → Builtin.Str.occurrences "abcdefgh" ⟨#[97 + p]⟩ 0 ("abcdefgh" : Str).length 1 = [p] := by decide +kernel
theorem sh_in {n p : Nat} (h : p < n) : 97 + p ∈ (S (shL n)).cps.toList := by
  show 97 + p ∈ (shL n).toArray.toList
  rw [List.toList_toArray]
  exact List.mem_map.mpr ⟨p, List.mem_range.mpr h, rfl⟩
theorem sh_len {n : Nat} {ps : List Nat} (h : ShOk n ps) : (shT n ps).length ≤ 30 := by
  have h1 := h.hn
  have h2 := h.hl
  have e1 : (shL n).toArray.size = n := by rw [List.size_toArray, shL, List.length_map, List.length_range]
  have e2 : (shP ps).toArray.size = ps.length := by rw [List.size_toArray, shP, List.length_map]
  have e3 : ("-" : Str).cps.size = 1 := by decide +kernel
  show (((shL n).toArray ++ ("-" : Str).cps) ++ (shP ps).toArray).size ≤ 30
  rw [Array.size_append, Array.size_append, e1, e2, e3]
  omega
theorem sh_cut : ∀ n : Nat, n < 9 → cutS "abcdefgh" none (some (n : Int)) = S (shL n) := by decide +kernel
theorem sh_45 (n : Nat) (ps : List Nat) : decide (45 ∈ (shT n ps).cps.toList) = true := by
  refine decide_eq_true ?_
  show 45 ∈ TL.tl (shT n ps)
  unfold shT
  rw [TL.tl_append, TL.tl_append]
  exact List.mem_append_left _ (List.mem_append_right _ (by decide +kernel))
theorem shT_S (n : Nat) (ps : List Nat) : shT n ps = S (shL n ++ 45 :: shP ps) := by
  unfold shT
  rw [show ("-" : Str) = S [45] by decide +kernel, ← S_append, ← S_append, List.append_assoc]; rfl
theorem acc_of {α : Type} {f : α → DV} {Pp : α → Prop} : ∀ {acc : List DV}, (∀ (i : Nat) (y : DV), acc[i]? = some y → ∃ x, y = f x ∧ Pp x) → ∃ xs : List α, acc = xs.map f ∧ ∀ x ∈ xs, Pp x
  | [], _ => ⟨[], rfl, fun _ h => nomatch h⟩
  | a :: r, h => by
    obtain ⟨x, rfl, hx⟩ := h 0 a rfl
    obtain ⟨xs, rfl, hs⟩ := acc_of (acc := r) fun i y e => h (i + 1) y e
    exact ⟨x :: xs, rfl, fun z hz => by
      rcases List.mem_cons.mp hz with rfl | hz
      · exact hx
      · exact hs z hz⟩
end DD
/-! steps of words, as functions of things and words -/
namespace DD
open PySem PySem.W L2 SX Cm
inductive Bas where
  | plus | minus | times | less | same | do_ | dip | if_ | while_ | repeat_ | join | wrap | put | part | each
  deriving DecidableEq
def nmBas : Bas → Str
  | .plus => "plus" | .minus => "minus" | .times => "times" | .less => "less" | .same => "same" | .do_ => "do" | .dip => "dip" | .if_ => "if" | .while_ => "while" | .repeat_ => "repeat" | .join => "join" | .wrap => "wrap" | .put => "put" | .part => "part" | .each => "each"
def allBas : List Bas := [.plus, .minus, .times, .less, .same, .do_, .dip, .if_, .while_, .repeat_, .join, .wrap, .put, .part, .each]
def BKL : List Str := ["plus", "minus", "times", "less", "same", "do", "dip", "if", "while", "repeat", "join", "wrap", "put", "part", "each"]
theorem bkl_eq : BKL = allBas.map nmBas := rfl
theorem allBas_mem (b : Bas) : b ∈ allBas := by cases b <;> decide
theorem bkl_mem (b : Bas) : nmBas b ∈ BKL := by rw [bkl_eq]; exact List.mem_map_of_mem (allBas_mem b)
theorem bkl_inv {z : Str} (h : z ∈ BKL) : ∃ b, z = nmBas b := by
  rw [bkl_eq] at h
  obtain ⟨b, _, e⟩ := List.mem_map.mp h
  exact ⟨b, e.symm⟩
def basOf (z : Str) : Option Bas := allBas.find? fun b => decide (nmBas b = z)
theorem nmBas_all : (allBas.all fun a => allBas.all fun b => decide (nmBas a = nmBas b) == decide (a = b)) = true := by decide +kernel
theorem nmBas_inj {a b : Bas} (h : nmBas a = nmBas b) : a = b := by
  have := List.all_eq_true.mp (List.all_eq_true.mp nmBas_all a (allBas_mem a)) b (allBas_mem b)
  rw [decide_eq_true h] at this
  exact of_decide_eq_true (by simpa using this)
theorem basOf_nm (b : Bas) : basOf (nmBas b) = some b := by
  cases e : basOf (nmBas b) with
  | none => exact absurd (List.find?_eq_none.mp e b (allBas_mem b)) (by rw [decide_eq_true rfl]; exact fun h => h rfl)
  | some a =>
    have h : decide (nmBas a = nmBas b) = true := List.find?_some (p := fun x => decide (nmBas x = nmBas b)) e
    rw [nmBas_inj (of_decide_eq_true h)]
theorem basOf_no {z : Str} (h : z ∉ BKL) : basOf z = none := by
  cases e : basOf z with
  | none => rfl
  | some a =>
    have h2 : decide (nmBas a = z) = true := List.find?_some (p := fun x => decide (nmBas x = z)) e
    exact absurd (by rw [← of_decide_eq_true h2]; exact bkl_mem a) h
/-- the sorts of things, and any -/
inductive So where
  | num | row | lst | any
  deriving DecidableEq
def nmSo : So → Str
  | .num => "number" | .row => "row" | .lst => "list" | .any => "any"
def soT : Th → So
  | .num _ => .num
  | .row _ => .row
  | .lst _ => .lst
def nmT : Th → Str
  | .num _ => "number"
  | .row _ => "row"
  | .lst _ => "list"
def inT : Th → DV
  | .num n => .int n
  | .row ws => .tup (eWs ws)
  | .lst ts => .tup (eTs ts)
theorem eT_eq : ∀ t, eT t = .tup [.str (nmT t), inT t]
  | .num _ => rfl
  | .row _ => rfl
  | .lst _ => rfl
theorem nmT_so : ∀ t, nmT t = nmSo (soT t)
  | .num _ => rfl
  | .row _ => rfl
  | .lst _ => rfl
theorem nmSo_inj : ∀ {a b : So}, nmSo a = nmSo b → a = b := by
  intro a b
  cases a <;> cases b <;> intro h <;> first | rfl | exact absurd h (by decide +kernel)
def fitB : So → Th → Bool
  | .any, _ => true
  | .num, .num _ => true
  | .row, .row _ => true
  | .lst, .lst _ => true
  | _, _ => false
theorem fitB_iff (s : So) (t : Th) : fitB s t = true ↔ s = .any ∨ s = soT t := by
  cases s <;> cases t <;> simp [fitB, soT]
def srtB : Bas → List So
  | .plus | .minus | .times | .less | .same => [.num, .num]
  | .do_ => [.row] | .dip => [.any, .row] | .if_ => [.num, .row, .row] | .while_ => [.row, .row] | .repeat_ => [.num, .row] | .join => [.row, .row] | .wrap => [.any] | .put => [.lst, .any] | .part => [.lst, .row, .row] | .each => [.lst, .row]
theorem srtB_len (b : Bas) : 1 ≤ (srtB b).length ∧ (srtB b).length ≤ 3 := by cases b <;> decide
/-- what is handed to a word for a thing -/
def hldD : So → Th → DV
  | .any, t => eT t
  | _, t => inT t
def hlds (ss : List So) (ts : List Th) : List DV := (ss.zip ts).map fun p => hldD p.1 p.2
def fits (ss : List So) (ts : List Th) : Bool := (ss.zip ts).all fun p => fitB p.1 p.2
theorem fits_get : ∀ {ss : List So} {ts : List Th} {i : Nat} {s : So} {t : Th}, fits ss ts = true → ss[i]? = some s → ts[i]? = some t → fitB s t = true := fun {ss ts i s t} h h1 h2 =>
  List.all_eq_true.mp h (s, t) (List.mem_of_getElem? (List.getElem?_zip_eq_some.mpr ⟨h1, h2⟩))
theorem fits_no {ss : List So} {ts : List Th} (h : fits ss ts = false) : ∃ (i : Nat) (s : So) (t : Th), ss[i]? = some s ∧ ts[i]? = some t ∧ fitB s t = false := by
  obtain ⟨⟨s, t⟩, hm, hf⟩ := List.all_eq_false.mp h
  obtain ⟨i, hi⟩ := List.mem_iff_getElem?.mp hm
  obtain ⟨h1, h2⟩ := List.getElem?_zip_eq_some.mp hi
  exact ⟨i, s, t, h1, h2, by simpa using hf⟩
theorem hlds_get {ss : List So} {ts : List Th} {i : Nat} {s : So} {t : Th} (h1 : ss[i]? = some s) (h2 : ts[i]? = some t) : (hlds ss ts)[i]? = some (hldD s t) := by
  unfold hlds
  rw [List.getElem?_map, show (ss.zip ts)[i]? = some (s, t) from List.getElem?_zip_eq_some.mpr ⟨h1, h2⟩]; rfl
theorem hlds_len {ss : List So} {ts : List Th} (h : ts.length = ss.length) : (hlds ss ts).length = ss.length := by
  unfold hlds
  rw [List.length_map, List.length_zip]; omega
/-- the deeds of the basic words on just the things that they take -/
def deedB : Bas → List Th → Option (List Th × List Wo)
  | .plus, [.num a, .num b] => some ([.num ((a + b) % 1000000000000)], [])
  | .minus, [.num a, .num b] => some ([.num ((a - b) % 1000000000000)], [])
  | .times, [.num a, .num b] => some ([.num ((a * b) % 1000000000000)], [])
  | .less, [.num a, .num b] => some ([.num (if a < b then 1 else 0)], [])
  | .same, [.num a, .num b] => some ([.num (if a = b then 1 else 0)], [])
  | .do_, [.row p] => some ([], p)
  | .dip, [x, .row p] => some ([], p ++ [.push x])
  | .if_, [.num n, .row p, .row q] => some ([], if n = 0 then q else p)
  | .while_, [.row p, .row q] => some ([], p ++ [.push (.row (q ++ [.push (.row p), .push (.row q), .txt "while"])), .push (.row []), .txt "if"])
  | .repeat_, [.num n, .row p] => some ([], if n = 0 then [] else p ++ [.push (.num (n - 1)), .push (.row p), .txt "repeat"])
  | .join, [.row p, .row q] => some ([.row (p ++ q)], [])
  | .wrap, [x] => some ([.row [.push x]], [])
  | .put, [.lst l, x] => some ([.lst (l ++ [x])], [])
  | .part, [.lst l, .row p, .row q] => some (match l with | [] => ([], q) | x :: r => ([x, .lst r], p))
  | .each, [.lst l, .row p] => some (match l with | [] => ([], []) | x :: r => ([x], p ++ [.push (.lst r), .push (.row p), .txt "each"]))
  | _, _ => none
theorem deed_know (b : Bas) (ts : List Th) (hl : ts.length = (srtB b).length) : ((∃ r, deedB b ts = some r) ∧ fits (srtB b) ts = true) ∨ (deedB b ts = none ∧ fits (srtB b) ts = false) := by
  cases b <;> rcases ts with _ | ⟨x, _ | ⟨y, _ | ⟨v, _ | ⟨u, r⟩⟩⟩⟩ <;> first
    | exact absurd hl (by simp only [List.length_cons, List.length_nil, srtB]; omega)
    | (cases x <;> first | exact .inl ⟨⟨_, rfl⟩, rfl⟩ | exact .inr ⟨rfl, rfl⟩)
    | (cases x <;> cases y <;> first | exact .inl ⟨⟨_, rfl⟩, rfl⟩ | exact .inr ⟨rfl, rfl⟩)
    | (cases x <;> cases y <;> cases v <;> first | exact .inl ⟨⟨_, rfl⟩, rfl⟩ | exact .inr ⟨rfl, rfl⟩)
/-! numbers within bounds, texts that are words -/
abbrev NumOk (n : Int) : Prop := 0 ≤ n ∧ n < 1000000000000
structure NmOk (z : Str) : Prop where
  nb : z ∉ BKL
  no : 45 ∉ TL.tl z
  ln : z.length ≤ 100
  ok : PyData.strOk z = true
def WD (z : Str) : Prop := z ∈ BKL ∨ (∃ n ps, z = shT n ps ∧ ShOk n ps) ∨ NmOk z
mutual
def gdT : Th → Prop
  | .num n => NumOk n
  | .row ws => gdWs ws
  | .lst ts => gdTs ts
def gdW : Wo → Prop
  | .txt z => WD z
  | .push t => gdT t
def gdWs : List Wo → Prop
  | [] => True
  | w :: r => gdW w ∧ gdWs r
def gdTs : List Th → Prop
  | [] => True
  | t :: r => gdT t ∧ gdTs r
end
theorem gdWs_iff : ∀ {ws : List Wo}, gdWs ws ↔ ∀ w ∈ ws, gdW w
  | [] => ⟨fun _ _ h => (nomatch h), fun _ => trivial⟩
  | w :: r => by
    constructor
    · intro h x hx
      rcases List.mem_cons.mp hx with rfl | hx
      · exact h.1
      · exact gdWs_iff.mp h.2 x hx
    · intro h
      exact ⟨h w (List.mem_cons_self ..), gdWs_iff.mpr fun x hx => h x (List.mem_cons_of_mem _ hx)⟩
theorem gdTs_iff : ∀ {ws : List Th}, gdTs ws ↔ ∀ w ∈ ws, gdT w
  | [] => ⟨fun _ _ h => (nomatch h), fun _ => trivial⟩
  | w :: r => by
    constructor
    · intro h x hx
      rcases List.mem_cons.mp hx with rfl | hx
      · exact h.1
      · exact gdTs_iff.mp h.2 x hx
    · intro h
      exact ⟨h w (List.mem_cons_self ..), gdTs_iff.mpr fun x hx => h x (List.mem_cons_of_mem _ hx)⟩
theorem gdWs_app {a b : List Wo} : gdWs (a ++ b) ↔ gdWs a ∧ gdWs b := by
  simp only [gdWs_iff, List.mem_append]
  exact ⟨fun h => ⟨fun w hw => h w (.inl hw), fun w hw => h w (.inr hw)⟩, fun h w hw => hw.elim (h.1 w) (h.2 w)⟩
theorem gdTs_app {a b : List Th} : gdTs (a ++ b) ↔ gdTs a ∧ gdTs b := by
  simp only [gdTs_iff, List.mem_append]
  exact ⟨fun h => ⟨fun w hw => h w (.inl hw), fun w hw => h w (.inr hw)⟩, fun h w hw => hw.elim (h.1 w) (h.2 w)⟩
theorem strOk_of {z : Str} (h : ∀ c ∈ z.cps.toList, c < 1114112) : PyData.strOk z = true := by
  show z.cps.all _ = true
  rw [Array.all_eq_true']
  intro c hc
  exact decide_eq_true (h c (by simpa using hc))
theorem bk_ok : ∀ z ∈ BKL, PyData.strOk z = true := by decide +kernel
theorem sh_ok {n : Nat} {ps : List Nat} (hs : ShOk n ps) : PyData.strOk (shT n ps) = true := by
  refine strOk_of fun c hc => ?_
  have hc : c ∈ TL.tl (shT n ps) := hc
  rw [shT_S, tl_S'] at hc
  have hn := hs.hn
  rcases List.mem_append.mp hc with h | h
  · obtain ⟨x, hx, rfl⟩ := List.mem_map.mp h
    have := List.mem_range.mp hx
    omega
  · rcases List.mem_cons.mp h with rfl | h
    · decide
    · obtain ⟨x, hx, rfl⟩ := List.mem_map.mp h
      have := hs.hp x hx
      omega
theorem wd_ok {z : Str} (h : WD z) : PyData.strOk z = true := by
  rcases h with h | ⟨n, ps, rfl, hs⟩ | h
  · exact bk_ok z h
  · exact sh_ok hs
  · exact h.ok
mutual
theorem gdT_tx : ∀ t : Th, gdT t → txT t = true
  | .num _, _ => rfl
  | .row ws, h => gdWs_tx ws h
  | .lst ts, h => gdTs_tx ts h
theorem gdW_tx : ∀ w : Wo, gdW w → txW w = true
  | .txt z, h => wd_ok h
  | .push t, h => gdT_tx t h
theorem gdWs_tx : ∀ ws : List Wo, gdWs ws → txWs ws = true
  | [], _ => rfl
  | w :: r, h => by show (txW w && txWs r) = true; rw [gdW_tx w h.1, gdWs_tx r h.2]; rfl
theorem gdTs_tx : ∀ ts : List Th, gdTs ts → txTs ts = true
  | [], _ => rfl
  | w :: r, h => by show (txT w && txTs r) = true; rw [gdT_tx w h.1, gdTs_tx r h.2]; rfl
end
mutual
theorem dpT_sz : ∀ t : Th, dpT t ≤ szT t
  | .num _ => Nat.zero_le _
  | .row ws => by have := dpWs_sz ws; show 1 + dpWs ws ≤ 1 + szWs ws; omega
  | .lst ts => by have := dpTs_sz ts; show 1 + dpTs ts ≤ 1 + szTs ts; omega
theorem dpW_sz : ∀ w : Wo, dpW w ≤ szW w
  | .txt _ => Nat.zero_le _
  | .push t => by have := dpT_sz t; show dpT t ≤ 1 + szT t; omega
theorem dpWs_sz : ∀ ws : List Wo, dpWs ws ≤ szWs ws
  | [] => Nat.le_refl 0
  | w :: r => by have := dpW_sz w; have := dpWs_sz r; show max (dpW w) (dpWs r) ≤ szW w + szWs r; omega
theorem dpTs_sz : ∀ ts : List Th, dpTs ts ≤ szTs ts
  | [] => Nat.le_refl 0
  | t :: r => by have := dpT_sz t; have := dpTs_sz r; show max (dpT t) (dpTs r) ≤ szT t + szTs r; omega
end
/-- how large what is done is -/
theorem deed_sz {b : Bas} {ts : List Th} {l : List Th} {a : List Wo} (h : deedB b ts = some (l, a)) : szTs l + szWs a ≤ 2 * szTs ts + 10 ∧ dpTs l ≤ dpTs ts + 1 ∧ dpWs a ≤ dpTs ts + 1 := by
  unfold deedB at h
  split at h
  all_goals first
    | cases h; done
    | (cases h; simp only [szT, szW, szWs, szTs, dpT, dpW, dpWs, dpTs, szWs_app, szTs_app, dpWs_app, dpTs_app]; omega)
    | skip
  · cases h
    rename_i n p q
    by_cases h : n = 0
    · rw [if_pos h]; simp only [szT, szW, szWs, szTs, dpT, dpW, dpWs, dpTs]; omega
    · rw [if_neg h]; simp only [szT, szW, szWs, szTs, dpT, dpW, dpWs, dpTs]; omega
  · cases h
    rename_i n p
    by_cases h : n = 0
    · rw [if_pos h]; simp only [szT, szW, szWs, szTs, dpT, dpW, dpWs, dpTs]; omega
    · rw [if_neg h]; simp only [szT, szW, szWs, szTs, dpT, dpW, dpWs, dpTs, szWs_app, dpWs_app]; omega
  · rename_i l' p q
    cases l' <;> (cases h; simp only [szT, szW, szWs, szTs, dpT, dpW, dpWs, dpTs]; omega)
  · rename_i l' p
    cases l' <;> (cases h; simp only [szT, szW, szWs, szTs, dpT, dpW, dpWs, dpTs, szWs_app, dpWs_app]; omega)
theorem wd_nm (b : Bas) : WD (nmBas b) := .inl (bkl_mem b)
theorem deed_gd {b : Bas} {ts : List Th} {l : List Th} {a : List Wo} (h : deedB b ts = some (l, a)) (g : gdTs ts) : gdTs l ∧ gdWs a := by
  have i1 : gdW (.txt "if") := wd_nm .if_
  have i2 : gdW (.txt "while") := wd_nm .while_
  have i3 : gdW (.txt "repeat") := wd_nm .repeat_
  have i4 : gdW (.txt "each") := wd_nm .each
  unfold deedB at h
  split at h
  all_goals first
    | cases h; done
    | (cases h; exact ⟨⟨⟨by omega, by omega⟩, trivial⟩, trivial⟩)
    | skip
  · cases h; exact ⟨trivial, g.1⟩
  · cases h; exact ⟨trivial, gdWs_app.mpr ⟨g.2.1, g.1, trivial⟩⟩
  · rename_i n p q
    cases h
    refine ⟨trivial, ?_⟩
    by_cases h : n = 0
    · rw [if_pos h]; exact g.2.2.1
    · rw [if_neg h]; exact g.2.1
  · cases h
    exact ⟨trivial, gdWs_app.mpr ⟨g.1, gdWs_app.mpr ⟨g.2.1, g.1, g.2.1, i2, trivial⟩, trivial, i1, trivial⟩⟩
  · rename_i n p
    cases h
    refine ⟨trivial, ?_⟩
    have hn : NumOk n := g.1
    by_cases h : n = 0
    · rw [if_pos h]; exact trivial
    · rw [if_neg h]; exact gdWs_app.mpr ⟨g.2.1, ⟨by omega, by omega⟩, g.2.1, i3, trivial⟩
  · cases h; exact ⟨⟨gdWs_app.mpr ⟨g.1, g.2.1⟩, trivial⟩, trivial⟩
  · cases h; exact ⟨⟨⟨g.1, trivial⟩, trivial⟩, trivial⟩
  · cases h; exact ⟨⟨gdTs_app.mpr ⟨g.1, g.2.1, trivial⟩, trivial⟩, trivial⟩
  · rename_i l' p q
    cases l' with
    | nil => cases h; exact ⟨trivial, g.2.2.1⟩
    | cons x r =>
      cases h
      have g1 : gdT x ∧ gdTs r := g.1
      exact ⟨⟨g1.1, g1.2, trivial⟩, g.2.1⟩
  · rename_i l' p
    cases l' with
    | nil => cases h; exact ⟨trivial, trivial⟩
    | cons x r =>
      cases h
      have g1 : gdT x ∧ gdTs r := g.1
      exact ⟨⟨g1.1, trivial⟩, gdWs_app.mpr ⟨g.2.1, g1.2, g.2.1, i4, trivial⟩⟩
/-! shuffles read back -/
def shufOf (z : Str) : Option (Nat × List Nat) :=
  if 45 ∈ TL.tl z then some (((TL.tl z).takeWhile fun c => decide (c ≠ 45)).length, (((TL.tl z).dropWhile fun c => decide (c ≠ 45)).drop 1).map fun c => c - 97) else none
theorem shufOf_sh (n : Nat) (ps : List Nat) : shufOf (shT n ps) = some (n, ps) := by
  unfold shufOf
  have e : TL.tl (shT n ps) = shL n ++ 45 :: shP ps := by rw [shT_S, tl_S']
  have a : ∀ c ∈ shL n, decide (c ≠ 45) = true := fun c hc => decide_eq_true (no45 hc)
  rw [e, if_pos (List.mem_append_right _ (List.mem_cons_self ..))]
  rw [List.takeWhile_append_of_pos a, List.dropWhile_append_of_pos a]
  have t0 : List.takeWhile (fun c => decide (c ≠ 45)) (45 :: shP ps) = [] := by rw [List.takeWhile_cons, if_neg (by decide)]
  have d0 : List.dropWhile (fun c => decide (c ≠ 45)) (45 :: shP ps) = 45 :: shP ps := by rw [List.dropWhile_cons, if_neg (by decide)]
  rw [t0, d0, List.append_nil]
  have l : (shL n).length = n := by unfold shL; rw [List.length_map, List.length_range]
  rw [l]
  show some (n, ((shP ps).map fun c => c - 97)) = _
  unfold shP
  rw [List.map_map]
  have : ((fun c => c - 97) ∘ fun x => 97 + x) = (id : Nat → Nat) := by funext x; show 97 + x - 97 = x; omega
  rw [this, List.map_id]
theorem shufOf_no {z : Str} (h : 45 ∉ TL.tl z) : shufOf z = none := by unfold shufOf; rw [if_neg h]
theorem bkl_45 : ∀ z ∈ BKL, 45 ∉ TL.tl z := by decide +kernel
theorem sh45 (n : Nat) (ps : List Nat) : 45 ∈ TL.tl (shT n ps) := of_decide_eq_true (DD.sh_45 n ps)
theorem sh_nb (n : Nat) (ps : List Nat) : shT n ps ∉ BKL := fun h => bkl_45 _ h (sh45 n ps)
/-! books and steps -/
abbrev Bok := List (Str × List Wo)
def rowTold : Bok → Str → Option (List Wo)
  | [], _ => none
  | (n, r) :: bk, z => if n = z then some r else rowTold bk z
def atTh (fs : List Th) (i : Nat) : Th := (fs[i]?).getD (.num 0)
theorem atTh_get {fs : List Th} {i : Nat} (h : i < fs.length) : fs[i]? = some (atTh fs i) := by
  unfold atTh
  rw [List.getElem?_eq_getElem h]; rfl
theorem atTh_mem {fs : List Th} {i : Nat} (h : i < fs.length) : atTh fs i ∈ fs := List.mem_of_getElem? (atTh_get h)
/-- what a word does on a stack: how many things it takes, those it leaves, the words that it puts ahead -/
def effW (bk : Bok) (S : List Th) : Wo → Option (Nat × List Th × List Wo)
  | .push t => some (0, [t], [])
  | .txt z =>
    match basOf z with
    | some b => if S.length < (srtB b).length then none else (deedB b (S.drop (S.length - (srtB b).length))).map fun r => ((srtB b).length, r.1, r.2)
    | none =>
      match shufOf z with
      | some (n, ps) => if S.length < n then none else some (n, ps.map (atTh (S.drop (S.length - n))), [])
      | none => (rowTold bk z).map fun r => (0, [], r)
def stepF (bk : Bok) (S : List Th) : List Wo → Option (List Th × List Wo)
  | [] => none
  | w :: r => (effW bk S w).map fun e => (S.take (S.length - e.1) ++ e.2.1, e.2.2 ++ r)
theorem effW_bas (bk : Bok) (S : List Th) (b : Bas) : effW bk S (.txt (nmBas b)) = if S.length < (srtB b).length then none else (deedB b (S.drop (S.length - (srtB b).length))).map fun r => ((srtB b).length, r.1, r.2) := by
  unfold effW
  simp only [basOf_nm]
theorem effW_sh (bk : Bok) (S : List Th) (n : Nat) (ps : List Nat) : effW bk S (.txt (shT n ps)) = if S.length < n then none else some (n, ps.map (atTh (S.drop (S.length - n))), []) := by
  unfold effW
  simp only [basOf_no (sh_nb n ps), shufOf_sh]
theorem effW_nm (bk : Bok) (S : List Th) {z : Str} (h : NmOk z) : effW bk S (.txt z) = (rowTold bk z).map fun r => (0, [], r) := by
  unfold effW
  simp only [basOf_no h.nb, shufOf_no h.no]
structure BokOk (m : Nat) (bk : Bok) : Prop where
  gd : ∀ x ∈ bk, gdWs x.2
  sz : ∀ x ∈ bk, szWs x.2 ≤ m ∧ dpWs x.2 ≤ 10
  nm : ∀ x ∈ bk, NmOk x.1
theorem rowTold_mem : ∀ {bk : Bok} {z : Str} {r : List Wo}, rowTold bk z = some r → ∃ x ∈ bk, x.1 = z ∧ x.2 = r
  | [], _, _, h => nomatch h
  | (n, w) :: bk, z, r, h => by
    unfold rowTold at h
    by_cases e : n = z
    · rw [if_pos e] at h; cases h
      exact ⟨_, List.mem_cons_self .., e, rfl⟩
    · rw [if_neg e] at h
      obtain ⟨x, hx, h1⟩ := rowTold_mem h
      exact ⟨x, List.mem_cons_of_mem _ hx, h1⟩
theorem szTs_at {fs : List Th} {n : Nat} : ∀ {ps : List Nat}, fs.length = n → (∀ p ∈ ps, p < n) → szTs (ps.map (atTh fs)) ≤ ps.length * szTs fs ∧ dpTs (ps.map (atTh fs)) ≤ dpTs fs
  | [], _, _ => ⟨Nat.zero_le _, Nat.zero_le _⟩
  | p :: r, e, h => by
    obtain ⟨a, b⟩ := szTs_at (ps := r) e fun q hq => h q (List.mem_cons_of_mem _ hq)
    obtain ⟨c, d, _⟩ := mem_szT (atTh_mem (fs := fs) (i := p) (by rw [e]; exact h p (List.mem_cons_self ..)))
    refine ⟨?_, ?_⟩
    · show szT (atTh fs p) + szTs (r.map (atTh fs)) ≤ (r.length + 1) * szTs fs
      rw [Nat.add_mul]; omega
    · show max (dpT (atTh fs p)) (dpTs (r.map (atTh fs))) ≤ dpTs fs; omega
theorem gdTs_at {fs : List Th} {n : Nat} {ps : List Nat} (e : fs.length = n) (h : ∀ p ∈ ps, p < n) (g : gdTs fs) : gdTs (ps.map (atTh fs)) := by
  refine gdTs_iff.mpr fun t ht => ?_
  obtain ⟨p, hp, rfl⟩ := List.mem_map.mp ht
  exact gdTs_iff.mp g _ (atTh_mem (by rw [e]; exact h p hp))
theorem gdTs_take {S : List Th} (n : Nat) (g : gdTs S) : gdTs (S.take n) := gdTs_iff.mpr fun t ht => gdTs_iff.mp g t (List.mem_of_mem_take ht)
theorem gdTs_drop {S : List Th} (n : Nat) (g : gdTs S) : gdTs (S.drop n) := gdTs_iff.mpr fun t ht => gdTs_iff.mp g t (List.mem_of_mem_drop ht)
theorem szTs_cut (S : List Th) (n : Nat) : szTs (S.take n) + szTs (S.drop n) = szTs S ∧ dpTs (S.take n) ≤ dpTs S ∧ dpTs (S.drop n) ≤ dpTs S := by
  have e1 : szTs S = szTs (S.take n) + szTs (S.drop n) := by rw [← szTs_app, List.take_append_drop]
  have e2 : dpTs S = max (dpTs (S.take n)) (dpTs (S.drop n)) := by rw [← dpTs_app, List.take_append_drop]
  omega
/-- what a word that is one does, within bounds -/
theorem effW_ok {m : Nat} {bk : Bok} {S : List Th} {w : Wo} {k : Nat} {l : List Th} {a : List Wo} (hb : BokOk m bk) (gw : gdW w) (g : gdTs S) (h : effW bk S w = some (k, l, a)) :
    k ≤ S.length ∧ gdTs l ∧ gdWs a ∧ szTs l + szWs a ≤ 12 * szTs S + szW w + m + 10 ∧ dpTs l ≤ max (dpTs S + 1) (dpW w) ∧ dpWs a ≤ max (dpTs S + 1) 10 := by
  cases w with
  | push t =>
    cases h
    refine ⟨Nat.zero_le _, ⟨gw, trivial⟩, trivial, ?_, ?_, ?_⟩
    · show szT t + 0 + 0 ≤ 12 * szTs S + (1 + szT t) + m + 10; omega
    · show max (dpT t) 0 ≤ max (dpTs S + 1) (dpT t); omega
    · show 0 ≤ _; omega
  | txt z =>
    rcases (gw : WD z) with hz | ⟨n, ps, rfl, hs⟩ | hn
    · obtain ⟨b, rfl⟩ := bkl_inv hz
      rw [effW_bas] at h
      by_cases hl : S.length < (srtB b).length
      · rw [if_pos hl] at h; cases h
      · rw [if_neg hl] at h
        obtain ⟨⟨l', a'⟩, hd, e⟩ := Option.map_eq_some_iff.mp h
        cases e
        obtain ⟨s1, s2, s3⟩ := deed_sz hd
        obtain ⟨g1, g2⟩ := deed_gd hd (gdTs_drop _ g)
        obtain ⟨c1, c2, c3⟩ := szTs_cut S (S.length - (srtB b).length)
        refine ⟨by omega, g1, g2, ?_, ?_, ?_⟩
        · show szTs l' + szWs a' ≤ 12 * szTs S + 1 + m + 10
          omega
        · show dpTs l' ≤ _; omega
        · show dpWs a' ≤ _; omega
    · rw [effW_sh] at h
      by_cases hl : S.length < n
      · rw [if_pos hl] at h; cases h
      · rw [if_neg hl] at h
        have e0 := Option.some.inj h
        obtain ⟨en, e9⟩ := Prod.mk.inj e0
        subst en
        obtain ⟨rfl, rfl⟩ := Prod.mk.inj e9
        obtain ⟨c1, c2, c3⟩ := szTs_cut S (S.length - n)
        have e : (S.drop (S.length - n)).length = n := by rw [List.length_drop]; omega
        obtain ⟨z1, z2⟩ := szTs_at e hs.hp
        have hl12 := hs.hl
        have : ps.length * szTs (S.drop (S.length - n)) ≤ 12 * szTs (S.drop (S.length - n)) := Nat.mul_le_mul_right _ hl12
        refine ⟨by omega, gdTs_at e hs.hp (gdTs_drop _ g), trivial, ?_, by omega, by show 0 ≤ _; omega⟩
        show _ + 0 ≤ 12 * szTs S + 1 + m + 10
        omega
    · rw [effW_nm bk S hn] at h
      obtain ⟨r, hr, e⟩ := Option.map_eq_some_iff.mp h
      cases e
      obtain ⟨x, hx, _, rfl⟩ := rowTold_mem hr
      obtain ⟨s1, s2⟩ := hb.sz x hx
      refine ⟨Nat.zero_le _, trivial, hb.gd x hx, ?_, Nat.zero_le _, by omega⟩
      show 0 + szWs x.2 ≤ 12 * szTs S + 1 + m + 10
      omega
theorem stepF_ok {m : Nat} {bk : Bok} {S S' : List Th} {T T' : List Wo} (hb : BokOk m bk) (gT : gdWs T) (gS : gdTs S) (h : stepF bk S T = some (S', T')) :
    gdTs S' ∧ gdWs T' ∧ szTs S' + szWs T' ≤ 13 * szTs S + 2 * szWs T + m + 10 ∧ dpTs S' ≤ max (dpTs S + 1) (dpWs T) ∧ dpWs T' ≤ max (max (dpTs S + 1) 10) (dpWs T) := by
  cases T with
  | nil => cases h
  | cons w r =>
    obtain ⟨⟨k, l, a⟩, he, e⟩ := Option.map_eq_some_iff.mp h
    obtain ⟨rfl, rfl⟩ := Prod.mk.inj e
    obtain ⟨h1, g1, g2, z1, d1, d2⟩ := effW_ok hb gT.1 gS he
    show gdTs (S.take (S.length - k) ++ l) ∧ gdWs (a ++ r) ∧ szTs (S.take (S.length - k) ++ l) + szWs (a ++ r) ≤ _ ∧ dpTs (S.take (S.length - k) ++ l) ≤ _ ∧ dpWs (a ++ r) ≤ _
    obtain ⟨c1, c2, c3⟩ := szTs_cut S (S.length - k)
    have eW : szWs (w :: r) = szW w + szWs r := rfl
    have eD : dpWs (w :: r) = max (dpW w) (dpWs r) := rfl
    refine ⟨gdTs_app.mpr ⟨gdTs_take _ gS, g1⟩, gdWs_app.mpr ⟨g2, gT.2⟩, ?_, ?_, ?_⟩
    · rw [szTs_app, szWs_app, eW]; omega
    · rw [dpTs_app, eD]; omega
    · rw [dpWs_app, eD]; omega
/-- what lies beneath stays -/
theorem effW_under {bk : Bok} {B S : List Th} {w : Wo} {k : Nat} {l : List Th} {a : List Wo} (h : effW bk S w = some (k, l, a)) (hk : k ≤ S.length) : effW bk (B ++ S) w = some (k, l, a) := by
  have dr : ∀ n, n ≤ S.length → (B ++ S).drop ((B ++ S).length - n) = S.drop (S.length - n) := fun n hn => by
    rw [List.length_append, show B.length + S.length - n = B.length + (S.length - n) from by omega, List.drop_append]
    rw [List.drop_of_length_le (by omega), List.nil_append, Nat.add_sub_cancel_left]
  cases w with
  | push t => exact h
  | txt z =>
    unfold effW at h ⊢
    cases e : basOf z with
    | some b =>
      simp only [e] at h ⊢
      by_cases hl : S.length < (srtB b).length
      · rw [if_pos hl] at h; cases h
      · rw [if_neg hl] at h
        rw [if_neg (by rw [List.length_append]; omega), dr _ (by omega)]
        exact h
    | none =>
      simp only [e] at h ⊢
      cases e2 : shufOf z with
      | some p =>
        obtain ⟨n, ps⟩ := p
        simp only [e2] at h ⊢
        by_cases hl : S.length < n
        · rw [if_pos hl] at h; cases h
        · rw [if_neg hl] at h
          rw [if_neg (by rw [List.length_append]; omega), dr _ (by omega)]
          exact h
      | none =>
        simp only [e2] at h ⊢
        exact h
theorem stepF_under {m : Nat} {bk : Bok} {B S S' : List Th} {T T' : List Wo} (hb : BokOk m bk) (gT : gdWs T) (gS : gdTs S) (h : stepF bk S T = some (S', T')) : stepF bk (B ++ S) T = some (B ++ S', T') := by
  cases T with
  | nil => cases h
  | cons w r =>
    obtain ⟨⟨k, l, a⟩, he, e⟩ := Option.map_eq_some_iff.mp h
    cases e
    obtain ⟨h1, _⟩ := effW_ok hb gT.1 gS he
    show (effW bk (B ++ S) w).map (fun e => ((B ++ S).take ((B ++ S).length - e.1) ++ e.2.1, e.2.2 ++ r)) = _
    rw [effW_under he h1]
    show some ((B ++ S).take ((B ++ S).length - k) ++ l, a ++ r) = _
    rw [List.length_append, show B.length + S.length - k = B.length + (S.length - k) from by omega, List.take_length_add_append, List.append_assoc]
end DD
set_option maxHeartbeats 1000000
namespace K14
open PySem PySem.W L2 SX Cm DD
local macro_rules | `(tactic| walk_at "d1") => `(tactic| first | (with_reducible refine w_go ?_) | ((with_reducible show dVar _ _ _ _); refine w_var rfl ?_) | (with_reducible refine w_exI ?_) | (with_reducible refine w_exB ?_) | (with_reducible refine w_exT ?_) | (with_reducible refine w_exS ?_) | (with_reducible refine w_parE ?_) | (with_reducible refine ly1 ?_) | (with_reducible refine ly2 ?_) | (with_reducible refine lt1' ?_) | (with_reducible refine lt2' ?_) | (with_reducible refine wx_enumT ?_) | (with_reducible refine w_callX ?_) | (with_reducible refine w_methX ?_) | (with_reducible refine w_raise ?_) | (with_reducible refine w_try ?_) | (with_reducible refine w_xSet ?_) | (with_reducible refine w_xExpr ?_) | (with_reducible refine w_xLst ?_) | (with_reducible refine w_xTup ?_) | (with_reducible refine w_xCons ?_) | (with_reducible refine w_xNil ?_) | (with_reducible refine w_xE ?_) | (with_reducible refine w_xCall ?_) | (with_reducible refine w_call0 ?_) | (with_reducible refine w_asgL ?_) | (with_reducible refine w_tupPd ?_) | (with_reducible refine wi_zip ?_) | (with_reducible refine w_delT ?_) | (with_reducible refine w_dc ?_) | (with_reducible refine w_revL ?_) | (with_reducible refine wi_revT ?_) | (with_reducible refine w_lstZip ?_) | (with_reducible refine w_chain ?_) | (with_reducible refine w_orT ?_) | (with_reducible refine w_try0 ?_) | (with_reducible refine w_xAsg ?_) | (with_reducible refine wi_zipTL ?_) | (with_reducible refine wi_zipSL ?_) | ((with_reducible show gT _ _ _ _ _ _); refine g_T ?_ rfl) | ((with_reducible show ∃ p, DV.ref _ = _ ∧ (∃ kvs, _) ∧ _); refine wx_get (by walk_at "gq") ?_) | ((with_reducible show ∃ kvs z, _ = _ ∧ _ = some (DO.dct _) ∧ _); refine wx_get2 (by walk_at "gq") ?_) | ((with_reducible show ∃ p kvs z, _ = _ ∧ _ = _ ∧ _ = some (DO.dct _) ∧ _); refine wx_in (by walk_at "gq") ?_) | ((with_reducible show List.length _ = _ ∧ _); refine w_len ?_ rfl) | ((with_reducible show List.length _ ≤ sizeLine ∧ _); refine w_sz ?_ (szl rfl)) | ((with_reducible show bIx _ (.int _) _ _); first | refine w_ix0 ?_ | refine w_ix1 ?_ | refine w_ix2 ?_ | refine w_ix3 ?_) | ((with_reducible show bIsi [_, _] _ _); first | refine w_isi (by decide) (a := "tuple") rfl rfl ?_ | refine w_isi (by decide) (a := "str") rfl rfl ?_ | refine w_isi (by decide) (a := "int") rfl rfl ?_ | refine w_isi (by decide) (a := "bool") rfl rfl ?_ | refine w_isi (by decide) (a := "NoneType") rfl rfl ?_) | ((with_reducible show ∃ ds, _ = DV.tup ds ∧ _); refine w_exT ?_) | ((with_reducible show ∃ z, _ = DV.str z ∧ _); refine w_exS ?_) | ((with_reducible show ∃ ds, [_] = [DV.tup ds] ∧ _); refine wx_enumT ?_) | ((with_reducible show bSl _ _ _ _ _); refine w_slT ?_) | ((with_reducible show bTuple [_] _ _); refine w_tupT ?_) | ((with_reducible show bLen [_] _ _); refine w_lenT ?_) | ((with_reducible show bTru _ _ _); first | refine w_truT ?_ | refine w_truN ?_ | refine w_truB ?_ | refine w_truI ?_) | ((with_reducible show bEq _ _ _ _ _); first | refine w_eqSS ?_ | refine w_eqII ?_ | refine w_neSS ?_ | refine w_neII ?_ | refine w_eqT0 ?_) | ((with_reducible show bInt _ _ (.int _) (.int _) _ _); refine w_int (by first | decide | exact ⟨by decide, by decide, by decide⟩ | exact .inl ⟨by decide, by decide⟩ | exact .inr ⟨by decide, by decide⟩) ?_) | ((with_reducible show if _ = true then _ else _); first | refine w_it (by first | rfl | decide +kernel) ?_ | refine w_if0 (by first | rfl | decide +kernel) ?_) | ((with_reducible show rcv "list" (.ref _) _ ∧ _); refine w_rcvL (by walk_at "gq") ?_) | ((with_reducible show bTuple [.ref _] _ _); refine w_tupL (by walk_at "gq") ?_) | ((with_reducible show bLen [.ref _] _ _); refine w_lenL (by walk_at "gq") ?_) | ((with_reducible show bTru (.ref _) _ _); refine w_truL (by walk_at "gq") ?_) | ((with_reducible show ∃ _ _, DV.ref _ = _ ∧ Ls _ _ _ ∧ _); refine wx_lst (by walk_at "gq") ?_) | ((with_reducible show ∃ _ _, [DV.ref _] = _ ∧ Ls _ _ _ ∧ _); refine wx_lstA (by walk_at "gq") ?_))
local macro_rules | `(tactic| walk_at "dd") => `(tactic| repeat (walk_at "d1"))
local macro_rules | `(tactic| walk_at "gq") => `(tactic| first | assumption | exact dupd_same | exact sub_get (by assumption) (by walk_at "gq") | exact upd_get (by assumption) (by walk_at "gq") (by walk_at "gn") | exact subx_get (by assumption) (by walk_at "gq") (by walk_at "gn") | (refine (dupd_ne ?_).trans ?_; (focus walk_at "gn"); walk_at "gq"))
local macro_rules | `(tactic| walk_at "gs") => `(tactic| first | assumption | exact Sub.refl _ | exact sub_tr (by assumption) (by walk_at "gs") | exact sub_up (by assumption) (by walk_at "gs") (by walk_at "g0") | exact sub_ux (by assumption) (by walk_at "gs") (by walk_at "g0") | (refine Sub.new ?_ ?_; (focus walk_at "gs"); walk_at "g0"))
local macro_rules | `(tactic| walk_at "gk") => `(tactic| first | assumption | exact db_sub (by assumption) (by walk_at "gk") | exact db_upd (by assumption) (by walk_at "gk") ⟨_, by walk_at "gq"⟩ | exact db_updD (by assumption) (by walk_at "gk") ⟨_, by walk_at "gq"⟩)
local macro_rules | `(tactic| walk_at "gu") => `(tactic| first | assumption | exact Upd.refl _ _ | exact upd_in (by assumption) (by walk_at "gu"))
local macro_rules | `(tactic| walk_at "gx") => `(tactic| first | assumption | exact SubX.refl _ _ | exact subx_sub (by assumption) (by walk_at "gx") | exact subx_upd (by assumption) (by walk_at "gx") | exact subx_tr (by assumption) (by walk_at "gx"))
local macro_rules | `(tactic| walk_at "gn") => `(tactic| first | assumption | exact Ne.symm (by assumption) | exact ne_ns (by assumption) ⟨_, by walk_at "gq"⟩ | exact ne_sn (by assumption) ⟨_, by walk_at "gq"⟩)
local macro_rules | `(tactic| walk_at "g0") => `(tactic| first | assumption | exact nn_ (by assumption) (by walk_at "gs"))
section
variable {P : Program} {w : World} {K : Frag} {mg : Str → Option Value} {base : Heap}
def SP_num : DSp := fun ds G R => ∃ d, ds = [.ref d] ∧ HasDb G d ∧ ∀ r, NumOk r → R (.int r) G
def SP_shf : DSp := fun ds G R => ∃ d m, ds = [.ref d, .int (m : Nat)] ∧ m ≤ 8 ∧ HasDb G d ∧ ∀ n ps, ShOk n ps → R (.str (shT n ps)) G
abbrev N_L_number : List Str := ["_law_deck_here"]
abbrev A_L_number : List Str := ["_law_deck_here"]
theorem sc_L_number : FnScope N_L_number A_L_number (defScope s_L_number) := ⟨rfl, rfl, rfl, by decide +kernel, rfl, by decide +kernel, by decide +kernel⟩
theorem h_L_number (a : At K mg "_law_number" s_L_number A_L_number) (B : BI mg) (c_L_draw : Has P w K mg base 2 "_law_draw" A_L_draw SP_drawB) : Has P w K mg base 3 "_law_number" A_L_number SP_num := by
  refine at_mk a sc_L_number fun f cdv A outer s H E hr ds G R hl h => ?_
  refine ⟨_, (dss_one (ds_ret (de_ix (de_lst (da_cons de_int (da_cons de_int (da_cons de_int (da_cons (de_call c_L_draw (hr.mono (by omega)) rfl (da_cons (dv 0) (da_cons de_int da_nil))) (da_cons (de_op od_sub (de_op od_pow de_int de_int) de_int) (da_cons (de_call c_L_draw (hr.mono (by omega)) rfl (da_cons (dv 0) (da_cons (de_op od_pow de_int de_int) da_nil))) da_nil))))))) (de_call c_L_draw (hr.mono (by omega)) rfl (da_cons (dv 0) (da_cons de_int da_nil)))))), ?_⟩
  obtain ⟨d, rfl, hk, q⟩ := h
  walk_at "dd"
  refine ⟨d, 7, rfl, hk, by decide, by decide, fun r1 a1 b1 => ?_⟩
  walk_at "dd"
  refine ⟨d, 10 ^ 12, rfl, hk, by decide, by decide, fun r2 a2 b2 => ?_⟩
  walk_at "dd"
  intro p np
  refine abs_new np fun G1 s1 h1 => ?_
  have hk1 : HasDb G1 d := by walk_at "gk"
  walk_at "dd"
  refine ⟨d, 6, rfl, hk1, by decide, by decide, fun r3 a3 b3 => ?_⟩
  have all : ∀ x ∈ [DV.int 0, .int 1, .int 2, .int r1, .int 999999999999, .int r2], ∃ i, x = .int i ∧ NumOk i := by
    intro x hx
    have b2 : r2 < 1000000000000 := b2
    simp only [List.mem_cons, List.not_mem_nil, or_false] at hx
    rcases hx with rfl | rfl | rfl | rfl | rfl | rfl
    · exact ⟨_, rfl, by decide, by decide⟩
    · exact ⟨_, rfl, by decide, by decide⟩
    · exact ⟨_, rfl, by decide, by decide⟩
    · exact ⟨_, rfl, a1, by omega⟩
    · exact ⟨_, rfl, by decide, by decide⟩
    · exact ⟨_, rfl, a2, b2⟩
  have h1 : G1 p = some (.lst [DV.int 0, .int 1, .int 2, .int r1, .int 999999999999, .int r2]) := h1
  obtain ⟨x, hx, ex⟩ := pick (xs := [DV.int 0, .int 1, .int 2, .int r1, .int 999999999999, .int r2]) a3 (n := 6) b3 rfl
  obtain ⟨i, rfl, hi⟩ := all x hx
  refine w_ixL h1 ex ?_
  exact ⟨G, s1, q i hi⟩
abbrev N_L_shuffle : List Str := ["_law_deck_here", "_law_most", "_law_many", "_law_letters", "_law_left", "_law_wide", "_law_k"]
abbrev A_L_shuffle : List Str := ["_law_deck_here", "_law_most"]
theorem sc_L_shuffle : FnScope N_L_shuffle A_L_shuffle (defScope s_L_shuffle) := ⟨rfl, rfl, rfl, by decide +kernel, rfl, by decide +kernel, by decide +kernel⟩
theorem h_L_shuffle (a : At K mg "_law_shuffle" s_L_shuffle A_L_shuffle) (B : BI mg) (c_L_draw : Has P w K mg base 2 "_law_draw" A_L_draw SP_drawB) : Has P w K mg base 3 "_law_shuffle" A_L_shuffle SP_shf := by
  refine at_mk a sc_L_shuffle fun f cdv A outer s H E hr ds G R hl h => ?_
  refine ⟨_, (dss_cons (ds_set (i := 2) sc_L_shuffle.nd rfl (.inl rfl) (de_call c_L_draw (hr.mono (by omega)) rfl (da_cons (dv 0) (da_cons (de_op od_add (dv 1) de_int) da_nil))))
    (dss_cons (ds_set (i := 3) sc_L_shuffle.nd rfl (.inl rfl) (de_slice de_str do_none (do_some (dv 2))))
    (dss_cons (ds_set (i := 4) sc_L_shuffle.nd rfl (.inl rfl) de_str)
    (dss_cons (ds_if (dt_cmp od_gt (dv 2) de_int (nomark _)) (dss_cons (ds_set (i := 5) sc_L_shuffle.nd rfl (.inl rfl) (de_ix (de_lst (da_cons de_int (da_cons de_int da_nil))) (de_op od_fdiv (de_call c_L_draw (hr.mono (by omega)) rfl (da_cons (dv 0) (da_cons de_int da_nil))) de_int)))
      (dss_one (ds_for PassesOwn.never rfl (di_range B.range rfl (da_cons (de_call c_L_draw (hr.mono (by omega)) rfl (da_cons (dv 0) (da_cons (dv 5) da_nil))) da_nil)) (dg_name (i := 6) sc_L_shuffle.nd rfl (.inl rfl)) (dss_one (ds_set (i := 4) sc_L_shuffle.nd rfl (.inl rfl) (de_op od_add (dv 4) (de_ix (dv 3) (de_call c_L_draw (hr.mono (by omega)) rfl (da_cons (dv 0) (da_cons (dv 2) da_nil)))))))))) dss_nil)
    (dss_one (ds_ret (de_op od_add (de_op od_add (dv 3) de_str) (dv 4)))))))), ?_⟩
  obtain ⟨d, mm, rfl, hmm, hk, q⟩ := h
  walk_at "dd"
  refine ⟨d, (mm : Int) + 1, rfl, hk, by omega, by omega, fun r1 a1 b1 => ?_⟩
  obtain ⟨n, rfl⟩ := Int.eq_ofNat_of_zero_le a1
  have hn : n < 9 := by omega
  walk_at "dd"
  refine w_slS (by decide +kernel) ?_
  rw [sh_cut n hn]
  walk_at "dd"
  have ln : (S (shL n)).length = n := by rw [S_len]; unfold shL; rw [List.length_map, List.length_range]
  have sz1 : (S (shL n)).length + ("-" : Str).length ≤ sizeLine := mid (by rw [ln, show ("-" : Str).length = 1 from by decide +kernel]; omega)
  have fin : ∀ (ps : List Nat) (G' : DG), ShOk n ps → Sub G G' → (S (shL n) ++ ("-" : Str)).length + (S (shP ps)).length ≤ sizeLine ∧ Less R (.str (S (shL n) ++ ("-" : Str) ++ S (shP ps))) G' := fun ps G' ok s => by
    have t := sh_len ok
    have e : (S (shL n) ++ ("-" : Str)).length + (S (shP ps)).length = (shT n ps).length := by
      unfold shT
      show _ = ((S (shL n) ++ ("-" : Str)).cps ++ (S (shP ps)).cps).size
      rw [Array.size_append]; rfl
    exact ⟨mid (by rw [e]; omega), G, s, q n ps ok⟩
  have e0 : S (shP []) = "" := by decide +kernel
  by_cases h0 : n = 0
  · subst h0
    refine w_if0 rfl ?_
    walk_at "dd"
    obtain ⟨l, h⟩ := fin [] G ⟨by decide, fun _ h => (nomatch h), by decide⟩ (Sub.refl G)
    rw [e0] at l h
    refine w_addS sz1 ?_
    walk_at "dd"
    exact w_addS l h
  refine w_it (decide_eq_true (by omega)) ?_
  walk_at "dd"
  intro p1 np1
  refine abs_new np1 fun G1 s1 h1 => ?_
  walk_at "dd"
  refine ⟨d, 8, rfl, by walk_at "gk", by decide, by decide, fun r2 a2 b2 => ?_⟩
  walk_at "dd"
  refine w_int (by first | exact wide_div (by decide) (b := 3) (by omega) (by decide) (by decide)) ?_
  obtain ⟨m, hm, em⟩ : ∃ m : Int, atI [DV.int 4, .int 13] (r2 / 7) = some (.int m) ∧ 0 < m ∧ m ≤ 13 := by
    have : r2 / 7 = 0 ∨ r2 / 7 = 1 := by omega
    rcases this with h | h
    · rw [h]; exact ⟨4, rfl, by decide, by decide⟩
    · rw [h]; exact ⟨13, rfl, by decide, by decide⟩
  refine w_ixL h1 hm ?_
  walk_at "dd"
  refine ⟨d, m, rfl, by walk_at "gk", em.1, by omega, fun r3 a3 b3 => ?_⟩
  walk_at "dd"
  refine wx_rng (by omega) (by omega) ?_
  refine for_by (fun i δ G' => ∃ (ps : List Nat) (x6 : Option DV), δ = [some (.ref d), some (.int (mm : Int)), some (.int (n : Int)), some (.str (S (shL n))), some (.str (S (shP ps))), some (.int m), x6] ∧ ps.length = i ∧ (∀ p ∈ ps, p < n) ∧ Sub G1 G') (fun _ _ _ _ => trivial) ⟨[], none, by rw [e0]; rfl, rfl, fun _ h => (nomatch h), Sub.refl _⟩ ?_ ?_
  · rintro i y δ G' hy ⟨ps, x6, rfl, lp, hp, sG⟩
    have hi := (List.getElem?_eq_some_iff.mp hy).1
    rw [rng_len] at hi
    walk_at "dd"
    refine ⟨d, (n : Int), rfl, by walk_at "gk", by omega, by omega, fun x x0 x1 => ?_⟩
    obtain ⟨x, rfl⟩ := Int.eq_ofNat_of_zero_le x0
    refine w_ixS (z := S (shL n)) (mid (by omega)) (c := 97 + x) ?_ ?_
    · show atI (shL n).toArray.toList ((x : Nat) : Int) = _
      rw [List.toList_toArray]
      refine atI_nat ?_
      unfold shL
      rw [List.getElem?_map, List.getElem?_range (by omega)]; rfl
    have ea : S (shP ps) ++ (⟨#[97 + x]⟩ : Str) = S (shP (ps ++ [x])) := by
      rw [show (⟨#[97 + x]⟩ : Str) = S [97 + x] from rfl, ← S_append]
      unfold shP
      rw [List.map_append]; rfl
    refine w_addS (mid (by rw [S_len]; unfold shP; rw [List.length_map, lp]; show i + 1 ≤ _; omega)) ?_
    rw [ea]
    walk_at "dd"
    exact ⟨ps ++ [x], _, rfl, by rw [List.length_append, lp]; rfl, fun p h => (List.mem_append.mp h).elim (hp p) fun h => by rw [List.mem_singleton.mp h]; omega, sG⟩
  · rintro δ G' ⟨ps, x6, rfl, lp, hp, sG⟩
    rw [rng_len] at lp
    walk_at "dd"
    obtain ⟨l, h⟩ := fin ps G' ⟨by omega, hp, by omega⟩ (s1.trans sG)
    refine w_addS sz1 ?_
    walk_at "dd"
    exact w_addS l h
end
end K14
set_option maxHeartbeats 1000000
/-! going through what is a tuple or a list -/
namespace DD
open PySem PySem.W L2 SX Cm
def dIOr (t u : TDI) : TDI := fun δ G R => t δ G R ∨ u δ G R
theorem di_or {X : Cx} {tg e : Expr} {t u : TDI} (h : DI X tg e t) (g : DI X tg e u) : DI X tg e (dIOr t u) :=
  ⟨fun pins s σ H R hi ⟨δ, G, R0, sl, w, q, f⟩ => q.elim (fun q => h.run pins s σ H R hi ⟨δ, G, R0, sl, w, q, f⟩) (fun q => g.run pins s σ H R hi ⟨δ, G, R0, sl, w, q, f⟩)⟩
end DD
set_option maxHeartbeats 1000000
namespace K14
open PySem PySem.W L2 SX Cm DD
local macro_rules | `(tactic| walk_at "d1") => `(tactic| first | (with_reducible refine w_go ?_) | ((with_reducible show dVar _ _ _ _); refine w_var rfl ?_) | (with_reducible refine w_exI ?_) | (with_reducible refine w_exB ?_) | (with_reducible refine w_exT ?_) | (with_reducible refine w_exS ?_) | (with_reducible refine w_parE ?_) | (with_reducible refine ly1 ?_) | (with_reducible refine ly2 ?_) | (with_reducible refine lt1' ?_) | (with_reducible refine lt2' ?_) | (with_reducible refine wx_enumT ?_) | (with_reducible refine w_callX ?_) | (with_reducible refine w_methX ?_) | (with_reducible refine w_raise ?_) | (with_reducible refine w_try ?_) | (with_reducible refine w_xSet ?_) | (with_reducible refine w_xExpr ?_) | (with_reducible refine w_xLst ?_) | (with_reducible refine w_xTup ?_) | (with_reducible refine w_xCons ?_) | (with_reducible refine w_xNil ?_) | (with_reducible refine w_xE ?_) | (with_reducible refine w_xCall ?_) | (with_reducible refine w_call0 ?_) | (with_reducible refine w_asgL ?_) | (with_reducible refine w_tupPd ?_) | (with_reducible refine wi_zip ?_) | (with_reducible refine w_delT ?_) | (with_reducible refine w_dc ?_) | (with_reducible refine w_revL ?_) | (with_reducible refine wi_revT ?_) | (with_reducible refine w_lstZip ?_) | (with_reducible refine w_chain ?_) | (with_reducible refine w_orT ?_) | (with_reducible refine w_try0 ?_) | (with_reducible refine w_xAsg ?_) | (with_reducible refine wi_zipTL ?_) | (with_reducible refine wi_zipSL ?_) | ((with_reducible show gT _ _ _ _ _ _); refine g_T ?_ rfl) | ((with_reducible show ∃ p, DV.ref _ = _ ∧ (∃ kvs, _) ∧ _); refine wx_get (by walk_at "gq") ?_) | ((with_reducible show ∃ kvs z, _ = _ ∧ _ = some (DO.dct _) ∧ _); refine wx_get2 (by walk_at "gq") ?_) | ((with_reducible show ∃ p kvs z, _ = _ ∧ _ = _ ∧ _ = some (DO.dct _) ∧ _); refine wx_in (by walk_at "gq") ?_) | ((with_reducible show List.length _ = _ ∧ _); refine w_len ?_ rfl) | ((with_reducible show List.length _ ≤ sizeLine ∧ _); refine w_sz ?_ (szl rfl)) | ((with_reducible show bIx _ (.int _) _ _); first | refine w_ix0 ?_ | refine w_ix1 ?_ | refine w_ix2 ?_ | refine w_ix3 ?_) | ((with_reducible show bIsi [_, _] _ _); first | refine w_isi (by decide) (a := "tuple") rfl rfl ?_ | refine w_isi (by decide) (a := "str") rfl rfl ?_ | refine w_isi (by decide) (a := "int") rfl rfl ?_ | refine w_isi (by decide) (a := "bool") rfl rfl ?_ | refine w_isi (by decide) (a := "NoneType") rfl rfl ?_) | ((with_reducible show ∃ ds, _ = DV.tup ds ∧ _); refine w_exT ?_) | ((with_reducible show ∃ z, _ = DV.str z ∧ _); refine w_exS ?_) | ((with_reducible show ∃ ds, [_] = [DV.tup ds] ∧ _); refine wx_enumT ?_) | ((with_reducible show bSl _ _ _ _ _); refine w_slT ?_) | ((with_reducible show bTuple [_] _ _); refine w_tupT ?_) | ((with_reducible show bLen [_] _ _); refine w_lenT ?_) | ((with_reducible show bTru _ _ _); first | refine w_truT ?_ | refine w_truN ?_ | refine w_truB ?_ | refine w_truI ?_) | ((with_reducible show bEq _ _ _ _ _); first | refine w_eqSS ?_ | refine w_eqII ?_ | refine w_neSS ?_ | refine w_neII ?_ | refine w_eqT0 ?_) | ((with_reducible show bInt _ _ (.int _) (.int _) _ _); refine w_int (by first | decide | exact ⟨by decide, by decide, by decide⟩ | exact .inl ⟨by decide, by decide⟩ | exact .inr ⟨by decide, by decide⟩) ?_) | ((with_reducible show if _ = true then _ else _); first | refine w_it (by first | rfl | decide +kernel) ?_ | refine w_if0 (by first | rfl | decide +kernel) ?_) | ((with_reducible show rcv "list" (.ref _) _ ∧ _); refine w_rcvL (by walk_at "gq") ?_) | ((with_reducible show bTuple [.ref _] _ _); refine w_tupL (by walk_at "gq") ?_) | ((with_reducible show bLen [.ref _] _ _); refine w_lenL (by walk_at "gq") ?_) | ((with_reducible show bTru (.ref _) _ _); refine w_truL (by walk_at "gq") ?_) | ((with_reducible show ∃ _ _, DV.ref _ = _ ∧ Ls _ _ _ ∧ _); refine wx_lst (by walk_at "gq") ?_) | ((with_reducible show ∃ _ _, [DV.ref _] = _ ∧ Ls _ _ _ ∧ _); refine wx_lstA (by walk_at "gq") ?_))
local macro_rules | `(tactic| walk_at "dd") => `(tactic| repeat (walk_at "d1"))
local macro_rules | `(tactic| walk_at "gq") => `(tactic| first | assumption | exact dupd_same | exact sub_get (by assumption) (by walk_at "gq") | exact upd_get (by assumption) (by walk_at "gq") (by walk_at "gn") | exact subx_get (by assumption) (by walk_at "gq") (by walk_at "gn") | (refine (dupd_ne ?_).trans ?_; (focus walk_at "gn"); walk_at "gq"))
local macro_rules | `(tactic| walk_at "gs") => `(tactic| first | assumption | exact Sub.refl _ | exact sub_tr (by assumption) (by walk_at "gs") | exact sub_up (by assumption) (by walk_at "gs") (by walk_at "g0") | exact sub_ux (by assumption) (by walk_at "gs") (by walk_at "g0") | (refine Sub.new ?_ ?_; (focus walk_at "gs"); walk_at "g0"))
local macro_rules | `(tactic| walk_at "gk") => `(tactic| first | assumption | exact db_sub (by assumption) (by walk_at "gk") | exact db_upd (by assumption) (by walk_at "gk") ⟨_, by walk_at "gq"⟩ | exact db_updD (by assumption) (by walk_at "gk") ⟨_, by walk_at "gq"⟩)
local macro_rules | `(tactic| walk_at "gu") => `(tactic| first | assumption | exact Upd.refl _ _ | exact upd_in (by assumption) (by walk_at "gu"))
local macro_rules | `(tactic| walk_at "gx") => `(tactic| first | assumption | exact SubX.refl _ _ | exact subx_sub (by assumption) (by walk_at "gx") | exact subx_upd (by assumption) (by walk_at "gx") | exact subx_tr (by assumption) (by walk_at "gx"))
local macro_rules | `(tactic| walk_at "gn") => `(tactic| first | assumption | exact Ne.symm (by assumption) | exact ne_ns (by assumption) ⟨_, by walk_at "gq"⟩ | exact ne_sn (by assumption) ⟨_, by walk_at "gq"⟩)
local macro_rules | `(tactic| walk_at "g0") => `(tactic| first | assumption | exact nn_ (by assumption) (by walk_at "gs"))
section
variable {P : Program} {w : World} {K : Frag} {mg : Str → Option Value} {base : Heap}
/-- things, as a tuple or as a list -/
def ThSq (G : DG) (d : DV) (ts : List Th) : Prop := d = .tup (eTs ts) ∨ ∃ p, d = .ref p ∧ G p = some (.lst (eTs ts))
theorem ThSq.sub {G G' : DG} {d : DV} {ts : List Th} (h : ThSq G d ts) (s : Sub G G') : ThSq G' d ts := h.elim .inl fun ⟨p, e, h⟩ => .inr ⟨p, e, s _ _ h⟩
def SP_size (k : Nat) : DSp := fun ds G R => (∃ d ts, ds = [d] ∧ ThSq G d ts ∧ dpTs ts < k ∧ szTs ts ≤ 100000 ∧ R (.int (szTs ts)) G) ∨ ∃ o p ws, ds = [.ref o] ∧ G o = some (.lst [.tup [.str "row", .ref p]]) ∧ G p = some (.lst (eWs ws)) ∧ dpWs ws + 1 < k ∧ szWs ws ≤ 90000 ∧ R (.int (1 + szWs ws : Nat)) G
/-- the things that words push -/
def psW : Wo → Option Th
  | .push t => some t
  | .txt _ => none
def psWs (ws : List Wo) : List Th := ws.filterMap psW
theorem psWs_sz : ∀ ws : List Wo, szWs ws = ws.length + szTs (psWs ws) ∧ dpTs (psWs ws) = dpWs ws
  | [] => ⟨rfl, rfl⟩
  | .txt z :: r => by
    obtain ⟨a, b⟩ := psWs_sz r
    refine ⟨?_, ?_⟩
    · show 1 + szWs r = (r.length + 1) + szTs (psWs r); omega
    · show dpTs (psWs r) = max 0 (dpWs r); omega
  | .push t :: r => by
    obtain ⟨a, b⟩ := psWs_sz r
    refine ⟨?_, ?_⟩
    · show (1 + szT t) + szWs r = (r.length + 1) + (szT t + szTs (psWs r)); omega
    · show max (dpT t) (dpTs (psWs r)) = max (dpT t) (dpWs r); rw [b]
theorem szTs_take (ts : List Th) (i : Nat) : szTs (ts.take i) ≤ szTs ts := by
  have e : szTs ts = szTs (ts.take i ++ ts.drop i) := by rw [List.take_append_drop]
  rw [e, szTs_app]; omega
def psD : DV → Option DV
  | .tup [_, t] => some t
  | _ => none
theorem fm_ps : ∀ ws : List Wo, (eWs ws).filterMap psD = eTs (psWs ws)
  | [] => rfl
  | .txt z :: r => by
    show List.filterMap psD (.str z :: eWs r) = _
    rw [List.filterMap_cons_none rfl]
    exact fm_ps r
  | .push t :: r => by
    show List.filterMap psD (.tup [.str "push", eT t] :: eWs r) = _
    rw [List.filterMap_cons_some (f := psD) (b := eT t) rfl]
    show eT t :: _ = eT t :: eTs (psWs r)
    rw [fm_ps r]
abbrev N_L_size : List Str := ["_law_things", "_law_total", "_law_thing_here", "_law_word"]
abbrev A_L_size : List Str := ["_law_things"]
theorem sc_L_size : FnScope N_L_size A_L_size (defScope s_L_size) := ⟨rfl, rfl, rfl, by decide +kernel, rfl, by decide +kernel, by decide +kernel⟩
theorem h_L_size {k l : Nat} (a : At K mg "_law_size" s_L_size A_L_size) (B : BI mg) (c_L_size : Has P w K mg base l "_law_size" A_L_size (SP_size k)) : Has P w K mg base (l + 1) "_law_size" A_L_size (SP_size (k + 1)) := by
  refine at_mk a sc_L_size fun f cdv A outer s H E hr ds G R hl h => ?_
  refine ⟨_, (dss_cons (ds_set (i := 1) sc_L_size.nd rfl (.inl rfl) de_int)
    (dss_cons (ds_for PassesOwn.never rfl (di_or (di_tup (dv 0)) (di_list (dv 0))) (dg_name (i := 2) sc_L_size.nd rfl (.inl rfl)) (dss_cons (ds_set (i := 1) sc_L_size.nd rfl (.inl rfl) (de_op od_add (dv 1) de_int))
      (dss_cons (ds_if (dt_cmp (od_eq hr.units) (de_ix (dv 2) de_int) de_str (nomark _)) (dss_one (ds_set (i := 1) sc_L_size.nd rfl (.inl rfl) (de_op od_add (dv 1) (de_call c_L_size (hr.mono (by omega)) rfl (da_cons (de_ix (dv 2) de_int) da_nil))))) dss_nil)
      (dss_one (ds_if (dt_cmp (od_eq hr.units) (de_ix (dv 2) de_int) de_str (nomark _)) (dss_one (ds_set (i := 1) sc_L_size.nd rfl (.inl rfl) (de_op od_add (de_op od_add (dv 1) (de_callB cd_len B.len rfl (by decide +kernel) (da_cons (de_ix (dv 2) de_int) da_nil))) (de_call c_L_size (hr.mono (by omega)) rfl (da_cons (de_lc (own := [("_law_word", 3)]) (lt1 (i := 3) (by decide)) rfl sc_L_size.nd (di_or (di_tup (de_ix (dv 2) de_int)) (di_list (de_ix (dv 2) de_int))) (blkOk_by (own := [("_law_word", 3)]) (N := N_L_size) (sc := defScope s_L_size) (by decide +kernel)) (fun _ _ _ _ _ => pg_name (i := 3) sc_L_size.nd rfl (Or.inl rfl)) (fun _ _ _ _ _ => (dts_one (dt_e (de_callB cd_isi B.isi rfl (by decide +kernel) (da_cons (dv 3) (da_cons (de_ty (n := "tuple") B.tup rfl (by decide +kernel)) da_nil)))))) (fun _ _ _ _ _ => (de_ix (dv 3) de_int))) da_nil))))) dss_nil)))))
    (dss_one (ds_ret (dv 1))))), ?_⟩
  rcases h.symm with ⟨o, p, ws, rfl, ho, hp, dk, sz, q⟩ | ⟨d, ts, rfl, hd, dk, sz, q⟩
  · walk_at "dd"
    right
    walk_at "dd"
    obtain ⟨p1, p2⟩ := psWs_sz ws
    refine for_by (fun i δ G' => ∃ (x2 x3 : Option DV), δ = [some (.ref o), some (.int ((if i = 0 then 0 else 1 + szWs ws : Nat) : Int)), x2, x3] ∧ Sub G G') (fun i δ G' ⟨_, _, _, s⟩ => .inl (s _ _ ho)) ⟨none, none, rfl, Sub.refl _⟩ ?_ ?_
    · rintro i y δ G' hy ⟨x2, x3, rfl, sG⟩
      cases i with
      | succ i => cases hy
      | zero =>
        cases hy
        walk_at "dd"
        right
        walk_at "dd"
        refine lcs_pure psD (fun G2 s2 => .inl (s2 _ _ (sG _ _ hp))) (by rw [eWs_len]; omega) ?_ ?_
        · intro y hy G2 k1 k0 s2 h1 h0
          rw [eWs_map] at hy
          obtain ⟨w1, _, rfl⟩ := List.mem_map.mp hy
          cases w1 with
          | txt z =>
            walk_at "dd"
            exact h0 rfl
          | push t =>
            walk_at "dd"
            exact h1 _ rfl
        · intro p5 G5 np5 s5 h5
          rw [fm_ps] at h5
          walk_at "dd"
          refine .inl ⟨_, psWs ws, rfl, .inr ⟨p5, rfl, h5⟩, by omega, by omega, ?_⟩
          walk_at "dd"
          exact ⟨_, _, by rw [show ((if (0 + 1 : Nat) = 0 then 0 else 1 + szWs ws : Nat) : Int) = 0 + 1 + ((eWs ws).length : Nat) + (szTs (psWs ws) : Nat) from by rw [if_neg (by decide), eWs_len]; omega]; rfl, sG.trans s5⟩
    · rintro δ G' ⟨x2, x3, rfl, sG⟩
      walk_at "dd"
      exact ⟨G, sG, q⟩
  walk_at "dd"
  rcases hd with rfl | ⟨p, rfl, hp⟩
  · left
    walk_at "dd"
    refine for_by (fun i δ G' => ∃ (x2 x3 : Option DV), δ = [some (.tup (eTs ts)), some (.int ((szTs (ts.take i) : Nat) : Int)), x2, x3] ∧ Sub G G') (fun _ _ _ _ => trivial) ⟨none, none, rfl, Sub.refl _⟩ ?_ ?_
    · rintro i y δ G' hy ⟨x2, x3, rfl, sG⟩
      rw [eTs_map, List.getElem?_map] at hy
      obtain ⟨t, ht, rfl⟩ := Option.map_eq_some_iff.mp hy
      obtain ⟨hi, he⟩ := List.getElem?_eq_some_iff.mp ht
      have e1 : szTs (ts.take (i + 1)) = szTs (ts.take i) + szT t := by
        rw [List.take_add_one, ht, szTs_app]; rfl
      have l1 := szTs_take ts (i + 1)
      obtain ⟨m1, m2, _⟩ := mem_szT (List.mem_of_getElem? ht)
      cases t with
      | num n =>
        walk_at "dd"
        exact ⟨_, _, by rw [e1]; rfl, sG⟩
      | lst us =>
        have e2 : szT (.lst us) = 1 + szTs us := rfl
        have e3 : dpT (.lst us) = 1 + dpTs us := rfl
        walk_at "dd"
        refine .inl ⟨_, us, rfl, .inl rfl, by omega, by omega, ?_⟩
        walk_at "dd"
        exact ⟨_, _, by rw [show ((szTs (ts.take (i + 1)) : Nat) : Int) = (szTs (ts.take i) : Nat) + 1 + (szTs us : Nat) from by rw [e1, e2]; omega]; rfl, sG⟩
      | row ws =>
        have e2 : szT (.row ws) = 1 + szWs ws := rfl
        have e3 : dpT (.row ws) = 1 + dpWs ws := rfl
        obtain ⟨p1, p2⟩ := psWs_sz ws
        walk_at "dd"
        left
        walk_at "dd"
        refine lcs_pure psD (fun _ _ => trivial) (by rw [eWs_len]; omega) ?_ ?_
        · intro y hy G2 k1 k0 s2 h1 h0
          rw [eWs_map] at hy
          obtain ⟨w1, _, rfl⟩ := List.mem_map.mp hy
          cases w1 with
          | txt z =>
            walk_at "dd"
            exact h0 rfl
          | push t =>
            walk_at "dd"
            exact h1 _ rfl
        · intro p5 G5 np5 s5 h5
          rw [fm_ps] at h5
          walk_at "dd"
          refine .inl ⟨_, psWs ws, rfl, .inr ⟨p5, rfl, h5⟩, by omega, by omega, ?_⟩
          walk_at "dd"
          exact ⟨_, _, by rw [show ((szTs (ts.take (i + 1)) : Nat) : Int) = (szTs (ts.take i) : Nat) + 1 + ((eWs ws).length : Nat) + (szTs (psWs ws) : Nat) from by rw [e1, e2, eWs_len]; omega]; rfl, sG.trans s5⟩
    · rintro δ G' ⟨x2, x3, rfl, sG⟩
      rw [eTs_len, List.take_length]
      walk_at "dd"
      exact ⟨G, sG, q⟩
  · right
    walk_at "dd"
    refine for_by (fun i δ G' => ∃ (x2 x3 : Option DV), δ = [some (.ref p), some (.int ((szTs (ts.take i) : Nat) : Int)), x2, x3] ∧ Sub G G') (fun i δ G' ⟨_, _, _, s⟩ => .inl (s _ _ hp)) ⟨none, none, rfl, Sub.refl _⟩ ?_ ?_
    · rintro i y δ G' hy ⟨x2, x3, rfl, sG⟩
      rw [eTs_map, List.getElem?_map] at hy
      obtain ⟨t, ht, rfl⟩ := Option.map_eq_some_iff.mp hy
      obtain ⟨hi, he⟩ := List.getElem?_eq_some_iff.mp ht
      have e1 : szTs (ts.take (i + 1)) = szTs (ts.take i) + szT t := by
        rw [List.take_add_one, ht, szTs_app]; rfl
      have l1 := szTs_take ts (i + 1)
      obtain ⟨m1, m2, _⟩ := mem_szT (List.mem_of_getElem? ht)
      cases t with
      | num n =>
        walk_at "dd"
        exact ⟨_, _, by rw [e1]; rfl, sG⟩
      | lst us =>
        have e2 : szT (.lst us) = 1 + szTs us := rfl
        have e3 : dpT (.lst us) = 1 + dpTs us := rfl
        walk_at "dd"
        refine .inl ⟨_, us, rfl, .inl rfl, by omega, by omega, ?_⟩
        walk_at "dd"
        exact ⟨_, _, by rw [show ((szTs (ts.take (i + 1)) : Nat) : Int) = (szTs (ts.take i) : Nat) + 1 + (szTs us : Nat) from by rw [e1, e2]; omega]; rfl, sG⟩
      | row ws =>
        have e2 : szT (.row ws) = 1 + szWs ws := rfl
        have e3 : dpT (.row ws) = 1 + dpWs ws := rfl
        obtain ⟨p1, p2⟩ := psWs_sz ws
        walk_at "dd"
        left
        walk_at "dd"
        refine lcs_pure psD (fun _ _ => trivial) (by rw [eWs_len]; omega) ?_ ?_
        · intro y hy G2 k1 k0 s2 h1 h0
          rw [eWs_map] at hy
          obtain ⟨w1, _, rfl⟩ := List.mem_map.mp hy
          cases w1 with
          | txt z =>
            walk_at "dd"
            exact h0 rfl
          | push t =>
            walk_at "dd"
            exact h1 _ rfl
        · intro p5 G5 np5 s5 h5
          rw [fm_ps] at h5
          walk_at "dd"
          refine .inl ⟨_, psWs ws, rfl, .inr ⟨p5, rfl, h5⟩, by omega, by omega, ?_⟩
          walk_at "dd"
          exact ⟨_, _, by rw [show ((szTs (ts.take (i + 1)) : Nat) : Int) = (szTs (ts.take i) : Nat) + 1 + ((eWs ws).length : Nat) + (szTs (psWs ws) : Nat) from by rw [e1, e2, eWs_len]; omega]; rfl, sG.trans s5⟩
    · rintro δ G' ⟨x2, x3, rfl, sG⟩
      rw [eTs_len, List.take_length]
      walk_at "dd"
      exact ⟨G, sG, q⟩
end
end K14
set_option maxHeartbeats 1000000
namespace K14
open PySem PySem.W L2 SX Cm DD
local macro_rules | `(tactic| walk_at "d1") => `(tactic| first | (with_reducible refine w_go ?_) | ((with_reducible show dVar _ _ _ _); refine w_var rfl ?_) | (with_reducible refine w_exI ?_) | (with_reducible refine w_exB ?_) | (with_reducible refine w_exT ?_) | (with_reducible refine w_exS ?_) | (with_reducible refine w_parE ?_) | (with_reducible refine ly1 ?_) | (with_reducible refine ly2 ?_) | (with_reducible refine lt1' ?_) | (with_reducible refine lt2' ?_) | (with_reducible refine wx_enumT ?_) | (with_reducible refine w_callX ?_) | (with_reducible refine w_methX ?_) | (with_reducible refine w_raise ?_) | (with_reducible refine w_try ?_) | (with_reducible refine w_xSet ?_) | (with_reducible refine w_xExpr ?_) | (with_reducible refine w_xLst ?_) | (with_reducible refine w_xTup ?_) | (with_reducible refine w_xCons ?_) | (with_reducible refine w_xNil ?_) | (with_reducible refine w_xE ?_) | (with_reducible refine w_xCall ?_) | (with_reducible refine w_call0 ?_) | (with_reducible refine w_asgL ?_) | (with_reducible refine w_tupPd ?_) | (with_reducible refine wi_zip ?_) | (with_reducible refine w_delT ?_) | (with_reducible refine w_dc ?_) | (with_reducible refine w_revL ?_) | (with_reducible refine wi_revT ?_) | (with_reducible refine w_lstZip ?_) | (with_reducible refine w_chain ?_) | (with_reducible refine w_orT ?_) | (with_reducible refine w_try0 ?_) | (with_reducible refine w_xAsg ?_) | (with_reducible refine wi_zipTL ?_) | (with_reducible refine wi_zipSL ?_) | ((with_reducible show gT _ _ _ _ _ _); refine g_T ?_ rfl) | ((with_reducible show ∃ p, DV.ref _ = _ ∧ (∃ kvs, _) ∧ _); refine wx_get (by walk_at "gq") ?_) | ((with_reducible show ∃ kvs z, _ = _ ∧ _ = some (DO.dct _) ∧ _); refine wx_get2 (by walk_at "gq") ?_) | ((with_reducible show ∃ p kvs z, _ = _ ∧ _ = _ ∧ _ = some (DO.dct _) ∧ _); refine wx_in (by walk_at "gq") ?_) | ((with_reducible show List.length _ = _ ∧ _); refine w_len ?_ rfl) | ((with_reducible show List.length _ ≤ sizeLine ∧ _); refine w_sz ?_ (szl rfl)) | ((with_reducible show bIx _ (.int _) _ _); first | refine w_ix0 ?_ | refine w_ix1 ?_ | refine w_ix2 ?_ | refine w_ix3 ?_) | ((with_reducible show bIsi [_, _] _ _); first | refine w_isi (by decide) (a := "tuple") rfl rfl ?_ | refine w_isi (by decide) (a := "str") rfl rfl ?_ | refine w_isi (by decide) (a := "int") rfl rfl ?_ | refine w_isi (by decide) (a := "bool") rfl rfl ?_ | refine w_isi (by decide) (a := "NoneType") rfl rfl ?_) | ((with_reducible show ∃ ds, _ = DV.tup ds ∧ _); refine w_exT ?_) | ((with_reducible show ∃ z, _ = DV.str z ∧ _); refine w_exS ?_) | ((with_reducible show ∃ ds, [_] = [DV.tup ds] ∧ _); refine wx_enumT ?_) | ((with_reducible show bSl _ _ _ _ _); refine w_slT ?_) | ((with_reducible show bTuple [_] _ _); refine w_tupT ?_) | ((with_reducible show bLen [_] _ _); refine w_lenT ?_) | ((with_reducible show bTru _ _ _); first | refine w_truT ?_ | refine w_truN ?_ | refine w_truB ?_ | refine w_truI ?_) | ((with_reducible show bEq _ _ _ _ _); first | refine w_eqSS ?_ | refine w_eqII ?_ | refine w_neSS ?_ | refine w_neII ?_ | refine w_eqT0 ?_) | ((with_reducible show bInt _ _ (.int _) (.int _) _ _); refine w_int (by first | decide | exact ⟨by decide, by decide, by decide⟩ | exact .inl ⟨by decide, by decide⟩ | exact .inr ⟨by decide, by decide⟩) ?_) | ((with_reducible show if _ = true then _ else _); first | refine w_it (by first | rfl | decide +kernel) ?_ | refine w_if0 (by first | rfl | decide +kernel) ?_) | ((with_reducible show rcv "list" (.ref _) _ ∧ _); refine w_rcvL (by walk_at "gq") ?_) | ((with_reducible show bTuple [.ref _] _ _); refine w_tupL (by walk_at "gq") ?_) | ((with_reducible show bLen [.ref _] _ _); refine w_lenL (by walk_at "gq") ?_) | ((with_reducible show bTru (.ref _) _ _); refine w_truL (by walk_at "gq") ?_) | ((with_reducible show ∃ _ _, DV.ref _ = _ ∧ Ls _ _ _ ∧ _); refine wx_lst (by walk_at "gq") ?_) | ((with_reducible show ∃ _ _, [DV.ref _] = _ ∧ Ls _ _ _ ∧ _); refine wx_lstA (by walk_at "gq") ?_))
local macro_rules | `(tactic| walk_at "dd") => `(tactic| repeat (walk_at "d1"))
local macro_rules | `(tactic| walk_at "gq") => `(tactic| first | assumption | exact dupd_same | exact sub_get (by assumption) (by walk_at "gq") | exact upd_get (by assumption) (by walk_at "gq") (by walk_at "gn") | exact subx_get (by assumption) (by walk_at "gq") (by walk_at "gn") | (refine (dupd_ne ?_).trans ?_; (focus walk_at "gn"); walk_at "gq"))
local macro_rules | `(tactic| walk_at "gs") => `(tactic| first | assumption | exact Sub.refl _ | exact sub_tr (by assumption) (by walk_at "gs") | exact sub_up (by assumption) (by walk_at "gs") (by walk_at "g0") | exact sub_ux (by assumption) (by walk_at "gs") (by walk_at "g0") | (refine Sub.new ?_ ?_; (focus walk_at "gs"); walk_at "g0"))
local macro_rules | `(tactic| walk_at "gk") => `(tactic| first | assumption | exact db_sub (by assumption) (by walk_at "gk") | exact db_upd (by assumption) (by walk_at "gk") ⟨_, by walk_at "gq"⟩ | exact db_updD (by assumption) (by walk_at "gk") ⟨_, by walk_at "gq"⟩)
local macro_rules | `(tactic| walk_at "gu") => `(tactic| first | assumption | exact Upd.refl _ _ | exact upd_in (by assumption) (by walk_at "gu"))
local macro_rules | `(tactic| walk_at "gx") => `(tactic| first | assumption | exact SubX.refl _ _ | exact subx_sub (by assumption) (by walk_at "gx") | exact subx_upd (by assumption) (by walk_at "gx") | exact subx_tr (by assumption) (by walk_at "gx"))
local macro_rules | `(tactic| walk_at "gn") => `(tactic| first | assumption | exact Ne.symm (by assumption) | exact ne_ns (by assumption) ⟨_, by walk_at "gq"⟩ | exact ne_sn (by assumption) ⟨_, by walk_at "gq"⟩)
local macro_rules | `(tactic| walk_at "g0") => `(tactic| first | assumption | exact nn_ (by assumption) (by walk_at "gs"))
theorem szWs_take (ws : List Wo) (i : Nat) : szWs (ws.take i) ≤ szWs ws ∧ dpWs (ws.take i) ≤ dpWs ws := by
  have e : ws = ws.take i ++ ws.drop i := by rw [List.take_append_drop]
  have e1 : szWs ws = szWs (ws.take i) + szWs (ws.drop i) := by rw [← szWs_app, List.take_append_drop]
  have e2 : dpWs ws = max (dpWs (ws.take i)) (dpWs (ws.drop i)) := by rw [← dpWs_app, List.take_append_drop]
  omega
def BT : Nat → Nat
  | 0 => 1
  | j + 1 => 24 + 6 * BT j
theorem BT_pos : ∀ j, 1 ≤ BT j
  | 0 => Nat.le_refl 1
  | j + 1 => by show 1 ≤ 24 + _; omega
theorem BT_2 {j : Nat} (h : j ≤ 2) : BT j ≤ 204 := by
  have : j = 0 ∨ j = 1 ∨ j = 2 := by omega
  rcases this with rfl | rfl | rfl <;> decide
def DT (j : Nat) (t : Th) : Prop := dpT t ≤ j ∧ szT t ≤ BT j ∧ gdT t
def DW (j : Nat) (w : Wo) : Prop := dpW w ≤ j ∧ szW w ≤ 1 + BT j ∧ gdW w
theorem szWs_le {j m : Nat} : ∀ {ws : List Wo}, (∀ w ∈ ws, DW j w) → ws.length ≤ m → szWs ws ≤ m * (1 + BT j) ∧ dpWs ws ≤ j
  | [], _, _ => ⟨Nat.zero_le _, Nat.zero_le _⟩
  | w :: r, h, l => by
    obtain ⟨m, rfl⟩ : ∃ n, m = n + 1 := ⟨m - 1, by rw [List.length_cons] at l; omega⟩
    obtain ⟨a, b⟩ := szWs_le (m := m) (ws := r) (fun w hw => h w (List.mem_cons_of_mem _ hw)) (by rw [List.length_cons] at l; omega)
    obtain ⟨c, d, _⟩ := h w (List.mem_cons_self ..)
    refine ⟨?_, ?_⟩
    · show szW w + szWs r ≤ _; rw [Nat.add_mul, Nat.one_mul]; omega
    · show max (dpW w) (dpWs r) ≤ j; omega
theorem szTs_le {j m : Nat} : ∀ {ts : List Th}, (∀ t ∈ ts, DT j t) → ts.length ≤ m → szTs ts ≤ m * BT j ∧ dpTs ts ≤ j
  | [], _, _ => ⟨Nat.zero_le _, Nat.zero_le _⟩
  | w :: r, h, l => by
    obtain ⟨m, rfl⟩ : ∃ n, m = n + 1 := ⟨m - 1, by rw [List.length_cons] at l; omega⟩
    obtain ⟨a, b⟩ := szTs_le (m := m) (ts := r) (fun w hw => h w (List.mem_cons_of_mem _ hw)) (by rw [List.length_cons] at l; omega)
    obtain ⟨c, d, _⟩ := h w (List.mem_cons_self ..)
    refine ⟨?_, ?_⟩
    · show szT w + szTs r ≤ _; rw [Nat.add_mul, Nat.one_mul]; omega
    · show max (dpT w) (dpTs r) ≤ j; omega
section
variable {P : Program} {w : World} {K : Frag} {mg : Str → Option Value} {base : Heap}
theorem all_size (a : At K mg "_law_size" s_L_size A_L_size) (B : BI mg) : ∀ k, Has P w K mg base (k + 1) "_law_size" A_L_size (SP_size k) := by
  intro k
  induction k with
  | zero =>
    refine at_mk a sc_L_size fun f cdv A outer s H E hr ds G R hl h => ?_
    rcases h with ⟨d, ts, _, _, dk, _⟩ | ⟨o, p, ws, _, _, _, dk, _⟩
    · exact absurd dk (Nat.not_lt_zero _)
    · exact absurd dk (Nat.not_lt_zero _)
  | succ k ih => exact h_L_size a B ih
def SP_cut (k : Nat) : DSp := fun ds G R => ∃ p ws m, ds = [.ref p, .int (m : Nat)] ∧ 1 ≤ m ∧ G p = some (.lst (eWs ws)) ∧ dpWs ws + 1 < k ∧ szWs ws ≤ 90000 ∧ ∀ i, 1 + szWs (ws.take i) ≤ m → R (.tup (eWs (ws.take i))) G
def SP_thing (k : Nat) : DSp := fun ds G R => ∃ d j, k = j + 1 ∧ j ≤ 2 ∧ ds = [.ref d, .int (j : Nat)] ∧ HasDb G d ∧ ∀ t, DT j t → R (eT t) G
def SP_word (k : Nat) : DSp := fun ds G R => ∃ d j, k = j + 1 ∧ j ≤ 2 ∧ ds = [.ref d, .int (j : Nat)] ∧ HasDb G d ∧ ∀ t, DW j t → R (eW t) G
abbrev A_L_thing : List Str := ["_law_deck_here", "_law_deep"]
abbrev A_L_any_word : List Str := ["_law_deck_here", "_law_deep"]
abbrev N_L_cut : List Str := ["_law_words_here", "_law_most"]
abbrev A_L_cut : List Str := ["_law_words_here", "_law_most"]
theorem sc_L_cut : FnScope N_L_cut A_L_cut (defScope s_L_cut) := ⟨rfl, rfl, rfl, by decide +kernel, rfl, by decide +kernel, by decide +kernel⟩
theorem h_L_cut {k : Nat} (a : At K mg "_law_cut" s_L_cut A_L_cut) (B : BI mg) (c_L_size : Has P w K mg base (k + 1) "_law_size" A_L_size (SP_size k)) : Has P w K mg base (k + 2) "_law_cut" A_L_cut (SP_cut k) := by
  refine at_mk a sc_L_cut fun f cdv A outer s H E hr ds G R hl h => ?_
  refine ⟨_, (dss_cons (ds_while PassesOwn.never (dt_cmp od_gt (de_call c_L_size (hr.mono (by omega)) rfl (da_cons (de_lst (da_cons (de_tup (da_cons de_str (da_cons (dv 0) da_nil))) da_nil)) da_nil)) (dv 1) (nomark _)) (dss_one (ds_set (i := 0) sc_L_cut.nd rfl (.inl rfl) (de_slice (dv 0) do_none (do_some (de_neg de_int))))))
    (dss_one (ds_ret (de_callTy cd_tuple B.tup rfl (by decide +kernel) (da_cons (dv 0) da_nil))))), ?_⟩
  obtain ⟨p, ws, m, rfl, hm, hp, dk, sz, q⟩ := h
  walk_at "dd"
  refine w_while (fun n δ G' => ∃ pw i, δ = [some (.ref pw), some (.int (m : Nat))] ∧ n = i ∧ i ≤ ws.length ∧ G' pw = some (.lst (eWs (ws.take i))) ∧ Sub G G') ws.length ⟨p, _, rfl, rfl, Nat.le_refl _, by rw [List.take_length]; exact hp, Sub.refl _⟩ ?_
  rintro n δ G' ⟨pw, i, rfl, rfl, hi, hpw, sG⟩
  obtain ⟨t1, t2⟩ := szWs_take ws n
  walk_at "dd"
  intro p1 np1
  refine abs_new np1 fun G1 s1 h1 => ?_
  walk_at "dd"
  refine .inr ⟨p1, pw, ws.take n, rfl, h1, s1 _ _ hpw, by omega, by omega, ?_⟩
  walk_at "dd"
  by_cases hl : (1 + szWs (ws.take n) : Nat) ≤ m
  · refine w_if0 (decide_eq_false (by omega)) ?_
    walk_at "dd"
    exact ⟨G, sG.trans s1, q n hl⟩
  · refine w_it (decide_eq_true (by omega)) ?_
    walk_at "dd"
    cases n with
    | zero => exact absurd hm (by intro; exact hl (by rw [List.take_zero]; exact hm))
    | succ n =>
      have hx : ws[n]? = some ws[n] := List.getElem?_eq_getElem (by omega)
      have e1 : ws.take (n + 1) = ws.take n ++ [ws[n]] := by rw [List.take_add_one, hx]; rfl
      have e2 : eWs (ws.take (n + 1)) = eWs (ws.take n) ++ [eW ws[n]] := by rw [e1, eWs_map, eWs_map, List.map_append]; rfl
      rw [e2] at hpw
      refine w_slL (s1 _ _ hpw) fun p3 np3 => ?_
      rw [cutD_last]
      refine abs_new np3 fun G3 s3 h3 => ?_
      walk_at "dd"
      exact ⟨n, by omega, p3, n, rfl, rfl, by omega, h3, sG.trans (s1.trans s3)⟩
abbrev N_L_thing : List Str := ["_law_deck_here", "_law_deep", "_law_way", "_law_some", "_law_k"]
theorem sc_L_thing : FnScope N_L_thing A_L_thing (defScope s_L_thing) := ⟨rfl, rfl, rfl, by decide +kernel, rfl, by decide +kernel, by decide +kernel⟩
theorem h_L_thing {k : Nat} (a : At K mg "_law_thing" s_L_thing A_L_thing) (B : BI mg) (c_L_draw : Has P w K mg base 2 "_law_draw" A_L_draw SP_drawB) (c_L_number : Has P w K mg base 3 "_law_number" A_L_number SP_num) (c_L_cut : Has P w K mg base 6 "_law_cut" A_L_cut (SP_cut 4)) (c_L_any_word : Has P w K mg base (2 * k + 8) "_law_any_word" A_L_any_word (SP_word k)) (c_L_thing : Has P w K mg base (2 * k + 7) "_law_thing" A_L_thing (SP_thing k)) : Has P w K mg base (2 * k + 9) "_law_thing" A_L_thing (SP_thing (k + 1)) := by
  refine at_mk a sc_L_thing fun f cdv A outer s H E hr ds G R hl h => ?_
  refine ⟨_, (dss_cons (ds_set (i := 2) sc_L_thing.nd rfl (.inl rfl) (de_call c_L_draw (hr.mono (by omega)) rfl (da_cons (dv 0) (da_cons de_int da_nil))))
    (dss_cons (ds_if (dt_w (dw_or (dt_cmp (od_eq hr.units) (dv 1) de_int (nomark _)) (dw_or1 (dt_cmp od_lt (dv 2) de_int (nomark _))))) (dss_one (ds_ret (de_tup (da_cons de_str (da_cons (de_call c_L_number (hr.mono (by omega)) rfl (da_cons (dv 0) da_nil)) da_nil))))) dss_nil)
    (dss_cons (ds_set (i := 3) sc_L_thing.nd rfl (.inl rfl) (de_ix (de_lst (da_cons (de_call c_L_draw (hr.mono (by omega)) rfl (da_cons (dv 0) (da_cons de_int da_nil))) (da_cons (de_call c_L_draw (hr.mono (by omega)) rfl (da_cons (dv 0) (da_cons de_int da_nil))) (da_cons (de_call c_L_draw (hr.mono (by omega)) rfl (da_cons (dv 0) (da_cons de_int da_nil))) da_nil)))) (de_call c_L_draw (hr.mono (by omega)) rfl (da_cons (dv 0) (da_cons de_int da_nil)))))
    (dss_cons (ds_if (dt_cmp od_lt (dv 2) de_int (nomark _)) (dss_one (ds_ret (de_tup (da_cons de_str (da_cons (de_call c_L_cut (hr.mono (by omega)) rfl (da_cons (de_lc (own := [("_law_k", 4)]) (lt1 (i := 4) (by decide)) rfl sc_L_thing.nd (di_range B.range rfl (da_cons (dv 3) da_nil)) (blkOk_by (own := [("_law_k", 4)]) (N := N_L_thing) (sc := defScope s_L_thing) (by decide +kernel)) (fun _ _ _ _ _ => pg_name (i := 4) sc_L_thing.nd rfl (Or.inl rfl)) (fun _ _ _ _ _ => dts_nil) (fun _ _ _ _ _ => (de_call c_L_any_word (hr.mono (by omega)) rfl (da_cons (dv 0) (da_cons (de_op od_sub (dv 1) de_int) da_nil))))) (da_cons de_int da_nil))) da_nil))))) dss_nil)
    (dss_one (ds_ret (de_tup (da_cons de_str (da_cons (de_callTy cd_tuple B.tup rfl (by decide +kernel) (da_cons (de_lc (own := [("_law_k", 4)]) (lt1 (i := 4) (by decide)) rfl sc_L_thing.nd (di_range B.range rfl (da_cons (dv 3) da_nil)) (blkOk_by (own := [("_law_k", 4)]) (N := N_L_thing) (sc := defScope s_L_thing) (by decide +kernel)) (fun _ _ _ _ _ => pg_name (i := 4) sc_L_thing.nd rfl (Or.inl rfl)) (fun _ _ _ _ _ => dts_nil) (fun _ _ _ _ _ => (de_call c_L_thing (hr.mono (by omega)) rfl (da_cons (dv 0) (da_cons (de_op od_sub (dv 1) de_int) da_nil))))) da_nil)) da_nil))))))))), ?_⟩
  obtain ⟨d, j, ej, hj2, rfl, hk, q⟩ := h
  obtain rfl : k = j := by omega
  have bp := BT_pos k
  walk_at "dd"
  refine ⟨d, 6, rfl, hk, by decide, by decide, fun r r0 r1 => ?_⟩
  walk_at "dd"
  refine w_iteD (fun _ => ?_) (fun h0 => ?_)
  · walk_at "dd"
    refine ⟨d, rfl, hk, fun r hr0 => ?_⟩
    walk_at "dd"
    exact Less.of (q (.num r) ⟨Nat.zero_le _, bp, hr0⟩)
  walk_at "dd"
  refine w_iteD (fun _ => ?_) (fun _ => ?_)
  · walk_at "dd"
    refine ⟨d, rfl, hk, fun r hr0 => ?_⟩
    walk_at "dd"
    exact Less.of (q (.num r) ⟨Nat.zero_le _, bp, hr0⟩)
  walk_at "dd"
  obtain ⟨j, rfl⟩ : ∃ j, k = j + 1 := ⟨k - 1, by omega⟩
  have ej : (((j + 1 : Nat) : Int) - 1) = (j : Nat) := by omega
  have eb : BT (j + 1) = 24 + 6 * BT j := rfl
  have bj := BT_2 (show j ≤ 2 by omega)
  refine ⟨d, 4, rfl, hk, by decide, by decide, fun r2 a2 b2 => ?_⟩
  walk_at "dd"
  refine ⟨d, 4, rfl, hk, by decide, by decide, fun r3 a3 b3 => ?_⟩
  walk_at "dd"
  refine ⟨d, 7, rfl, hk, by decide, by decide, fun r4 a4 b4 => ?_⟩
  walk_at "dd"
  intro p1 np1
  refine abs_new np1 fun G1 s1 h1 => ?_
  have hk1 : HasDb G1 d := by walk_at "gk"
  walk_at "dd"
  refine ⟨d, 3, rfl, hk1, by decide, by decide, fun r5 a5 b5 => ?_⟩
  obtain ⟨x, hx, ha⟩ := pick (xs := [DV.int r2, .int r3, .int r4]) (n := 3) a5 b5 rfl
  obtain ⟨m, rfl, hm⟩ : ∃ m : Nat, x = .int (m : Nat) ∧ m ≤ 6 := by
    simp only [List.mem_cons, List.not_mem_nil, or_false] at hx
    rcases hx with rfl | rfl | rfl
    · exact ⟨r2.toNat, by congr 1; omega, by omega⟩
    · exact ⟨r3.toNat, by congr 1; omega, by omega⟩
    · exact ⟨r4.toNat, by congr 1; omega, by omega⟩
  refine w_ixL h1 ha ?_
  walk_at "dd"
  refine w_iteD (fun _ => ?_) (fun _ => ?_)
  · walk_at "dd"
    refine wx_rng (by omega) (by omega) ?_
    refine lcs_each (fun i y => ∃ w, y = eW w ∧ DW j w) (fun _ _ => trivial) (by rw [rng_len]; omega) ?_ ?_
    · intro i y hy G' k1 k0 s' e1
      walk_at "dd"
      refine ⟨d, j, rfl, by omega, by rw [ej], hk1.sub s', fun w hw => ?_⟩
      exact e1 _ ⟨w, rfl, hw⟩
    intro p3 G3 acc n3 s3 h3 la he
    rw [rng_len] at la
    obtain ⟨ws, rfl, hws⟩ := acc_of he
    rw [List.length_map] at la
    rw [← eWs_map] at h3
    obtain ⟨z1, z2⟩ := szWs_le (m := 6) hws (by omega)
    walk_at "dd"
    refine ⟨p3, ws, 24, rfl, by decide, h3, by omega, by omega, fun i hi => ?_⟩
    obtain ⟨t1, t2⟩ := szWs_take ws i
    walk_at "dd"
    exact ⟨G, s1.trans s3, q (.row (ws.take i)) ⟨by show 1 + dpWs _ ≤ _; omega, by show 1 + szWs _ ≤ _; omega, gdWs_iff.mpr fun w hw => (hws w (List.mem_of_mem_take hw)).2.2⟩⟩
  · walk_at "dd"
    refine wx_rng (by omega) (by omega) ?_
    refine lcs_each (fun i y => ∃ w, y = eT w ∧ DT j w) (fun _ _ => trivial) (by rw [rng_len]; omega) ?_ ?_
    · intro i y hy G' k1 k0 s' e1
      walk_at "dd"
      refine ⟨d, j, rfl, by omega, by rw [ej], hk1.sub s', fun w hw => ?_⟩
      exact e1 _ ⟨w, rfl, hw⟩
    intro p3 G3 acc n3 s3 h3 la he
    rw [rng_len] at la
    obtain ⟨ts, rfl, hts⟩ := acc_of he
    rw [List.length_map] at la
    rw [← eTs_map] at h3
    obtain ⟨z1, z2⟩ := szTs_le (m := 6) hts (by omega)
    walk_at "dd"
    exact ⟨G, s1.trans s3, q (.lst ts) ⟨by show 1 + dpTs _ ≤ _; omega, by show 1 + szTs _ ≤ _; omega, gdTs_iff.mpr fun t ht => (hts t ht).2.2⟩⟩
abbrev N_L_any_word : List Str := ["_law_deck_here", "_law_deep", "_law_basic", "_law_way"]
theorem sc_L_any_word : FnScope N_L_any_word A_L_any_word (defScope s_L_any_word) := ⟨rfl, rfl, rfl, by decide +kernel, rfl, by decide +kernel, by decide +kernel⟩
theorem h_L_any_word {k : Nat} (a : At K mg "_law_any_word" s_L_any_word A_L_any_word) (B : BI mg) (c_L_draw : Has P w K mg base 2 "_law_draw" A_L_draw SP_drawB) (c_L_thing : Has P w K mg base (2 * k + 7) "_law_thing" A_L_thing (SP_thing k)) (c_L_shuffle : Has P w K mg base 3 "_law_shuffle" A_L_shuffle SP_shf) : Has P w K mg base (2 * k + 8) "_law_any_word" A_L_any_word (SP_word k) := by
  refine at_mk a sc_L_any_word fun f cdv A outer s H E hr ds G R hl h => ?_
  refine ⟨_, (dss_cons (ds_set (i := 2) sc_L_any_word.nd rfl (.inl rfl) (de_lst (da_cons de_str (da_cons de_str (da_cons de_str (da_cons de_str (da_cons de_str (da_cons de_str (da_cons de_str (da_cons de_str (da_cons de_str (da_cons de_str (da_cons de_str (da_cons de_str (da_cons de_str da_nil)))))))))))))))
    (dss_cons (ds_set (i := 3) sc_L_any_word.nd rfl (.inl rfl) (de_call c_L_draw (hr.mono (by omega)) rfl (da_cons (dv 0) (da_cons de_int da_nil))))
    (dss_cons (ds_if (dt_cmp od_lt (dv 3) de_int (nomark _)) (dss_one (ds_ret (de_tup (da_cons de_str (da_cons (de_call c_L_thing (hr.mono (by omega)) rfl (da_cons (dv 0) (da_cons (dv 1) da_nil))) da_nil))))) dss_nil)
    (dss_cons (ds_if (dt_cmp od_lt (dv 3) de_int (nomark _)) (dss_one (ds_ret (de_call c_L_shuffle (hr.mono (by omega)) rfl (da_cons (dv 0) (da_cons (de_ix (de_lst (da_cons de_int (da_cons de_int da_nil))) (de_op od_fdiv (de_call c_L_draw (hr.mono (by omega)) rfl (da_cons (dv 0) (da_cons de_int da_nil))) de_int)) da_nil))))) dss_nil)
    (dss_one (ds_ret (de_ix (de_op od_add (dv 2) (de_lst (da_cons de_str (da_cons de_str da_nil)))) (de_call c_L_draw (hr.mono (by omega)) rfl (da_cons (dv 0) (da_cons de_int da_nil)))))))))), ?_⟩
  obtain ⟨d, j, rfl, hj2, rfl, hk, q⟩ := h
  have bp := BT_pos j
  walk_at "dd"
  intro p1 np1
  refine abs_new np1 fun G1 s1 h1 => ?_
  have hk1 : HasDb G1 d := by walk_at "gk"
  walk_at "dd"
  refine ⟨d, 8, rfl, hk1, by decide, by decide, fun r r0 r1 => ?_⟩
  walk_at "dd"
  refine w_iteD (fun _ => ?_) (fun _ => ?_)
  · walk_at "dd"
    refine ⟨d, j, rfl, hj2, rfl, hk1, fun t ht => ?_⟩
    walk_at "dd"
    exact ⟨G, s1, q (.push t) ⟨by show dpT t ≤ j; exact ht.1, by show 1 + szT t ≤ _; have := ht.2.1; omega, ht.2.2⟩⟩
  walk_at "dd"
  refine w_iteD (fun _ => ?_) (fun _ => ?_)
  · walk_at "dd"
    intro p2 np2
    refine abs_new np2 fun G2 s2 h2 => ?_
    walk_at "dd"
    refine ⟨d, 8, rfl, by walk_at "gk", by decide, by decide, fun r2 a2 b2 => ?_⟩
    walk_at "dd"
    refine w_int (wide_div (by decide) (b := 3) (by omega) (by decide) (by decide)) ?_
    obtain ⟨m, hm, em⟩ : ∃ m : Nat, atI [DV.int 3, .int 8] (r2 / 7) = some (.int (m : Nat)) ∧ m ≤ 8 := by
      have : r2 / 7 = 0 ∨ r2 / 7 = 1 := by omega
      rcases this with h | h
      · rw [h]; exact ⟨3, rfl, by decide⟩
      · rw [h]; exact ⟨8, rfl, by decide⟩
    refine w_ixL h2 hm ?_
    walk_at "dd"
    refine ⟨d, m, rfl, em, by walk_at "gk", fun n ps ok => ?_⟩
    walk_at "dd"
    exact ⟨G, s1.trans s2, q (.txt (shT n ps)) ⟨Nat.zero_le _, by show 1 ≤ _; omega, .inr (.inl ⟨n, ps, rfl, ok⟩)⟩⟩
  walk_at "dd"
  intro p2 np2
  refine abs_new np2 fun G2 s2 h2 => ?_
  refine w_addL (s2 _ _ h1) h2 (mid (by decide)) ?_
  intro p3 np3
  refine abs_new np3 fun G3 s3 h3 => ?_
  have h3 : G3 p3 = some (.lst (BKL.map .str)) := h3
  walk_at "dd"
  refine ⟨d, 15, rfl, by walk_at "gk", by decide, by decide, fun r2 a2 b2 => ?_⟩
  obtain ⟨x, hx, ha⟩ := pick (xs := BKL.map DV.str) (n := 15) a2 b2 rfl
  obtain ⟨z, hz, rfl⟩ := List.mem_map.mp hx
  refine w_ixL h3 ha ?_
  exact ⟨G, s1.trans (s2.trans s3), q (.txt z) ⟨Nat.zero_le _, by show 1 ≤ _; omega, .inl hz⟩⟩
end
end K14
/-! a <= b <= c; int of a text -/
namespace DD
open PySem PySem.W L2 SX Cm
section
variable {X : Cx}
def dChain (b b' : D2) (ta tb tc : TD) : TD := fun δ G Q => ta δ G fun x G1 => tb δ G1 fun y G2 => b x y G2 fun z G3 => ∃ k, z = .bl k ∧ (if k = true then tc δ G3 fun u G4 => b' y u G4 Q else Q (.bl false) G3)
theorem w_chain {b b' : D2} {ta tb tc : TD} {δ : DSt} {G : DG} {Q : DK} (h : ta δ G fun x G1 => tb δ G1 fun y G2 => b x y G2 fun z G3 => ∃ k, z = .bl k ∧ (if k = true then tc δ G3 fun u G4 => b' y u G4 Q else Q (.bl false) G3)) : dChain b b' ta tb tc δ G Q := h
end
end DD
/-! `in` a module's dict with text keys, whatever its values are -/
namespace DD
open PySem PySem.W L2 SX Cm
def KeyD (K : Frag) (w : World) (d : Addr) (ks : List Str) : Prop := ∃ es n, KDict K w d es n ∧ (∀ z, z ∉ ks → nsIn K d z = some none) ∧ ∀ z ∈ ks, ∃ v, nsIn K d z = some (some v)
theorem keyD_all {K : Frag} {w : World} {d : Addr} {es : Array DictEntry} {n : Nat} {ks : List Str} (l : K.lookup d = some ⟨.type "dict", none, .dict es n, #[]⟩) (lit : KeysLit w.params es.toList) (low : (d == sysModules) = false)
    (hv : ks.all (fun z => match nsIn K d z with | some (some _) => true | _ => false) = true) (hk : es.toList.all (fun e => ks.any fun p => e.key.isStr p) = true) : KeyD K w d ks := by
  refine ⟨es, n, ⟨l, lit, low⟩, fun z hz => ?_, fun z hz => ?_⟩
  · have isS : ∀ e ∈ es.toList, e.key.isStr z = false ∧ e.refKey = false := by
      intro e he
      obtain ⟨x, t, ek, _⟩ := KeysLit.all lit e he
      have h1 := List.all_eq_true.mp hk e he
      obtain ⟨p, hp, h2⟩ := List.any_eq_true.mp h1
      rw [isStr_of, ek] at h2
      have h2 : (x == p) = true := h2
      refine ⟨?_, ?_⟩
      · rw [isStr_of, ek]
        show (x == z) = false
        exact beq_eq_false_iff_ne.mpr fun q => hz (by rw [← q, beq_iff_eq.mp h2]; exact hp)
      · unfold DictEntry.refKey; rw [ek]
    unfold nsIn
    rw [l]
    have f : es.toList.find? (fun e => e.key.isStr z) = none := List.find?_eq_none.mpr fun e he => by rw [(isS e he).1]; simp
    have g : (es.toList.any fun e => e.refKey) = false := List.any_eq_false.mpr fun e he => by rw [(isS e he).2]; simp
    show (match es.toList.find? (fun e => e.key.isStr z) with | some e => some (some e.val) | none => if (es.toList.any fun e => e.refKey) = true then none else some none) = some none
    rw [f]
    show (if (es.toList.any fun e => e.refKey) = true then none else some none) = some none
    rw [g]; rfl
  · have h := List.all_eq_true.mp hv z hz
    split at h
    · rename_i v e; exact ⟨v, e⟩
    · cases h
section
variable {X : Cx} {d : Addr} {ks : List Str}
def bInKs (d : Addr) (ks : List Str) : D2 := fun x y G Q => ∃ z, x = .str z ∧ y = .ref d ∧ Q (.bl (decide (z ∈ ks))) G
theorem od_inKs (T : KeyD X.K X.w d ks) : OpD X (compareOp .In) (bInKs d ks) := by
  obtain ⟨es, n, D, h0, h1⟩ := T
  refine ⟨_, op_in_kd D, fun x y vx vy H G R Q rx ry w h f => ?_⟩
  obtain ⟨z, rfl, rfl, q⟩ := h
  cases rx
  cases ry
  by_cases e : z ∈ ks
  · rw [decide_eq_true e] at q
    obtain ⟨v, hv⟩ := h1 z e
    exact ⟨z, some v, rfl, rfl, hv, f _ _ _ _ q (TKs.refl H) w (.bl _)⟩
  · rw [decide_eq_false e] at q
    exact ⟨z, none, rfl, rfl, h0 z e, f _ _ _ _ q (TKs.refl H) w (.bl _)⟩
theorem w_inKs {z : Str} {G : DG} {Q : DK} (h : Q (.bl (decide (z ∈ ks))) G) : bInKs d ks (.str z) (.ref d) G Q := ⟨z, rfl, rfl, h⟩
end
end DD
/-! a call of a local name that holds a def; x or y of tuples -/
namespace DD
open PySem PySem.W L2 SX Cm
/-- the def at f keeps a promise about data -/
def HasA (P : Program) (w : World) (K : Frag) (mg : Str → Option Value) (base : Heap) (k : Nat) (f : Addr) (ps : List Str) (dsp : DSp) : Prop :=
  ∃ fd, FnOk P w K mg base CX0 k f fd ps (toSp K ps.length dsp) ∧ L2.Binds K fd ps [] ∧ keepIn K (.ref f) = true
theorem Has.toA {P : Program} {w : World} {K : Frag} {mg : Str → Option Value} {base : Heap} {k : Nat} {nm : Str} {ps : List Str} {dsp : DSp} (h : Has P w K mg base k nm ps dsp) : ∃ f, HasA P w K mg base k f ps dsp ∧ mg nm = some (.ref f) := by
  obtain ⟨f, fd, a, b, c, m, _⟩ := h
  exact ⟨f, ⟨fd, a, b, c⟩, m⟩
section
variable {X : Cx} {k i : Nat} {f : Addr} {ps : List Str} {dsp : DSp} {x : Str} {e : Expr} {es : List Expr} {ts : TDA} {p pos : Pos}
def dCallL (i : Nat) (f : Addr) (n : Nat) (dsp : DSp) (t : TDA) : TD := fun δ G Q => δ[i]? = some (some (.ref f)) ∧ t δ G fun ds G1 => ds.length = n ∧ dsp ds G1 Q
theorem Sl.get_ref {K : Frag} {H : Hp} : ∀ {σ : St} {δ : DSt} {i : Nat}, Sl K H σ δ → δ[i]? = some (some (.ref f)) → σ[i]? = some (some (.ref f))
  | _, _, 0, .cons r _, e => by cases e; cases r; rfl
  | _, _, 0, .non _, e => by cases e
  | _, _, i + 1, .cons _ t, e => Sl.get_ref (i := i) t e
  | _, _, i + 1, .non t, e => Sl.get_ref (i := i) t e
  | _, _, _, .nil, e => by cases e
theorem de_callL (h : HasA X.prog X.w X.K X.mg X.base k f ps dsp) (hr : Room k X.A) (hN : X.N[i]? = some x) (hv : Vis X.env.scope x) (ha : DA X (e :: es) ts)
    (hdb : (x == ("__debug__" : Str)) = false := by decide) (hcd : (x == ("__classdict__" : Str)) = false := by decide)
    (he : starEach (e :: es) X.env = (false, eval e X.env) :: starEach es X.env := by rfl) (hpl : (backTo pos (starEach es X.env)).any (·.1) = false := by rfl) :
    DE X (.Call (.Name x p) (e :: es) [] pos) (dCallL i f ps.length dsp ts) := by
  obtain ⟨fd, F, b, kp⟩ := h
  refine PE_mono (pe_callL F hr hN hv kp b .nil (pass0 (X := X)) ha hdb hcd he hpl) fun σ H Q ⟨δ, G, R, sl, w, ⟨hs, h⟩, f⟩ => ⟨Sl.get_ref sl hs, δ, G, _, sl, w, h, fun ds G1 vs H1 h1 t1 w1 r1 => ?_⟩
  show toSp X.K ps.length dsp (vs ++ []) H1 Q E0
  rw [List.append_nil]
  exact ⟨ds, G1, R, r1, w1, h1.1, h1.2, f.step t1⟩
theorem w_callL {δ : DSt} {G : DG} {Q : DK} {n : Nat} (hs : δ[i]? = some (some (.ref f))) (h : ts δ G fun ds G1 => ds.length = n ∧ dsp ds G1 Q) : dCallL i f n dsp ts δ G Q := ⟨hs, h⟩
/-- x or y, x a tuple -/
def dOrT (ta tb : TD) : TD := fun δ G Q => ta δ G fun x G1 => ∃ ds, x = .tup ds ∧ if (!ds.isEmpty) = true then Q (.tup ds) G1 else tb δ G1 Q
theorem w_orT {ta tb : TD} {δ : DSt} {G : DG} {Q : DK} (h : ta δ G fun x G1 => ∃ ds, x = .tup ds ∧ if (!ds.isEmpty) = true then Q (.tup ds) G1 else tb δ G1 Q) : dOrT ta tb δ G Q := h
end
end DD
/-! promises of two outcomes over data: a value, or an error of a class -/
namespace DD
open PySem PySem.W L2 SX Cm
abbrev DXk := Value → DG → Prop
def FinX (K : Frag) (H : Hp) (RX : DXk) (E : XK) : Prop := ∀ cls G H', RX cls G → TKs K H H' → Wd K H' G → E cls none H'
theorem FinX.step {K : Frag} {H H1 : Hp} {RX : DXk} {E : XK} (f : FinX K H RX E) (t : TKs K H H1) : FinX K H1 RX E := fun c G H' r t' w => f c G H' r (t.trans t') w
theorem inv_tks {X : Cx} {pins : List (Addr × Obj)} {σ : L2.St} {H : Hp} {s : Shared} (I : Inv X pins σ H s) : TKs X.K X.H_0 H := fun a xs h => by
  rcases h with (h | ⟨o, h⟩) | h
  · exact .inl (.inl (I.base.tups _ _ h))
  · exact .inl (.inr ⟨o, I.base.frzs _ _ _ h⟩)
  · exact .inr h
abbrev DSpX := List DV → DG → DK → DXk → Prop
def toSpX (K : Frag) (n : Nat) (dsp : DSpX) : Sp := fun vs H Q E => ∃ ds G R RX, RVs K H vs ds ∧ Wd K H G ∧ ds.length = n ∧ dsp ds G R RX ∧ Fin K H R Q ∧ FinX K H RX E
/-- less is known of the store where an error is let out -/
def LessX (RX : DXk) : DXk := fun c G => ∃ G', Sub G' G ∧ RX c G'
theorem LessX.of {RX : DXk} {c : Value} {G : DG} (h : RX c G) : LessX RX c G := ⟨G, Sub.refl G, h⟩
theorem FinX.less {K : Frag} {H : Hp} {RX : DXk} {E : XK} (f : FinX K H RX E) : FinX K H (LessX RX) E := fun c G H' ⟨G', s, r⟩ t w => f c G' H' r t (w.sub s)
/-- the def nm keeps a promise of two outcomes, by level k -/
def HasX (P : Program) (w : World) (K : Frag) (mg : Str → Option Value) (base : Heap) (k : Nat) (nm : Str) (ps : List Str) (dsp : DSpX) : Prop :=
  ∃ f fd, FnOk P w K mg base (L2.CX P w) k f fd ps (toSpX K ps.length dsp) ∧ L2.Binds K fd ps [] ∧ keepIn K (.ref f) = true ∧ mg nm = some (.ref f) ∧ ∃ oc od osl, K.lookup f = some ⟨oc, od, .func fd, osl⟩
/-- the def at f keeps a promise of two outcomes -/
def HasAX (P : Program) (w : World) (K : Frag) (mg : Str → Option Value) (base : Heap) (k : Nat) (f : Addr) (ps : List Str) (dsp : DSpX) : Prop :=
  ∃ fd, FnOk P w K mg base (L2.CX P w) k f fd ps (toSpX K ps.length dsp) ∧ L2.Binds K fd ps [] ∧ keepIn K (.ref f) = true
theorem HasX.toA {P : Program} {w : World} {K : Frag} {mg : Str → Option Value} {base : Heap} {k : Nat} {nm : Str} {ps : List Str} {dsp : DSpX} (h : HasX P w K mg base k nm ps dsp) : ∃ f, HasAX P w K mg base k f ps dsp ∧ mg nm = some (.ref f) := by
  obtain ⟨f, fd, a, b, c, m, _⟩ := h
  exact ⟨f, ⟨fd, a, b, c⟩, m⟩
/-! ### defs -/
section
variable {P : Program} {w : World} {K : Frag} {mg : Str → Option Value} {base : Heap}
theorem hasx_mk {nm : Str} {st : Stmt} {f : Addr} {fd : FuncData} {N ps : List Str} {k : Nat} {dsp : DSpX} (F : Fun K nm nm st f fd) (b : L2.Binds K fd ps []) (m : mg nm = some (.ref f)) (S : FnScope N ps (defScope st))
    (body : ∀ (cdv : Value) (A : Around) (outer : List Env) (s : Shared) (H : Hp) (E : XK), Room k (A.deeper (PyProof.Rows.envOfC nm (defScope st) s.heap.objs.size f cdv)) → ∀ ds G R RX, ds.length = ps.length → FinX K H (LessX RX) E → dsp ds G R RX →
      ∃ t, DSs (cxOf (L2.CX P w) P w K mg base N nm (defScope st) f cdv A outer s H E) (defBody st) t ∧ t { nx := fun _ G => Less R .non G, rt := Less R } (dstart N ds) G) : HasX P w K mg base (k + 1) nm ps dsp := by
  refine ⟨f, fd, F.okX S (fun vs H Q E h => ?_) (fun cdv A outer s H vs Q E hr h => ?_), b, F.kp, m, F.look⟩
  · obtain ⟨ds, G, R, RX, r, w, l, _⟩ := h
    rw [r.len]; exact l
  · obtain ⟨ds, G, R, RX, r, wd, l, h, fin, fx⟩ := h
    obtain ⟨t, h1, h2⟩ := body cdv A outer s H E hr ds G R RX l fx.less h
    exact ⟨_, h1, _, _, G, sl_start r, wd, links_def fin, h2⟩
theorem atx_mk {nm : Str} {st : Stmt} {N ps : List Str} {k : Nat} {dsp : DSpX} (a : At K mg nm st ps) (S : FnScope N ps (defScope st))
    (body : ∀ (f : Addr) (cdv : Value) (A : Around) (outer : List Env) (s : Shared) (H : Hp) (E : XK), Room k (A.deeper (PyProof.Rows.envOfC nm (defScope st) s.heap.objs.size f cdv)) → ∀ ds G R RX, ds.length = ps.length → FinX K H (LessX RX) E → dsp ds G R RX →
      ∃ t, DSs (cxOf (L2.CX P w) P w K mg base N nm (defScope st) f cdv A outer s H E) (defBody st) t ∧ t { nx := fun _ G => Less R .non G, rt := Less R } (dstart N ds) G) : HasX P w K mg base (k + 1) nm ps dsp := by
  obtain ⟨f, fd, F, b, m⟩ := a
  exact hasx_mk F b m S (body f)
end
/-! ### a call that may let an error out, within a def that lets it out -/
section
variable {X : Cx} {k : Nat} {nm : Str} {ps : List Str} {dsp : DSpX} {e : Expr} {es : List Expr} {ts : TDA} {p pos : Pos} {E : XK} {RX : DXk}
def dCallX (n : Nat) (dsp : DSpX) (RX : DXk) (t : TDA) : TD := fun δ G Q => t δ G fun ds G1 => ds.length = n ∧ dsp ds G1 Q RX
theorem de_callX (h : HasX X.prog X.w X.K X.mg X.base k nm ps dsp) (hx : FinX X.K X.H_0 RX E) (tk : Takes X (fun cls d _ H => E cls d H)) (hr : Room k X.A) (hg : Gl X nm) (ha : DA X (e :: es) ts) (hdb : (nm == ("__debug__" : Str)) = false := by decide) (he : starEach (e :: es) X.env = (false, eval e X.env) :: starEach es X.env := by rfl) (hpl : (backTo pos (starEach es X.env)).any (·.1) = false := by rfl) :
    DE X (.Call (.Name nm p) (e :: es) [] pos) (dCallX ps.length dsp RX ts) := by
  obtain ⟨f, fd, F, b, kp, m, _⟩ := h
  refine ⟨fun pins s σ H Q I ⟨δ, G, R, sl, w, h, fq⟩ => ?_⟩
  refine wpAny_Call_Name_kw (ld_glob I hg m ?_ hdb)
  refine PySem.W.callWith_K (h₀ := X.base) I.ok.mod.kin kp (thn (ha.run pos pins s σ H (fun vs H1 => ∃ ds G1, RVs X.K H1 vs ds ∧ Wd X.K H1 G1 ∧ TKs X.K H H1 ∧ ds.length = ps.length ∧ dsp ds G1 R RX) I ⟨δ, G, _, sl, w, h, fun ds G1 vs H1 h1 t1 w1 r1 => ⟨ds, G1, r1, w1, t1, h1.1, h1.2⟩⟩) fun us s1 ⟨vs, H1, I1, r, ds, G1, r1, w1, t1, l1, h1⟩ => ⟨I1.kIn, ?_⟩) he hpl
  refine run_fn F hr b .nil (passes_call (E := E) tk fun _ _ _ _ h => h) I1 r ?_
  rw [List.append_nil]
  exact ⟨ds, G1, R, RX, r1, w1, l1, h1, fq.step t1, hx.step (inv_tks I1)⟩
theorem w_callX {n : Nat} {δ : DSt} {G : DG} {Q : DK} (h : ts δ G fun ds G1 => ds.length = n ∧ dsp ds G1 Q RX) : dCallX n dsp RX ts δ G Q := h
/-- raise C(m) -/
def dRaise (c : Value) (RX : DXk) : TDS := fun _ _ G => RX c G
theorem ds_raise {x m : Str} {C : Addr} {j : Nat} {p p2 pos pos2 : Pos} (hc : X.calm = true) (hx : FinX X.K X.H_0 RX E) (tk : Takes X (fun cls d _ H => E cls d H)) {bmB : List Value} {B newId initId : String} (F : ExcBaseFacts B newId initId bmB) (q : PySem.W.excIn X.K C bmB newId = true) (gC : X.mg x = some (.ref C)) (kC : PySem.W.keepIn X.K (.ref C) = true) (r : Raises X (.ref C)) (hg : Gl X x) (hdb : (x == ("__debug__" : Str)) = false := by decide) :
    DS X (.Raise (some (.Call (.Name x p) [.Constant (.str m) j p2] [] pos)) none pos2) (dRaise (.ref C) RX) := by
  have h := ps_raise (pos := pos2) hc tk (pmk_own (m := m) (j := j) (p := p) (p2 := p2) (pos := pos) F q gC kC r hg hdb)
  refine ⟨fun pins s σ H D I ⟨D', δ, G, sl, w, l, h1⟩ => h.run pins s σ H D I ?_⟩
  exact hx _ G H h1 (inv_tks I) w
theorem w_raise {c : Value} {D : DEnds} {δ : DSt} {G : DG} (h : RX c G) : dRaise c RX D δ G := h
end
/-- a class of errors whose makers are the built-in one's -/
structure ErrC (K : Frag) (mg : Str → Option Value) (x : Str) (C : Addr) : Prop where
  gP : mg x = some (.ref C)
  xP : excIn K C [.type "ValueError", .type "Exception", .type "BaseException", .type "object"] "ValueError.__new__" = true
  kP : keepIn K (.ref C) = true
  bP : subIn K (.ref C) (.type "BaseException") = some true
  tP : typeIn K (.ref C) = some (.type "type")
section
variable {X : Cx} {E : XK} {RX : DXk}
theorem ds_raiseC {x m : Str} {C : Addr} {j : Nat} {p p2 pos pos2 : Pos} (c : ErrC X.K X.mg x C) (hc : X.calm = true) (hx : FinX X.K X.H_0 RX E) (tk : Takes X (fun cls d _ H => E cls d H)) (hg : Gl X x) (hdb : (x == ("__debug__" : Str)) = false := by decide) :
    DS X (.Raise (some (.Call (.Name x p) [.Constant (.str m) j p2] [] pos)) none pos2) (dRaise (.ref C) RX) :=
  ds_raise hc hx tk PySem.F.excBase_ValueError c.xP c.gP c.kP (raises_own c.bP c.tP) hg hdb
end
/-! ### try -/
abbrev TDX := DSt → DG → DK → DXk → Prop
abbrev TDAX := DSt → DG → (List DV → DG → Prop) → DXk → Prop
def FinW (K : Frag) (H : Hp) (RX : DXk) (W : WX) (σ : L2.St) : Prop := ∀ cls G H', RX cls G → TKs K H H' → Wd K H' G → W cls none σ H'
theorem FinW.step {K : Frag} {H H1 : Hp} {RX : DXk} {W : WX} {σ : L2.St} (f : FinW K H RX W σ) (t : TKs K H H1) : FinW K H1 RX W σ := fun c G H' r t' w => f c G H' r (t.trans t') w
def upE (K : Frag) (W : WX) (t : TDX) : TE := fun σ H Q => ∃ δ G R RX, Sl K H σ δ ∧ Wd K H G ∧ t δ G R RX ∧ Fin K H R Q ∧ FinW K H RX W σ
/-- an expression within a try -/
def DEX (X : Cx) (e : Expr) (t : TDX) : Prop := ∀ (W : WX) (pn : List (Addr × Obj)) (xe : Value → Shared → Prop), Takes (X.tr pn xe) W → PE (X.tr pn xe) e (upE X.K W t)
section
variable {X : Cx} {k : Nat} {nm : Str} {ps : List Str} {dsp : DSpX} {e : Expr} {es : List Expr} {ts : TDA} {p pos : Pos}
def xCall (n : Nat) (dsp : DSpX) (t : TDA) : TDX := fun δ G Q RX => t δ G fun ds G1 => ds.length = n ∧ dsp ds G1 Q RX
theorem dex_call (h : HasX X.prog X.w X.K X.mg X.base k nm ps dsp) (hr : Room k X.A) (hg : Gl X nm) (ha : ∀ pn xe, DA (X.tr pn xe) (e :: es) ts) (hdb : (nm == ("__debug__" : Str)) = false := by decide) (he : starEach (e :: es) X.env = (false, eval e X.env) :: starEach es X.env := by rfl) (hpl : (backTo pos (starEach es X.env)).any (·.1) = false := by rfl) :
    DEX X (.Call (.Name nm p) (e :: es) [] pos) (xCall ps.length dsp ts) := by
  obtain ⟨f, fd, F, b, kp, m, _⟩ := h
  intro W pn xe tk
  refine PE_mono (pe_callS (X := X.tr pn xe) F hr hg m kp b (fun σ => passAt tk σ) (ha pn xe) hdb he hpl) fun σ H Q ⟨δ, G, R, RX, sl, w, h, f, fx⟩ => ⟨δ, G, _, sl, w, h, fun ds G1 vs H1 h1 t1 w1 r1 => ?_⟩
  exact ⟨ds, G1, R, RX, r1, w1, h1.1, h1.2, f.step t1, fun c G' H' r t w => fx c G' H' r (t1.trans t) w⟩
/-- an expression that lets no error out -/
def xE (t : TD) : TDX := fun δ G Q _ => t δ G Q
def xNil : TDAX := fun δ G Q _ => Q [] G
def xCons (t : TDX) (u : TDAX) : TDAX := fun δ G Q RX => t δ G (fun d G1 => u δ G1 (fun ds G2 => Q (d :: ds) G2) RX) RX
/-- [x, ..] -/
def xLst (t : TDAX) : TDX := fun δ G Q RX => t δ G (fun ds G1 => ds.length ≤ sizeLine ∧ ∀ p, G1 p = none → Q (.ref p) (dupd G1 p (.lst ds))) RX
/-- (x, ..) -/
def xTup (t : TDAX) : TDX := fun δ G Q RX => t δ G (fun ds G1 => ds.length ≤ sizeLine ∧ Q (.tup ds) G1) RX
end
/-! a call of a local name that holds a def -/
/-! statements within a try -/
abbrev TDSX := DEnds → DSt → DG → DXk → Prop
def upSX (K : Frag) (W : WX) (t : TDSX) : TS := fun D σ H => ∃ D' δ G RX, Sl K H σ δ ∧ Wd K H G ∧ Links K H D' D ∧ t D' δ G RX ∧ FinW K H RX W σ
def DSsX (X : Cx) (b : List Stmt) (t : TDSX) : Prop := ∀ (W : WX) (pn : List (Addr × Obj)) (xe : Value → Shared → Prop), Takes (X.tr pn xe) W → PassesOwn (model X.prog X.w) X.A X.env xe → PSs (X.tr pn xe) b (upSX X.K W t)
section
variable {X : Cx} {e : Expr} {te : TDX}
def xSet (i : Nat) (te : TDX) : TDSX := fun D δ G RX => te δ G (fun d G1 => D.nx (δ.set i (some d)) G1) RX
def xExpr (te : TDX) : TDSX := fun D δ G RX => te δ G (fun _ G1 => D.nx δ G1) RX
/-- try: body; except c as n: suite (slot i is n's). The error stands in the store behind the suite. -/
def dTry (K : Frag) (c : Value) (i : Nat) (tb : TDSX) (ts : Addr → Value → TDS) : TDS := fun D δ G => tb D δ G fun cls G1 => exmOne K cls c = some true ∧ ∀ a, G1 a = none →
  ts a cls { nx := fun δ' G2 => G2 a = none → D.nx (δ'.set i none) (dupd G2 a (.err cls)), rt := D.rt, bk := fun δ' G2 => D.bk (δ'.set i none) G2, ct := fun δ' G2 => D.ct (δ'.set i none) G2 } (δ.set i (some (.ref a))) G1
end
/-! ### isinstance of an error: in its suite, and behind it -/
section
variable {K : Frag} {c : Value} {i : Nat} {tb : TDSX} {ts : Addr → Value → TDS} {D : DEnds} {δ : DSt} {G : DG} {RX : DXk} {Q : DK} {te : TDX} {t : TD} {u : TDAX} {QA : List DV → DG → Prop} {tda : TDA} {n : Nat} {dsp : DSpX}
theorem w_try (h : tb D δ G fun cls G1 => exmOne K cls c = some true ∧ ∀ a, G1 a = none →
  ts a cls { nx := fun δ' G2 => G2 a = none → D.nx (δ'.set i none) (dupd G2 a (.err cls)), rt := D.rt, bk := fun δ' G2 => D.bk (δ'.set i none) G2, ct := fun δ' G2 => D.ct (δ'.set i none) G2 } (δ.set i (some (.ref a))) G1) : dTry K c i tb ts D δ G := h
theorem w_xSet (h : te δ G (fun d G1 => D.nx (δ.set i (some d)) G1) RX) : xSet i te D δ G RX := h
theorem w_xExpr (h : te δ G (fun _ G1 => D.nx δ G1) RX) : xExpr te D δ G RX := h
theorem w_xLst (h : u δ G (fun ds G1 => ds.length ≤ sizeLine ∧ ∀ p, G1 p = none → Q (.ref p) (dupd G1 p (.lst ds))) RX) : xLst u δ G Q RX := h
theorem w_xTup (h : u δ G (fun ds G1 => ds.length ≤ sizeLine ∧ Q (.tup ds) G1) RX) : xTup u δ G Q RX := h
theorem w_xCons (h : te δ G (fun d G1 => u δ G1 (fun ds G2 => QA (d :: ds) G2) RX) RX) : xCons te u δ G QA RX := h
theorem w_xNil (h : QA [] G) : xNil δ G QA RX := h
theorem w_xE (h : t δ G Q) : xE t δ G Q RX := h
theorem w_xCall (h : tda δ G fun ds G1 => ds.length = n ∧ dsp ds G1 Q RX) : xCall n dsp tda δ G Q RX := h
end
end DD
/-! methods of two outcomes over data -/
namespace DD
open PySem PySem.W L2 SX Cm
section
variable {X : Cx} {k : Nat} {C : Addr} {m nm : Str} {ps : List Str} {dsp : DSpX} {o e : Expr} {es : List Expr} {to : TD} {ts : TDA} {p apos pos : Pos} {E : XK} {RX : DXk}
def dMethX (C : Addr) (m : Str) (n : Nat) (dsp : DSpX) (RX : DXk) (to : TD) (ts : TDA) : TD := fun δ G Q => to δ G fun x G1 => ∃ a fs, x = .ref a ∧ G1 a = some (.obj C fs) ∧ fs.lookup m = none ∧ ts δ G1 fun ds G2 => (x :: ds).length = n ∧ dsp (x :: ds) G2 Q RX
theorem w_methX {n : Nat} {δ : DSt} {G : DG} {Q : DK} (h : to δ G fun x G1 => ∃ a fs, x = .ref a ∧ G1 a = some (.obj C fs) ∧ fs.lookup m = none ∧ ts δ G1 fun ds G2 => (x :: ds).length = n ∧ dsp (x :: ds) G2 Q RX) : dMethX C m n dsp RX to ts δ G Q := h
end
end DD
set_option maxHeartbeats 1000000
namespace K14
open PySem PySem.W L2 SX Cm DD
local macro_rules | `(tactic| walk_at "d1") => `(tactic| first | (with_reducible refine w_go ?_) | ((with_reducible show dVar _ _ _ _); refine w_var rfl ?_) | (with_reducible refine w_exI ?_) | (with_reducible refine w_exB ?_) | (with_reducible refine w_exT ?_) | (with_reducible refine w_exS ?_) | (with_reducible refine w_parE ?_) | (with_reducible refine ly1 ?_) | (with_reducible refine ly2 ?_) | (with_reducible refine lt1' ?_) | (with_reducible refine lt2' ?_) | (with_reducible refine wx_enumT ?_) | (with_reducible refine w_callX ?_) | (with_reducible refine w_methX ?_) | (with_reducible refine w_raise ?_) | (with_reducible refine w_try ?_) | (with_reducible refine w_xSet ?_) | (with_reducible refine w_xExpr ?_) | (with_reducible refine w_xLst ?_) | (with_reducible refine w_xTup ?_) | (with_reducible refine w_xCons ?_) | (with_reducible refine w_xNil ?_) | (with_reducible refine w_xE ?_) | (with_reducible refine w_xCall ?_) | (with_reducible refine w_call0 ?_) | (with_reducible refine w_asgL ?_) | (with_reducible refine w_tupPd ?_) | (with_reducible refine wi_zip ?_) | (with_reducible refine w_delT ?_) | (with_reducible refine w_dc ?_) | (with_reducible refine w_revL ?_) | (with_reducible refine wi_revT ?_) | (with_reducible refine w_lstZip ?_) | (with_reducible refine w_chain ?_) | (with_reducible refine w_orT ?_) | (with_reducible refine w_try0 ?_) | (with_reducible refine w_xAsg ?_) | (with_reducible refine wi_zipTL ?_) | (with_reducible refine wi_zipSL ?_) | ((with_reducible show gT _ _ _ _ _ _); refine g_T ?_ rfl) | ((with_reducible show ∃ p, DV.ref _ = _ ∧ (∃ kvs, _) ∧ _); refine wx_get (by walk_at "gq") ?_) | ((with_reducible show ∃ kvs z, _ = _ ∧ _ = some (DO.dct _) ∧ _); refine wx_get2 (by walk_at "gq") ?_) | ((with_reducible show ∃ p kvs z, _ = _ ∧ _ = _ ∧ _ = some (DO.dct _) ∧ _); refine wx_in (by walk_at "gq") ?_) | ((with_reducible show List.length _ = _ ∧ _); refine w_len ?_ rfl) | ((with_reducible show List.length _ ≤ sizeLine ∧ _); refine w_sz ?_ (szl rfl)) | ((with_reducible show bIx _ (.int _) _ _); first | refine w_ix0 ?_ | refine w_ix1 ?_ | refine w_ix2 ?_ | refine w_ix3 ?_) | ((with_reducible show bIsi [_, _] _ _); first | refine w_isi (by decide) (a := "tuple") rfl rfl ?_ | refine w_isi (by decide) (a := "str") rfl rfl ?_ | refine w_isi (by decide) (a := "int") rfl rfl ?_ | refine w_isi (by decide) (a := "bool") rfl rfl ?_ | refine w_isi (by decide) (a := "NoneType") rfl rfl ?_) | ((with_reducible show ∃ ds, _ = DV.tup ds ∧ _); refine w_exT ?_) | ((with_reducible show ∃ z, _ = DV.str z ∧ _); refine w_exS ?_) | ((with_reducible show ∃ ds, [_] = [DV.tup ds] ∧ _); refine wx_enumT ?_) | ((with_reducible show bSl _ _ _ _ _); refine w_slT ?_) | ((with_reducible show bTuple [_] _ _); refine w_tupT ?_) | ((with_reducible show bLen [_] _ _); refine w_lenT ?_) | ((with_reducible show bTru _ _ _); first | refine w_truT ?_ | refine w_truN ?_ | refine w_truB ?_ | refine w_truI ?_) | ((with_reducible show bEq _ _ _ _ _); first | refine w_eqSS ?_ | refine w_eqII ?_ | refine w_neSS ?_ | refine w_neII ?_ | refine w_eqT0 ?_) | ((with_reducible show bInt _ _ (.int _) (.int _) _ _); refine w_int (by first | decide | exact ⟨by decide, by decide, by decide⟩ | exact .inl ⟨by decide, by decide⟩ | exact .inr ⟨by decide, by decide⟩) ?_) | ((with_reducible show if _ = true then _ else _); first | refine w_it (by first | rfl | decide +kernel) ?_ | refine w_if0 (by first | rfl | decide +kernel) ?_) | ((with_reducible show rcv "list" (.ref _) _ ∧ _); refine w_rcvL (by walk_at "gq") ?_) | ((with_reducible show bTuple [.ref _] _ _); refine w_tupL (by walk_at "gq") ?_) | ((with_reducible show bLen [.ref _] _ _); refine w_lenL (by walk_at "gq") ?_) | ((with_reducible show bTru (.ref _) _ _); refine w_truL (by walk_at "gq") ?_) | ((with_reducible show ∃ _ _, DV.ref _ = _ ∧ Ls _ _ _ ∧ _); refine wx_lst (by walk_at "gq") ?_) | ((with_reducible show ∃ _ _, [DV.ref _] = _ ∧ Ls _ _ _ ∧ _); refine wx_lstA (by walk_at "gq") ?_))
local macro_rules | `(tactic| walk_at "dd") => `(tactic| repeat (walk_at "d1"))
local macro_rules | `(tactic| walk_at "gq") => `(tactic| first | assumption | exact dupd_same | exact sub_get (by assumption) (by walk_at "gq") | exact upd_get (by assumption) (by walk_at "gq") (by walk_at "gn") | exact subx_get (by assumption) (by walk_at "gq") (by walk_at "gn") | (refine (dupd_ne ?_).trans ?_; (focus walk_at "gn"); walk_at "gq"))
local macro_rules | `(tactic| walk_at "gs") => `(tactic| first | assumption | exact Sub.refl _ | exact sub_tr (by assumption) (by walk_at "gs") | exact sub_up (by assumption) (by walk_at "gs") (by walk_at "g0") | exact sub_ux (by assumption) (by walk_at "gs") (by walk_at "g0") | (refine Sub.new ?_ ?_; (focus walk_at "gs"); walk_at "g0"))
local macro_rules | `(tactic| walk_at "gk") => `(tactic| first | assumption | exact db_sub (by assumption) (by walk_at "gk") | exact db_upd (by assumption) (by walk_at "gk") ⟨_, by walk_at "gq"⟩ | exact db_updD (by assumption) (by walk_at "gk") ⟨_, by walk_at "gq"⟩)
local macro_rules | `(tactic| walk_at "gu") => `(tactic| first | assumption | exact Upd.refl _ _ | exact upd_in (by assumption) (by walk_at "gu"))
local macro_rules | `(tactic| walk_at "gx") => `(tactic| first | assumption | exact SubX.refl _ _ | exact subx_sub (by assumption) (by walk_at "gx") | exact subx_upd (by assumption) (by walk_at "gx") | exact subx_tr (by assumption) (by walk_at "gx"))
local macro_rules | `(tactic| walk_at "gn") => `(tactic| first | assumption | exact Ne.symm (by assumption) | exact ne_ns (by assumption) ⟨_, by walk_at "gq"⟩ | exact ne_sn (by assumption) ⟨_, by walk_at "gq"⟩)
local macro_rules | `(tactic| walk_at "g0") => `(tactic| first | assumption | exact nn_ (by assumption) (by walk_at "gs"))
section
variable {P : Program} {w : World} {K : Frag} {mg : Str → Option Value} {base : Heap}
def SP_isb : DSp := fun ds G R => ∃ z, ds = [.str z] ∧ R (.bl (decide (z ∈ BKL))) G
def SP_ish : DSp := fun ds G R => ∃ z, ds = [.str z] ∧ ((∃ n ps, z = shT n ps ∧ ShOk n ps ∧ R (.bl true) G) ∨ (45 ∉ TL.tl z ∧ z.length ≤ 100 ∧ R (.bl false) G))
def SP_tk : DSpX := fun ds G R RX => ∃ n ps, ds = [.str (shT n ps)] ∧ ShOk n ps ∧ R (.tup [.int (n : Int), .tup (ps.map fun p : Nat => DV.int (p : Int))]) G
def SP_nt : DSp := fun ds G R => ∃ n, ds = [.int n] ∧ R (.tup [.str "number", .int (n % 1000000000000)]) G
def SP_pr : DSp := fun ds G R => ∃ d, ds = [d] ∧ R (.tup [.str "push", .tup [.str "row", d]]) G
def SP_ha (N : Addr) : DSpX := fun ds G R RX => ∃ s t, ds = [.str (nmSo s), eT t] ∧ (fitB s t = true → R (hldD s t) G) ∧ (fitB s t = false → RX (.ref N) G)
/-- the top of a list of things -/
def SP_to (N : Addr) : DSpX := fun ds G R RX => ∃ p ts n, ds = [.ref p, .int (n : Nat)] ∧ G p = some (.lst (eTs ts)) ∧ ts.length ≤ 1000000 ∧ (n ≤ ts.length → ∀ q G', DD.Sub G G' → G' q = some (.lst (eTs (ts.drop (ts.length - n)))) → R (.ref q) G') ∧ (ts.length < n → RX (.ref N) G)
def SP_dm (b : Bas) : DSp := fun ds G R => ∃ p ts l a, ds = [.ref p] ∧ G p = some (.lst (hlds (srtB b) ts)) ∧ ts.length = (srtB b).length ∧ deedB b ts = some (l, a) ∧ gdTs ts ∧ szTs ts ≤ 400000 ∧ R (.tup [.tup (eTs l), .tup (eWs a)]) G
abbrev N_p_is_basic : List Str := ["text"]
abbrev A_p_is_basic : List Str := ["text"]
theorem sc_p_is_basic : FnScope N_p_is_basic A_p_is_basic (defScope s_p_is_basic) := ⟨rfl, rfl, rfl, by decide +kernel, rfl, by decide +kernel, by decide +kernel⟩
theorem h_p_is_basic (a : At K mg "is_basic" s_p_is_basic A_p_is_basic) {dS : Addr} (B : BI mg) (T_SORTS_TAKEN : KeyD K w dS BKL) (g_SORTS_TAKEN : mg "SORTS_TAKEN" = some (.ref dS)) : Has P w K mg base 1 "is_basic" A_p_is_basic SP_isb := by
  refine at_mk a sc_p_is_basic fun f cdv A outer s H E hr ds G R hl h => ?_
  refine ⟨_, (dss_one (ds_ret (de_cmp (od_inKs T_SORTS_TAKEN) (dv 0) (de_gref g_SORTS_TAKEN rfl) rfl))), ?_⟩
  obtain ⟨z, rfl, q⟩ := h
  walk_at "dd"
  refine w_inKs ?_
  exact Less.of q
abbrev N_p_is_shuffle : List Str := ["thing", "taken", "stroke", "left", "letter"]
abbrev A_p_is_shuffle : List Str := ["thing"]
theorem sc_p_is_shuffle : FnScope N_p_is_shuffle A_p_is_shuffle (defScope s_p_is_shuffle) := ⟨rfl, rfl, rfl, by decide +kernel, rfl, by decide +kernel, by decide +kernel⟩
theorem h_p_is_shuffle (a : At K mg "is_shuffle" s_p_is_shuffle A_p_is_shuffle) (B : BI mg) (g_LETTERS : ∃ t, mg "LETTERS" = some (.str "abcdefgh" t)) (g_MOST_LEFT : ∃ t, mg "MOST_LEFT" = some (.int 12 t)) : Has P w K mg base 1 "is_shuffle" A_p_is_shuffle SP_ish := by
  refine at_mk a sc_p_is_shuffle fun f cdv A outer s H E hr ds G R hl h => ?_
  refine ⟨_, (dss_cons (ds_if (dt_not (dt_e (de_callB cd_isi B.isi rfl (by decide +kernel) (da_cons (dv 0) (da_cons (de_ty (n := "str") B.str rfl (by decide +kernel)) da_nil))))) (dss_one (ds_ret de_bl)) dss_nil)
    (dss_cons (ds_asg (de_bm PySem.F.plainAttrs_str PySem.F.slot_str_partition PySem.F.type_str_partition md_partition (dv 0) (da_cons de_str da_nil)) (dg_tup rfl (dgs_cons (dg_name (i := 1) sc_p_is_shuffle.nd rfl (.inr rfl)) (dgs_cons (dg_name (i := 2) sc_p_is_shuffle.nd rfl (.inl rfl)) (dgs_cons (dg_name (i := 3) sc_p_is_shuffle.nd rfl (.inl rfl)) dgs_nil)))))
    (dss_cons (ds_if (dt_w (dw_or (dt_cmp (od_eq hr.units) (dv 2) de_str (nomark _)) (dw_or1 (dt_not (dt_e (de_bm PySem.F.plainAttrs_str PySem.F.slot_str_startswith PySem.F.type_str_startswith md_startswith (de_gstr g_LETTERS rfl) (da_cons (dv 1) da_nil))))))) (dss_one (ds_ret de_bl)) dss_nil)
    (dss_one (ds_ret (de_and (de_cmp od_le (de_callB cd_len B.len rfl (by decide +kernel) (da_cons (dv 3) da_nil)) (de_gint g_MOST_LEFT rfl) (nomark _)) (de_one (de_callB (cd_all rfl) B.all rfl (by decide +kernel) (da_cons (de_lc (own := [("letter", 4)]) (lt1 (i := 4) (by decide)) rfl sc_p_is_shuffle.nd (di_str (dv 3)) (blkOk_by (own := [("letter", 4)]) (N := N_p_is_shuffle) (sc := defScope s_p_is_shuffle) (by decide +kernel)) (fun _ _ _ _ _ => pg_name (i := 4) sc_p_is_shuffle.nd rfl (Or.inl rfl)) (fun _ _ _ _ _ => dts_nil) (fun _ _ _ _ _ => (de_cmp od_in (dv 4) (dv 1) rfl))) da_nil))))))))), ?_⟩
  obtain ⟨z, rfl, ⟨n, ps, rfl, hs, q⟩ | ⟨hn, hl, q⟩⟩ := h
  · walk_at "dd"
    refine w_partition (by decide +kernel) (mid (Nat.le_trans (sh_len hs) (by decide))) ?_
    rw [sh_part]
    dsimp only
    walk_at "dd"
    refine w_startswith ?_
    rw [sh_start n (Nat.lt_succ_of_le hs.hn)]
    walk_at "dd"
    refine w_lenS (mid (by rw [S_len, shP, List.length_map]; have := hs.hl; omega)) ?_
    walk_at "dd"
    refine w_it (decide_eq_true (by rw [S_len, shP, List.length_map]; have := hs.hl; omega)) ?_
    walk_at "dd"
    rw [signs_S]
    refine lcs_pure (fun d => some (.bl true)) (fun _ _ => trivial) (by rw [List.length_map, shP, List.length_map]; have := hs.hl; omega) ?_ ?_
    · intro d hd G' k1 k0 _ h1 h0
      obtain ⟨c', hc', rfl⟩ := List.mem_map.mp hd
      obtain ⟨p, hp, rfl⟩ := List.mem_map.mp hc'
      walk_at "dd"
      rw [decide_eq_true (sh_in (hs.hp p hp))]
      exact h1 _ rfl
    · intro p G1 np s1 hp
      have e : ((shP ps).map fun c => DV.str ⟨#[c]⟩).filterMap (fun _ => some (DV.bl true)) = ((shP ps).map fun _ => true).map DV.bl := by
        rw [List.filterMap_map, List.map_map]; exact List.filterMap_eq_map ▸ rfl
      rw [e] at hp
      walk_at "dd"
      refine w_allL hp ?_
      have ea : (((shP ps).map fun _ => true).all id) = true := by rw [List.all_map]; exact List.all_eq_true.mpr fun _ _ => rfl
      rw [ea]
      exact ⟨G, s1, q⟩
  · walk_at "dd"
    refine w_partition (by decide +kernel) (mid (by omega)) ?_
    rw [TL.partition_none (y := ("-" : Str)) (s := 45) (S := []) (by decide +kernel) hn]
    dsimp only
    walk_at "dd"
    exact Less.of q
abbrev N_p_taken_left : List Str := ["shuffle", "taken", "left", "letter"]
abbrev A_p_taken_left : List Str := ["shuffle"]
theorem sc_p_taken_left : FnScope N_p_taken_left A_p_taken_left (defScope s_p_taken_left) := ⟨rfl, rfl, rfl, by decide +kernel, rfl, by decide +kernel, by decide +kernel⟩
theorem h_p_taken_left (a : At K mg "taken_left" s_p_taken_left A_p_taken_left) (B : BI mg) (c_p_is_shuffle : Has P w K mg base 1 "is_shuffle" A_p_is_shuffle SP_ish) {e_NoShuffle : Addr} (x_NoShuffle : ErrC K mg "NoShuffle" e_NoShuffle) (g_LETTERS : ∃ t, mg "LETTERS" = some (.str "abcdefgh" t)) : HasX P w K mg base 2 "taken_left" A_p_taken_left SP_tk := by
  refine atx_mk a sc_p_taken_left fun f cdv A outer s H E hr ds G R RX hl hx h => ?_
  refine ⟨_, (dss_cons (ds_if (dt_not (dt_e (de_call c_p_is_shuffle (hr.mono (by omega)) rfl (da_cons (dv 0) da_nil)))) (dss_one (ds_raiseC x_NoShuffle rfl hx (takes_of rfl rfl rfl rfl) rfl)) dss_nil)
    (dss_cons (ds_asg (de_bm PySem.F.plainAttrs_str PySem.F.slot_str_split PySem.F.type_str_split md_split (dv 0) (da_cons de_str da_nil)) (dg_lst rfl (dgs_cons (dg_name (i := 1) sc_p_taken_left.nd rfl (.inl rfl)) (dgs_cons (dg_name (i := 2) sc_p_taken_left.nd rfl (.inl rfl)) dgs_nil))))
    (dss_one (ds_ret (de_tup (da_cons (de_callB cd_len B.len rfl (by decide +kernel) (da_cons (dv 1) da_nil)) (da_cons (de_callTy cd_tuple B.tup rfl (by decide +kernel) (da_cons (de_lc (own := [("letter", 3)]) (lt1 (i := 3) (by decide)) rfl sc_p_taken_left.nd (di_str (dv 2)) (blkOk_by (own := [("letter", 3)]) (N := N_p_taken_left) (sc := defScope s_p_taken_left) (by decide +kernel)) (fun _ _ _ _ _ => pg_name (i := 3) sc_p_taken_left.nd rfl (Or.inl rfl)) (fun _ _ _ _ _ => dts_nil) (fun _ _ _ _ _ => (de_bm PySem.F.plainAttrs_str PySem.F.slot_str_index PySem.F.type_str_index md_sindex (de_gstr g_LETTERS rfl) (da_cons (dv 3) da_nil)))) da_nil)) da_nil))))))), ?_⟩
  obtain ⟨n, ps, rfl, hs, q⟩ := h
  walk_at "dd"
  refine ⟨_, rfl, .inl ⟨n, ps, rfl, hs, ?_⟩⟩
  walk_at "dd"
  refine w_split rfl (mid (by have := sh_len hs; omega)) ?_
  rw [sh_split]
  intro p np
  refine abs_new np fun G1 s1 h1 => ?_
  have h1 : G1 p = some (.lst [.str (S (shL n)), .str (S (shP ps))]) := h1
  refine g_L h1 ?_
  walk_at "dd"
  have ln : (S (shL n)).length = n := by rw [S_len]; unfold shL; rw [List.length_map, List.length_range]
  refine w_lenS (z := S (shL n)) (mid (by rw [ln]; have := hs.hn; omega)) ?_
  walk_at "dd"
  rw [signs_S]
  refine lcs_pure (fun d => some (.int ((signD d - 97 : Nat) : Int))) (fun _ _ => trivial) (by rw [List.length_map, shP, List.length_map]; have := hs.hl; omega) ?_ ?_
  · intro d hd G' k1 k0 _ e1 e0
    obtain ⟨c', hc', rfl⟩ := List.mem_map.mp hd
    obtain ⟨p, hp, rfl⟩ := List.mem_map.mp hc'
    walk_at "dd"
    refine w_sindex (sh_index p (Nat.lt_of_lt_of_le (hs.hp p hp) hs.hn)) ?_
    refine e1 _ ?_
    show some (DV.int (((97 + p) - 97 : Nat) : Int)) = some (DV.int ((p : Nat) : Int))
    rw [Nat.add_sub_cancel_left]
  · intro p2 G2 np2 s2 hp2
    have e : ((shP ps).map fun c => DV.str ⟨#[c]⟩).filterMap (fun d => some (DV.int ((signD d - 97 : Nat) : Int))) = ps.map fun p : Nat => DV.int (p : Int) := by
      rw [fm_signs (fun c => DV.int ((c - 97 : Nat) : Int)), shP, List.map_map]
      refine List.map_congr_left fun p _ => ?_
      show DV.int (((97 + p) - 97 : Nat) : Int) = DV.int ((p : Nat) : Int)
      rw [Nat.add_sub_cancel_left]
    rw [e] at hp2
    walk_at "dd"
    rw [ln]
    exact ⟨G, by walk_at "gs", q⟩
abbrev N_p_number_thing : List Str := ["n"]
abbrev A_p_number_thing : List Str := ["n"]
theorem sc_p_number_thing : FnScope N_p_number_thing A_p_number_thing (defScope s_p_number_thing) := ⟨rfl, rfl, rfl, by decide +kernel, rfl, by decide +kernel, by decide +kernel⟩
theorem h_p_number_thing (a : At K mg "number_thing" s_p_number_thing A_p_number_thing) (B : BI mg) (g_NUMBERS : ∃ t, mg "NUMBERS" = some (.int 1000000000000 t)) : Has P w K mg base 1 "number_thing" A_p_number_thing SP_nt := by
  refine at_mk a sc_p_number_thing fun f cdv A outer s H E hr ds G R hl h => ?_
  refine ⟨_, (dss_one (ds_ret (de_tup (da_cons de_str (da_cons (de_op od_mod (dv 0) (de_gint g_NUMBERS rfl)) da_nil))))), ?_⟩
  obtain ⟨n, rfl, q⟩ := h
  walk_at "dd"
  exact Less.of q
abbrev N_p_push_row : List Str := ["row"]
abbrev A_p_push_row : List Str := ["row"]
theorem sc_p_push_row : FnScope N_p_push_row A_p_push_row (defScope s_p_push_row) := ⟨rfl, rfl, rfl, by decide +kernel, rfl, by decide +kernel, by decide +kernel⟩
theorem h_p_push_row (a : At K mg "push_row" s_p_push_row A_p_push_row) (B : BI mg) : Has P w K mg base 1 "push_row" A_p_push_row SP_pr := by
  refine at_mk a sc_p_push_row fun f cdv A outer s H E hr ds G R hl h => ?_
  refine ⟨_, (dss_one (ds_ret (de_tup (da_cons de_str (da_cons (de_tup (da_cons de_str (da_cons (dv 0) da_nil))) da_nil))))), ?_⟩
  obtain ⟨d, rfl, q⟩ := h
  walk_at "dd"
  exact Less.of q
abbrev N_p_held_as : List Str := ["sort", "thing"]
abbrev A_p_held_as : List Str := ["sort", "thing"]
theorem sc_p_held_as : FnScope N_p_held_as A_p_held_as (defScope s_p_held_as) := ⟨rfl, rfl, rfl, by decide +kernel, rfl, by decide +kernel, by decide +kernel⟩
theorem h_p_held_as (a : At K mg "held_as" s_p_held_as A_p_held_as) (B : BI mg) {e_NoStep : Addr} (x_NoStep : ErrC K mg "NoStep" e_NoStep) : HasX P w K mg base 1 "held_as" A_p_held_as (SP_ha e_NoStep) := by
  refine atx_mk a sc_p_held_as fun f cdv A outer s H E hr ds G R RX hl hx h => ?_
  refine ⟨_, (dss_cons (ds_if (dt_cmp (od_eq hr.units) (dv 0) de_str (nomark _)) (dss_one (ds_ret (dv 1))) dss_nil)
    (dss_cons (ds_if (dt_cmp (od_ne hr.units) (de_ix (dv 1) de_int) (dv 0) (nomark _)) (dss_one (ds_raiseC x_NoStep rfl hx (takes_of rfl rfl rfl rfl) rfl)) dss_nil)
    (dss_one (ds_ret (de_ix (dv 1) de_int))))), ?_⟩
  obtain ⟨s0, t, rfl, q1, q2⟩ := h
  have eq : ∀ {a b : Str} {p : Prop} [Decidable p], (a = b ↔ p) → decide (a = b) = decide p := fun h => decq h
  rw [eT_eq]
  walk_at "dd"
  cases s0 with
  | any =>
    refine w_it (decide_eq_true rfl) ?_
    walk_at "dd"
    have q1 : R (eT t) G := q1 rfl
    rw [eT_eq] at q1
    exact Less.of q1
  | num =>
    refine w_if0 (by decide +kernel) ?_
    walk_at "dd"
    rw [nmT_so]
    by_cases h2 : So.num = soT t
    · rw [← h2]
      refine w_if0 (by decide +kernel) ?_
      walk_at "dd"
      exact Less.of (q1 ((fitB_iff _ _).mpr (.inr h2)))
    · refine w_it (by rw [decide_eq_false (fun e => h2 (nmSo_inj e).symm)]; rfl) ?_
      walk_at "dd"
      refine LessX.of (q2 ?_)
      cases e : fitB .num t with
      | false => rfl
      | true =>
        rcases (fitB_iff _ _).mp e with h | h
        · cases h
        · exact absurd h h2
  | row =>
    refine w_if0 (by decide +kernel) ?_
    walk_at "dd"
    rw [nmT_so]
    by_cases h2 : So.row = soT t
    · rw [← h2]
      refine w_if0 (by decide +kernel) ?_
      walk_at "dd"
      exact Less.of (q1 ((fitB_iff _ _).mpr (.inr h2)))
    · refine w_it (by rw [decide_eq_false (fun e => h2 (nmSo_inj e).symm)]; rfl) ?_
      walk_at "dd"
      refine LessX.of (q2 ?_)
      cases e : fitB .row t with
      | false => rfl
      | true =>
        rcases (fitB_iff _ _).mp e with h | h
        · cases h
        · exact absurd h h2
  | lst =>
    refine w_if0 (by decide +kernel) ?_
    walk_at "dd"
    rw [nmT_so]
    by_cases h2 : So.lst = soT t
    · rw [← h2]
      refine w_if0 (by decide +kernel) ?_
      walk_at "dd"
      exact Less.of (q1 ((fitB_iff _ _).mpr (.inr h2)))
    · refine w_it (by rw [decide_eq_false (fun e => h2 (nmSo_inj e).symm)]; rfl) ?_
      walk_at "dd"
      refine LessX.of (q2 ?_)
      cases e : fitB .lst t with
      | false => rfl
      | true =>
        rcases (fitB_iff _ _).mp e with h | h
        · cases h
        · exact absurd h h2
abbrev N_p_top_of : List Str := ["stack", "many"]
abbrev A_p_top_of : List Str := ["stack", "many"]
theorem sc_p_top_of : FnScope N_p_top_of A_p_top_of (defScope s_p_top_of) := ⟨rfl, rfl, rfl, by decide +kernel, rfl, by decide +kernel, by decide +kernel⟩
theorem h_p_top_of (a : At K mg "top_of" s_p_top_of A_p_top_of) (B : BI mg) {e_NoStep : Addr} (x_NoStep : ErrC K mg "NoStep" e_NoStep) : HasX P w K mg base 1 "top_of" A_p_top_of (SP_to e_NoStep) := by
  refine atx_mk a sc_p_top_of fun f cdv A outer s H E hr ds G R RX hl hx h => ?_
  refine ⟨_, (dss_cons (ds_if (dt_cmp od_lt (de_callB cd_len B.len rfl (by decide +kernel) (da_cons (dv 0) da_nil)) (dv 1) (nomark _)) (dss_one (ds_raiseC x_NoStep rfl hx (takes_of rfl rfl rfl rfl) rfl)) dss_nil)
    (dss_one (ds_ret (de_slice (dv 0) (do_some (de_op od_sub (de_callB cd_len B.len rfl (by decide +kernel) (da_cons (dv 0) da_nil)) (dv 1))) do_none)))), ?_⟩
  obtain ⟨p, ts, n, rfl, hp, l, q, qx⟩ := h
  walk_at "dd"
  rw [eTs_len]
  by_cases h : ts.length < n
  · refine w_it (decide_eq_true (by omega)) ?_
    walk_at "dd"
    exact LessX.of (qx h)
  · refine w_if0 (decide_eq_false (by omega)) ?_
    walk_at "dd"
    refine w_slL hp fun p3 np3 => ?_
    rw [eTs_len, show ((ts.length : Int) - (n : Nat)) = ((ts.length - n : Nat) : Int) from by omega, cutD_from, eTs_map, ← List.map_drop, ← eTs_map]
    refine abs_new np3 fun G3 s3 h3 => ?_
    exact Less.of (q (by omega) p3 G3 s3 h3)
end
end K14
set_option maxHeartbeats 1000000
namespace K14
open PySem PySem.W L2 SX Cm DD
local macro_rules | `(tactic| walk_at "d1") => `(tactic| first | (with_reducible refine w_go ?_) | ((with_reducible show dVar _ _ _ _); refine w_var rfl ?_) | (with_reducible refine w_exI ?_) | (with_reducible refine w_exB ?_) | (with_reducible refine w_exT ?_) | (with_reducible refine w_exS ?_) | (with_reducible refine w_parE ?_) | (with_reducible refine ly1 ?_) | (with_reducible refine ly2 ?_) | (with_reducible refine lt1' ?_) | (with_reducible refine lt2' ?_) | (with_reducible refine wx_enumT ?_) | (with_reducible refine w_callX ?_) | (with_reducible refine w_methX ?_) | (with_reducible refine w_raise ?_) | (with_reducible refine w_try ?_) | (with_reducible refine w_xSet ?_) | (with_reducible refine w_xExpr ?_) | (with_reducible refine w_xLst ?_) | (with_reducible refine w_xTup ?_) | (with_reducible refine w_xCons ?_) | (with_reducible refine w_xNil ?_) | (with_reducible refine w_xE ?_) | (with_reducible refine w_xCall ?_) | (with_reducible refine w_call0 ?_) | (with_reducible refine w_asgL ?_) | (with_reducible refine w_tupPd ?_) | (with_reducible refine wi_zip ?_) | (with_reducible refine w_delT ?_) | (with_reducible refine w_dc ?_) | (with_reducible refine w_revL ?_) | (with_reducible refine wi_revT ?_) | (with_reducible refine w_lstZip ?_) | (with_reducible refine w_chain ?_) | (with_reducible refine w_orT ?_) | (with_reducible refine w_try0 ?_) | (with_reducible refine w_xAsg ?_) | (with_reducible refine wi_zipTL ?_) | (with_reducible refine wi_zipSL ?_) | ((with_reducible show gT _ _ _ _ _ _); refine g_T ?_ rfl) | ((with_reducible show ∃ p, DV.ref _ = _ ∧ (∃ kvs, _) ∧ _); refine wx_get (by walk_at "gq") ?_) | ((with_reducible show ∃ kvs z, _ = _ ∧ _ = some (DO.dct _) ∧ _); refine wx_get2 (by walk_at "gq") ?_) | ((with_reducible show ∃ p kvs z, _ = _ ∧ _ = _ ∧ _ = some (DO.dct _) ∧ _); refine wx_in (by walk_at "gq") ?_) | ((with_reducible show List.length _ = _ ∧ _); refine w_len ?_ rfl) | ((with_reducible show List.length _ ≤ sizeLine ∧ _); refine w_sz ?_ (szl rfl)) | ((with_reducible show bIx _ (.int _) _ _); first | refine w_ix0 ?_ | refine w_ix1 ?_ | refine w_ix2 ?_ | refine w_ix3 ?_) | ((with_reducible show bIsi [_, _] _ _); first | refine w_isi (by decide) (a := "tuple") rfl rfl ?_ | refine w_isi (by decide) (a := "str") rfl rfl ?_ | refine w_isi (by decide) (a := "int") rfl rfl ?_ | refine w_isi (by decide) (a := "bool") rfl rfl ?_ | refine w_isi (by decide) (a := "NoneType") rfl rfl ?_) | ((with_reducible show ∃ ds, _ = DV.tup ds ∧ _); refine w_exT ?_) | ((with_reducible show ∃ z, _ = DV.str z ∧ _); refine w_exS ?_) | ((with_reducible show ∃ ds, [_] = [DV.tup ds] ∧ _); refine wx_enumT ?_) | ((with_reducible show bSl _ _ _ _ _); refine w_slT ?_) | ((with_reducible show bTuple [_] _ _); refine w_tupT ?_) | ((with_reducible show bLen [_] _ _); refine w_lenT ?_) | ((with_reducible show bTru _ _ _); first | refine w_truT ?_ | refine w_truN ?_ | refine w_truB ?_ | refine w_truI ?_) | ((with_reducible show bEq _ _ _ _ _); first | refine w_eqSS ?_ | refine w_eqII ?_ | refine w_neSS ?_ | refine w_neII ?_ | refine w_eqT0 ?_) | ((with_reducible show bInt _ _ (.int _) (.int _) _ _); refine w_int (by first | decide | exact ⟨by decide, by decide, by decide⟩ | exact .inl ⟨by decide, by decide⟩ | exact .inr ⟨by decide, by decide⟩) ?_) | ((with_reducible show if _ = true then _ else _); first | refine w_it (by first | rfl | decide +kernel) ?_ | refine w_if0 (by first | rfl | decide +kernel) ?_) | ((with_reducible show rcv "list" (.ref _) _ ∧ _); refine w_rcvL (by walk_at "gq") ?_) | ((with_reducible show bTuple [.ref _] _ _); refine w_tupL (by walk_at "gq") ?_) | ((with_reducible show bLen [.ref _] _ _); refine w_lenL (by walk_at "gq") ?_) | ((with_reducible show bTru (.ref _) _ _); refine w_truL (by walk_at "gq") ?_) | ((with_reducible show ∃ _ _, DV.ref _ = _ ∧ Ls _ _ _ ∧ _); refine wx_lst (by walk_at "gq") ?_) | ((with_reducible show ∃ _ _, [DV.ref _] = _ ∧ Ls _ _ _ ∧ _); refine wx_lstA (by walk_at "gq") ?_))
local macro_rules | `(tactic| walk_at "dd") => `(tactic| repeat (walk_at "d1"))
local macro_rules | `(tactic| walk_at "gq") => `(tactic| first | assumption | exact dupd_same | exact sub_get (by assumption) (by walk_at "gq") | exact upd_get (by assumption) (by walk_at "gq") (by walk_at "gn") | exact subx_get (by assumption) (by walk_at "gq") (by walk_at "gn") | (refine (dupd_ne ?_).trans ?_; (focus walk_at "gn"); walk_at "gq"))
local macro_rules | `(tactic| walk_at "gs") => `(tactic| first | assumption | exact Sub.refl _ | exact sub_tr (by assumption) (by walk_at "gs") | exact sub_up (by assumption) (by walk_at "gs") (by walk_at "g0") | exact sub_ux (by assumption) (by walk_at "gs") (by walk_at "g0") | (refine Sub.new ?_ ?_; (focus walk_at "gs"); walk_at "g0"))
local macro_rules | `(tactic| walk_at "gk") => `(tactic| first | assumption | exact db_sub (by assumption) (by walk_at "gk") | exact db_upd (by assumption) (by walk_at "gk") ⟨_, by walk_at "gq"⟩ | exact db_updD (by assumption) (by walk_at "gk") ⟨_, by walk_at "gq"⟩)
local macro_rules | `(tactic| walk_at "gu") => `(tactic| first | assumption | exact Upd.refl _ _ | exact upd_in (by assumption) (by walk_at "gu"))
local macro_rules | `(tactic| walk_at "gx") => `(tactic| first | assumption | exact SubX.refl _ _ | exact subx_sub (by assumption) (by walk_at "gx") | exact subx_upd (by assumption) (by walk_at "gx") | exact subx_tr (by assumption) (by walk_at "gx"))
local macro_rules | `(tactic| walk_at "gn") => `(tactic| first | assumption | exact Ne.symm (by assumption) | exact ne_ns (by assumption) ⟨_, by walk_at "gq"⟩ | exact ne_sn (by assumption) ⟨_, by walk_at "gq"⟩)
local macro_rules | `(tactic| walk_at "g0") => `(tactic| first | assumption | exact nn_ (by assumption) (by walk_at "gs"))
section
variable {P : Program} {w : World} {K : Frag} {mg : Str → Option Value} {base : Heap}
abbrev N_p_plus_does : List Str := ["held", "m", "n"]
abbrev A_p_plus_does : List Str := ["held"]
theorem sc_p_plus_does : FnScope N_p_plus_does A_p_plus_does (defScope s_p_plus_does) := ⟨rfl, rfl, rfl, by decide +kernel, rfl, by decide +kernel, by decide +kernel⟩
theorem h_p_plus_does (a : At K mg "plus_does" s_p_plus_does A_p_plus_does) (B : BI mg) (c_p_number_thing : Has P w K mg base 1 "number_thing" A_p_number_thing SP_nt) : Has P w K mg base 2 "plus_does" A_p_plus_does (SP_dm .plus) := by
  refine at_mk a sc_p_plus_does fun f cdv A outer s H E hr ds G R hl h => ?_
  refine ⟨_, (dss_cons (ds_asg (dv 0) (dg_lst rfl (dgs_cons (dg_name (i := 1) sc_p_plus_does.nd rfl (.inl rfl)) (dgs_cons (dg_name (i := 2) sc_p_plus_does.nd rfl (.inl rfl)) dgs_nil))))
    (dss_one (ds_ret (de_tup (da_cons (de_tup (da_cons (de_call c_p_number_thing (hr.mono (by omega)) rfl (da_cons (de_op od_add (dv 1) (dv 2)) da_nil)) da_nil)) (da_cons (de_tup da_nil) da_nil)))))), ?_⟩
  obtain ⟨p, ts, l, a, rfl, hp, hl', ho, gd, zs, q⟩ := h
  obtain ⟨x0, x1, rfl⟩ : ∃ x0 x1, ts = [x0, x1] := by
    match ts, hl' with
    | [a0, a1], _ => exact ⟨a0, a1, rfl⟩
  obtain ⟨v0, rfl⟩ : ∃ v, x0 = .num v := by
    cases x0 with
    | num v => exact ⟨v, rfl⟩
    | row v => exact absurd ho (by cases x1 <;> exact fun h => nomatch h)
    | lst v => exact absurd ho (by cases x1 <;> exact fun h => nomatch h)
  obtain ⟨v1, rfl⟩ : ∃ v, x1 = .num v := by
    cases x1 with
    | num v => exact ⟨v, rfl⟩
    | row v => exact absurd ho (by skip; exact fun h => nomatch h)
    | lst v => exact absurd ho (by skip; exact fun h => nomatch h)
  have hp : G p = some (.lst [.int v0, .int v1]) := hp
  cases ho
  walk_at "dd"
  refine ⟨p, _, rfl, .inl hp, rfl, ?_⟩
  walk_at "dd"
  refine ⟨_, rfl, ?_⟩
  walk_at "dd"
  exact Less.of q
abbrev N_p_minus_does : List Str := ["held", "m", "n"]
abbrev A_p_minus_does : List Str := ["held"]
theorem sc_p_minus_does : FnScope N_p_minus_does A_p_minus_does (defScope s_p_minus_does) := ⟨rfl, rfl, rfl, by decide +kernel, rfl, by decide +kernel, by decide +kernel⟩
theorem h_p_minus_does (a : At K mg "minus_does" s_p_minus_does A_p_minus_does) (B : BI mg) (c_p_number_thing : Has P w K mg base 1 "number_thing" A_p_number_thing SP_nt) : Has P w K mg base 2 "minus_does" A_p_minus_does (SP_dm .minus) := by
  refine at_mk a sc_p_minus_does fun f cdv A outer s H E hr ds G R hl h => ?_
  refine ⟨_, (dss_cons (ds_asg (dv 0) (dg_lst rfl (dgs_cons (dg_name (i := 1) sc_p_minus_does.nd rfl (.inl rfl)) (dgs_cons (dg_name (i := 2) sc_p_minus_does.nd rfl (.inl rfl)) dgs_nil))))
    (dss_one (ds_ret (de_tup (da_cons (de_tup (da_cons (de_call c_p_number_thing (hr.mono (by omega)) rfl (da_cons (de_op od_sub (dv 1) (dv 2)) da_nil)) da_nil)) (da_cons (de_tup da_nil) da_nil)))))), ?_⟩
  obtain ⟨p, ts, l, a, rfl, hp, hl', ho, gd, zs, q⟩ := h
  obtain ⟨x0, x1, rfl⟩ : ∃ x0 x1, ts = [x0, x1] := by
    match ts, hl' with
    | [a0, a1], _ => exact ⟨a0, a1, rfl⟩
  obtain ⟨v0, rfl⟩ : ∃ v, x0 = .num v := by
    cases x0 with
    | num v => exact ⟨v, rfl⟩
    | row v => exact absurd ho (by cases x1 <;> exact fun h => nomatch h)
    | lst v => exact absurd ho (by cases x1 <;> exact fun h => nomatch h)
  obtain ⟨v1, rfl⟩ : ∃ v, x1 = .num v := by
    cases x1 with
    | num v => exact ⟨v, rfl⟩
    | row v => exact absurd ho (by skip; exact fun h => nomatch h)
    | lst v => exact absurd ho (by skip; exact fun h => nomatch h)
  have hp : G p = some (.lst [.int v0, .int v1]) := hp
  cases ho
  walk_at "dd"
  refine ⟨p, _, rfl, .inl hp, rfl, ?_⟩
  walk_at "dd"
  refine ⟨_, rfl, ?_⟩
  walk_at "dd"
  exact Less.of q
abbrev N_p_times_does : List Str := ["held", "m", "n"]
abbrev A_p_times_does : List Str := ["held"]
theorem sc_p_times_does : FnScope N_p_times_does A_p_times_does (defScope s_p_times_does) := ⟨rfl, rfl, rfl, by decide +kernel, rfl, by decide +kernel, by decide +kernel⟩
theorem h_p_times_does (a : At K mg "times_does" s_p_times_does A_p_times_does) (B : BI mg) (c_p_number_thing : Has P w K mg base 1 "number_thing" A_p_number_thing SP_nt) : Has P w K mg base 2 "times_does" A_p_times_does (SP_dm .times) := by
  refine at_mk a sc_p_times_does fun f cdv A outer s H E hr ds G R hl h => ?_
  refine ⟨_, (dss_cons (ds_asg (dv 0) (dg_lst rfl (dgs_cons (dg_name (i := 1) sc_p_times_does.nd rfl (.inl rfl)) (dgs_cons (dg_name (i := 2) sc_p_times_does.nd rfl (.inl rfl)) dgs_nil))))
    (dss_one (ds_ret (de_tup (da_cons (de_tup (da_cons (de_call c_p_number_thing (hr.mono (by omega)) rfl (da_cons (de_op od_mul (dv 1) (dv 2)) da_nil)) da_nil)) (da_cons (de_tup da_nil) da_nil)))))), ?_⟩
  obtain ⟨p, ts, l, a, rfl, hp, hl', ho, gd, zs, q⟩ := h
  obtain ⟨x0, x1, rfl⟩ : ∃ x0 x1, ts = [x0, x1] := by
    match ts, hl' with
    | [a0, a1], _ => exact ⟨a0, a1, rfl⟩
  obtain ⟨v0, rfl⟩ : ∃ v, x0 = .num v := by
    cases x0 with
    | num v => exact ⟨v, rfl⟩
    | row v => exact absurd ho (by cases x1 <;> exact fun h => nomatch h)
    | lst v => exact absurd ho (by cases x1 <;> exact fun h => nomatch h)
  obtain ⟨v1, rfl⟩ : ∃ v, x1 = .num v := by
    cases x1 with
    | num v => exact ⟨v, rfl⟩
    | row v => exact absurd ho (by skip; exact fun h => nomatch h)
    | lst v => exact absurd ho (by skip; exact fun h => nomatch h)
  have hp : G p = some (.lst [.int v0, .int v1]) := hp
  cases ho
  walk_at "dd"
  refine ⟨p, _, rfl, .inl hp, rfl, ?_⟩
  walk_at "dd"
  have g0 : NumOk v0 := gd.1
  have g1 : NumOk v1 := gd.2.1
  refine w_int (.inl ⟨by omega, by omega⟩) ?_
  walk_at "dd"
  refine ⟨_, rfl, ?_⟩
  walk_at "dd"
  exact Less.of q
abbrev N_p_less_does : List Str := ["held", "m", "n"]
abbrev A_p_less_does : List Str := ["held"]
theorem sc_p_less_does : FnScope N_p_less_does A_p_less_does (defScope s_p_less_does) := ⟨rfl, rfl, rfl, by decide +kernel, rfl, by decide +kernel, by decide +kernel⟩
theorem h_p_less_does (a : At K mg "less_does" s_p_less_does A_p_less_does) (B : BI mg) (c_p_number_thing : Has P w K mg base 1 "number_thing" A_p_number_thing SP_nt) : Has P w K mg base 2 "less_does" A_p_less_does (SP_dm .less) := by
  refine at_mk a sc_p_less_does fun f cdv A outer s H E hr ds G R hl h => ?_
  refine ⟨_, (dss_cons (ds_asg (dv 0) (dg_lst rfl (dgs_cons (dg_name (i := 1) sc_p_less_does.nd rfl (.inl rfl)) (dgs_cons (dg_name (i := 2) sc_p_less_does.nd rfl (.inl rfl)) dgs_nil))))
    (dss_one (ds_ret (de_tup (da_cons (de_tup (da_cons (de_call c_p_number_thing (hr.mono (by omega)) rfl (da_cons (de_if (dt_cmp od_lt (dv 1) (dv 2) (nomark _)) de_int de_int) da_nil)) da_nil)) (da_cons (de_tup da_nil) da_nil)))))), ?_⟩
  obtain ⟨p, ts, l, a, rfl, hp, hl', ho, gd, zs, q⟩ := h
  obtain ⟨x0, x1, rfl⟩ : ∃ x0 x1, ts = [x0, x1] := by
    match ts, hl' with
    | [a0, a1], _ => exact ⟨a0, a1, rfl⟩
  obtain ⟨v0, rfl⟩ : ∃ v, x0 = .num v := by
    cases x0 with
    | num v => exact ⟨v, rfl⟩
    | row v => exact absurd ho (by cases x1 <;> exact fun h => nomatch h)
    | lst v => exact absurd ho (by cases x1 <;> exact fun h => nomatch h)
  obtain ⟨v1, rfl⟩ : ∃ v, x1 = .num v := by
    cases x1 with
    | num v => exact ⟨v, rfl⟩
    | row v => exact absurd ho (by skip; exact fun h => nomatch h)
    | lst v => exact absurd ho (by skip; exact fun h => nomatch h)
  have hp : G p = some (.lst [.int v0, .int v1]) := hp
  cases ho
  walk_at "dd"
  refine ⟨p, _, rfl, .inl hp, rfl, ?_⟩
  walk_at "dd"
  refine w_iteD (fun hc => ?_) (fun hc => ?_)
  · walk_at "dd"
    refine ⟨_, rfl, ?_⟩
    walk_at "dd"
    rw [show (if v0 < v1 then (1 : Int) else 0) = 1 from if_pos hc] at q
    exact Less.of q
  · walk_at "dd"
    refine ⟨_, rfl, ?_⟩
    walk_at "dd"
    rw [show (if v0 < v1 then (1 : Int) else 0) = 0 from if_neg hc] at q
    exact Less.of q
abbrev N_p_same_does : List Str := ["held", "m", "n"]
abbrev A_p_same_does : List Str := ["held"]
theorem sc_p_same_does : FnScope N_p_same_does A_p_same_does (defScope s_p_same_does) := ⟨rfl, rfl, rfl, by decide +kernel, rfl, by decide +kernel, by decide +kernel⟩
theorem h_p_same_does (a : At K mg "same_does" s_p_same_does A_p_same_does) (B : BI mg) (c_p_number_thing : Has P w K mg base 1 "number_thing" A_p_number_thing SP_nt) : Has P w K mg base 2 "same_does" A_p_same_does (SP_dm .same) := by
  refine at_mk a sc_p_same_does fun f cdv A outer s H E hr ds G R hl h => ?_
  refine ⟨_, (dss_cons (ds_asg (dv 0) (dg_lst rfl (dgs_cons (dg_name (i := 1) sc_p_same_does.nd rfl (.inl rfl)) (dgs_cons (dg_name (i := 2) sc_p_same_does.nd rfl (.inl rfl)) dgs_nil))))
    (dss_one (ds_ret (de_tup (da_cons (de_tup (da_cons (de_call c_p_number_thing (hr.mono (by omega)) rfl (da_cons (de_if (dt_cmp (od_eq hr.units) (dv 1) (dv 2) (nomark _)) de_int de_int) da_nil)) da_nil)) (da_cons (de_tup da_nil) da_nil)))))), ?_⟩
  obtain ⟨p, ts, l, a, rfl, hp, hl', ho, gd, zs, q⟩ := h
  obtain ⟨x0, x1, rfl⟩ : ∃ x0 x1, ts = [x0, x1] := by
    match ts, hl' with
    | [a0, a1], _ => exact ⟨a0, a1, rfl⟩
  obtain ⟨v0, rfl⟩ : ∃ v, x0 = .num v := by
    cases x0 with
    | num v => exact ⟨v, rfl⟩
    | row v => exact absurd ho (by cases x1 <;> exact fun h => nomatch h)
    | lst v => exact absurd ho (by cases x1 <;> exact fun h => nomatch h)
  obtain ⟨v1, rfl⟩ : ∃ v, x1 = .num v := by
    cases x1 with
    | num v => exact ⟨v, rfl⟩
    | row v => exact absurd ho (by skip; exact fun h => nomatch h)
    | lst v => exact absurd ho (by skip; exact fun h => nomatch h)
  have hp : G p = some (.lst [.int v0, .int v1]) := hp
  cases ho
  walk_at "dd"
  refine ⟨p, _, rfl, .inl hp, rfl, ?_⟩
  walk_at "dd"
  refine w_iteD (fun hc => ?_) (fun hc => ?_)
  · walk_at "dd"
    refine ⟨_, rfl, ?_⟩
    walk_at "dd"
    rw [show (if v0 = v1 then (1 : Int) else 0) = 1 from if_pos hc] at q
    exact Less.of q
  · walk_at "dd"
    refine ⟨_, rfl, ?_⟩
    walk_at "dd"
    rw [show (if v0 = v1 then (1 : Int) else 0) = 0 from if_neg hc] at q
    exact Less.of q
abbrev N_p_do_does : List Str := ["held"]
abbrev A_p_do_does : List Str := ["held"]
theorem sc_p_do_does : FnScope N_p_do_does A_p_do_does (defScope s_p_do_does) := ⟨rfl, rfl, rfl, by decide +kernel, rfl, by decide +kernel, by decide +kernel⟩
theorem h_p_do_does (a : At K mg "do_does" s_p_do_does A_p_do_does) (B : BI mg) : Has P w K mg base 2 "do_does" A_p_do_does (SP_dm .do_) := by
  refine at_mk a sc_p_do_does fun f cdv A outer s H E hr ds G R hl h => ?_
  refine ⟨_, (dss_one (ds_ret (de_tup (da_cons (de_tup da_nil) (da_cons (de_ix (dv 0) de_int) da_nil))))), ?_⟩
  obtain ⟨p, ts, l, a, rfl, hp, hl', ho, gd, zs, q⟩ := h
  obtain ⟨x0, rfl⟩ : ∃ x0, ts = [x0] := by
    match ts, hl' with
    | [a0], _ => exact ⟨a0, rfl⟩
  obtain ⟨v0, rfl⟩ : ∃ v, x0 = .row v := by
    cases x0 with
    | row v => exact ⟨v, rfl⟩
    | num v => exact absurd ho (by skip; exact fun h => nomatch h)
    | lst v => exact absurd ho (by skip; exact fun h => nomatch h)
  have hp : G p = some (.lst [.tup (eWs v0)]) := hp
  cases ho
  walk_at "dd"
  refine w_ixL hp (atI_nat (j := 0) rfl) ?_
  walk_at "dd"
  exact Less.of q
abbrev N_p_dip_does : List Str := ["held", "x", "p"]
abbrev A_p_dip_does : List Str := ["held"]
theorem sc_p_dip_does : FnScope N_p_dip_does A_p_dip_does (defScope s_p_dip_does) := ⟨rfl, rfl, rfl, by decide +kernel, rfl, by decide +kernel, by decide +kernel⟩
theorem h_p_dip_does (a : At K mg "dip_does" s_p_dip_does A_p_dip_does) (B : BI mg) : Has P w K mg base 2 "dip_does" A_p_dip_does (SP_dm .dip) := by
  refine at_mk a sc_p_dip_does fun f cdv A outer s H E hr ds G R hl h => ?_
  refine ⟨_, (dss_cons (ds_asg (dv 0) (dg_lst rfl (dgs_cons (dg_name (i := 1) sc_p_dip_does.nd rfl (.inl rfl)) (dgs_cons (dg_name (i := 2) sc_p_dip_does.nd rfl (.inl rfl)) dgs_nil))))
    (dss_one (ds_ret (de_tup (da_cons (de_tup da_nil) (da_cons (de_op od_add (dv 2) (de_tup (da_cons (de_tup (da_cons de_str (da_cons (dv 1) da_nil))) da_nil))) da_nil)))))), ?_⟩
  obtain ⟨p, ts, l, a, rfl, hp, hl', ho, gd, zs, q⟩ := h
  obtain ⟨x0, x1, rfl⟩ : ∃ x0 x1, ts = [x0, x1] := by
    match ts, hl' with
    | [a0, a1], _ => exact ⟨a0, a1, rfl⟩
  obtain ⟨v1, rfl⟩ : ∃ v, x1 = .row v := by
    cases x1 with
    | row v => exact ⟨v, rfl⟩
    | num v => exact absurd ho (by skip; exact fun h => nomatch h)
    | lst v => exact absurd ho (by skip; exact fun h => nomatch h)
  have hp : G p = some (.lst [eT x0, .tup (eWs v1)]) := hp
  cases ho
  walk_at "dd"
  refine ⟨p, _, rfl, .inl hp, rfl, ?_⟩
  walk_at "dd"
  have lw1 := szWs_len v1
  have zs' : (szT x0 + ((1 + szWs v1) + 0)) ≤ 400000 := zs
  refine w_addT (mid (by rw [eWs_len]; show v1.length + 1 ≤ 1000000; omega)) ?_
  walk_at "dd"
  rw [show eWs (v1 ++ [.push x0]) = eWs v1 ++ [.tup [.str "push", eT x0]] from by rw [eWs_map, eWs_map, List.map_append]; rfl] at q
  exact Less.of q
abbrev N_p_if_does : List Str := ["held", "n", "p", "q"]
abbrev A_p_if_does : List Str := ["held"]
theorem sc_p_if_does : FnScope N_p_if_does A_p_if_does (defScope s_p_if_does) := ⟨rfl, rfl, rfl, by decide +kernel, rfl, by decide +kernel, by decide +kernel⟩
theorem h_p_if_does (a : At K mg "if_does" s_p_if_does A_p_if_does) (B : BI mg) : Has P w K mg base 2 "if_does" A_p_if_does (SP_dm .if_) := by
  refine at_mk a sc_p_if_does fun f cdv A outer s H E hr ds G R hl h => ?_
  refine ⟨_, (dss_cons (ds_asg (dv 0) (dg_lst rfl (dgs_cons (dg_name (i := 1) sc_p_if_does.nd rfl (.inl rfl)) (dgs_cons (dg_name (i := 2) sc_p_if_does.nd rfl (.inl rfl)) (dgs_cons (dg_name (i := 3) sc_p_if_does.nd rfl (.inl rfl)) dgs_nil)))))
    (dss_one (ds_ret (de_tup (da_cons (de_tup da_nil) (da_cons (de_if (dt_cmp (od_ne hr.units) (dv 1) de_int (nomark _)) (dv 2) (dv 3)) da_nil)))))), ?_⟩
  obtain ⟨p, ts, l, a, rfl, hp, hl', ho, gd, zs, q⟩ := h
  obtain ⟨x0, x1, x2, rfl⟩ : ∃ x0 x1 x2, ts = [x0, x1, x2] := by
    match ts, hl' with
    | [a0, a1, a2], _ => exact ⟨a0, a1, a2, rfl⟩
  obtain ⟨v0, rfl⟩ : ∃ v, x0 = .num v := by
    cases x0 with
    | num v => exact ⟨v, rfl⟩
    | row v => exact absurd ho (by cases x1 <;> cases x2 <;> exact fun h => nomatch h)
    | lst v => exact absurd ho (by cases x1 <;> cases x2 <;> exact fun h => nomatch h)
  obtain ⟨v1, rfl⟩ : ∃ v, x1 = .row v := by
    cases x1 with
    | row v => exact ⟨v, rfl⟩
    | num v => exact absurd ho (by cases x2 <;> exact fun h => nomatch h)
    | lst v => exact absurd ho (by cases x2 <;> exact fun h => nomatch h)
  obtain ⟨v2, rfl⟩ : ∃ v, x2 = .row v := by
    cases x2 with
    | row v => exact ⟨v, rfl⟩
    | num v => exact absurd ho (by skip; exact fun h => nomatch h)
    | lst v => exact absurd ho (by skip; exact fun h => nomatch h)
  have hp : G p = some (.lst [.int v0, .tup (eWs v1), .tup (eWs v2)]) := hp
  cases ho
  walk_at "dd"
  refine ⟨p, _, rfl, .inl hp, rfl, ?_⟩
  walk_at "dd"
  by_cases h0 : v0 = 0
  · refine w_if0 (by rw [decide_eq_true h0]; rfl) ?_
    walk_at "dd"
    rw [if_pos h0] at q
    exact Less.of q
  · refine w_it (by rw [decide_eq_false h0]; rfl) ?_
    walk_at "dd"
    rw [if_neg h0] at q
    exact Less.of q
abbrev N_p_while_does : List Str := ["held", "p", "q", "again"]
abbrev A_p_while_does : List Str := ["held"]
theorem sc_p_while_does : FnScope N_p_while_does A_p_while_does (defScope s_p_while_does) := ⟨rfl, rfl, rfl, by decide +kernel, rfl, by decide +kernel, by decide +kernel⟩
theorem h_p_while_does (a : At K mg "while_does" s_p_while_does A_p_while_does) (B : BI mg) (c_p_push_row : Has P w K mg base 1 "push_row" A_p_push_row SP_pr) : Has P w K mg base 2 "while_does" A_p_while_does (SP_dm .while_) := by
  refine at_mk a sc_p_while_does fun f cdv A outer s H E hr ds G R hl h => ?_
  refine ⟨_, (dss_cons (ds_asg (dv 0) (dg_lst rfl (dgs_cons (dg_name (i := 1) sc_p_while_does.nd rfl (.inl rfl)) (dgs_cons (dg_name (i := 2) sc_p_while_does.nd rfl (.inl rfl)) dgs_nil))))
    (dss_cons (ds_set (i := 3) sc_p_while_does.nd rfl (.inl rfl) (de_op od_add (dv 2) (de_tup (da_cons (de_call c_p_push_row (hr.mono (by omega)) rfl (da_cons (dv 1) da_nil)) (da_cons (de_call c_p_push_row (hr.mono (by omega)) rfl (da_cons (dv 2) da_nil)) (da_cons de_str da_nil))))))
    (dss_one (ds_ret (de_tup (da_cons (de_tup da_nil) (da_cons (de_op od_add (dv 1) (de_tup (da_cons (de_call c_p_push_row (hr.mono (by omega)) rfl (da_cons (dv 3) da_nil)) (da_cons (de_call c_p_push_row (hr.mono (by omega)) rfl (da_cons (de_tup da_nil) da_nil)) (da_cons de_str da_nil))))) da_nil))))))), ?_⟩
  obtain ⟨p, ts, l, a, rfl, hp, hl', ho, gd, zs, q⟩ := h
  obtain ⟨x0, x1, rfl⟩ : ∃ x0 x1, ts = [x0, x1] := by
    match ts, hl' with
    | [a0, a1], _ => exact ⟨a0, a1, rfl⟩
  obtain ⟨v0, rfl⟩ : ∃ v, x0 = .row v := by
    cases x0 with
    | row v => exact ⟨v, rfl⟩
    | num v => exact absurd ho (by cases x1 <;> exact fun h => nomatch h)
    | lst v => exact absurd ho (by cases x1 <;> exact fun h => nomatch h)
  obtain ⟨v1, rfl⟩ : ∃ v, x1 = .row v := by
    cases x1 with
    | row v => exact ⟨v, rfl⟩
    | num v => exact absurd ho (by skip; exact fun h => nomatch h)
    | lst v => exact absurd ho (by skip; exact fun h => nomatch h)
  have hp : G p = some (.lst [.tup (eWs v0), .tup (eWs v1)]) := hp
  cases ho
  walk_at "dd"
  refine ⟨p, _, rfl, .inl hp, rfl, ?_⟩
  walk_at "dd"
  have lw0 := szWs_len v0
  have lw1 := szWs_len v1
  have zs' : ((1 + szWs v0) + ((1 + szWs v1) + 0)) ≤ 400000 := zs
  refine ⟨_, rfl, ?_⟩
  walk_at "dd"
  refine ⟨_, rfl, ?_⟩
  walk_at "dd"
  refine w_addT (mid (by rw [eWs_len]; show v1.length + 3 ≤ 1000000; omega)) ?_
  walk_at "dd"
  refine ⟨_, rfl, ?_⟩
  walk_at "dd"
  refine ⟨_, rfl, ?_⟩
  walk_at "dd"
  refine w_addT (mid (by rw [eWs_len]; show v0.length + 3 ≤ 1000000; omega)) ?_
  walk_at "dd"
  rw [show eWs (v0 ++ [.push (.row (v1 ++ [.push (.row v0), .push (.row v1), .txt "while"])), .push (.row []), .txt "if"]) = eWs v0 ++ [.tup [.str "push", .tup [.str "row", .tup (eWs v1 ++ [.tup [.str "push", .tup [.str "row", .tup (eWs v0)]], .tup [.str "push", .tup [.str "row", .tup (eWs v1)]], .str "while"])]], .tup [.str "push", .tup [.str "row", .tup []]], .str "if"] from by
    rw [eWs_map, List.map_append, ← eWs_map]
    show eWs v0 ++ [.tup [.str "push", .tup [.str "row", .tup (eWs (v1 ++ [.push (.row v0), .push (.row v1), .txt "while"]))]], _, _] = _
    rw [show eWs (v1 ++ [.push (.row v0), .push (.row v1), .txt "while"]) = eWs v1 ++ eWs [.push (.row v0), .push (.row v1), .txt "while"] from by rw [eWs_map, eWs_map, eWs_map, List.map_append]]
    rfl] at q
  exact Less.of q
abbrev N_p_repeat_does : List Str := ["held", "n", "p"]
abbrev A_p_repeat_does : List Str := ["held"]
theorem sc_p_repeat_does : FnScope N_p_repeat_does A_p_repeat_does (defScope s_p_repeat_does) := ⟨rfl, rfl, rfl, by decide +kernel, rfl, by decide +kernel, by decide +kernel⟩
theorem h_p_repeat_does (a : At K mg "repeat_does" s_p_repeat_does A_p_repeat_does) (B : BI mg) (c_p_push_row : Has P w K mg base 1 "push_row" A_p_push_row SP_pr) (c_p_number_thing : Has P w K mg base 1 "number_thing" A_p_number_thing SP_nt) : Has P w K mg base 2 "repeat_does" A_p_repeat_does (SP_dm .repeat_) := by
  refine at_mk a sc_p_repeat_does fun f cdv A outer s H E hr ds G R hl h => ?_
  refine ⟨_, (dss_cons (ds_asg (dv 0) (dg_lst rfl (dgs_cons (dg_name (i := 1) sc_p_repeat_does.nd rfl (.inl rfl)) (dgs_cons (dg_name (i := 2) sc_p_repeat_does.nd rfl (.inl rfl)) dgs_nil))))
    (dss_cons (ds_if (dt_cmp (od_eq hr.units) (dv 1) de_int (nomark _)) (dss_one (ds_ret (de_tup (da_cons (de_tup da_nil) (da_cons (de_tup da_nil) da_nil))))) dss_nil)
    (dss_one (ds_ret (de_tup (da_cons (de_tup da_nil) (da_cons (de_op od_add (dv 2) (de_tup (da_cons (de_tup (da_cons de_str (da_cons (de_call c_p_number_thing (hr.mono (by omega)) rfl (da_cons (de_op od_sub (dv 1) de_int) da_nil)) da_nil))) (da_cons (de_call c_p_push_row (hr.mono (by omega)) rfl (da_cons (dv 2) da_nil)) (da_cons de_str da_nil))))) da_nil))))))), ?_⟩
  obtain ⟨p, ts, l, a, rfl, hp, hl', ho, gd, zs, q⟩ := h
  obtain ⟨x0, x1, rfl⟩ : ∃ x0 x1, ts = [x0, x1] := by
    match ts, hl' with
    | [a0, a1], _ => exact ⟨a0, a1, rfl⟩
  obtain ⟨v0, rfl⟩ : ∃ v, x0 = .num v := by
    cases x0 with
    | num v => exact ⟨v, rfl⟩
    | row v => exact absurd ho (by cases x1 <;> exact fun h => nomatch h)
    | lst v => exact absurd ho (by cases x1 <;> exact fun h => nomatch h)
  obtain ⟨v1, rfl⟩ : ∃ v, x1 = .row v := by
    cases x1 with
    | row v => exact ⟨v, rfl⟩
    | num v => exact absurd ho (by skip; exact fun h => nomatch h)
    | lst v => exact absurd ho (by skip; exact fun h => nomatch h)
  have hp : G p = some (.lst [.int v0, .tup (eWs v1)]) := hp
  cases ho
  walk_at "dd"
  refine ⟨p, _, rfl, .inl hp, rfl, ?_⟩
  walk_at "dd"
  have g0 : NumOk v0 := gd.1
  have lw1 := szWs_len v1
  have zs' : (1 + ((1 + szWs v1) + 0)) ≤ 400000 := zs
  by_cases h0 : v0 = 0
  · refine w_it (decide_eq_true h0) ?_
    walk_at "dd"
    rw [if_pos h0] at q
    exact Less.of q
  refine w_if0 (decide_eq_false h0) ?_
  walk_at "dd"
  rw [if_neg h0] at q
  refine ⟨_, rfl, ?_⟩
  walk_at "dd"
  refine ⟨_, rfl, ?_⟩
  walk_at "dd"
  refine w_addT (mid (by rw [eWs_len]; show v1.length + 3 ≤ 1000000; omega)) ?_
  walk_at "dd"
  rw [show (v0 - 1) % 1000000000000 = v0 - 1 from Int.emod_eq_of_lt (by omega) (by omega)]
  rw [show eWs (v1 ++ [.push (.num (v0 - 1)), .push (.row v1), .txt "repeat"]) = eWs v1 ++ [.tup [.str "push", .tup [.str "number", .int (v0 - 1)]], .tup [.str "push", .tup [.str "row", .tup (eWs v1)]], .str "repeat"] from by rw [eWs_map, eWs_map, List.map_append, ← eWs_map]; rfl] at q
  exact Less.of q
abbrev N_p_join_does : List Str := ["held", "p", "q"]
abbrev A_p_join_does : List Str := ["held"]
theorem sc_p_join_does : FnScope N_p_join_does A_p_join_does (defScope s_p_join_does) := ⟨rfl, rfl, rfl, by decide +kernel, rfl, by decide +kernel, by decide +kernel⟩
theorem h_p_join_does (a : At K mg "join_does" s_p_join_does A_p_join_does) (B : BI mg) : Has P w K mg base 2 "join_does" A_p_join_does (SP_dm .join) := by
  refine at_mk a sc_p_join_does fun f cdv A outer s H E hr ds G R hl h => ?_
  refine ⟨_, (dss_cons (ds_asg (dv 0) (dg_lst rfl (dgs_cons (dg_name (i := 1) sc_p_join_does.nd rfl (.inl rfl)) (dgs_cons (dg_name (i := 2) sc_p_join_does.nd rfl (.inl rfl)) dgs_nil))))
    (dss_one (ds_ret (de_tup (da_cons (de_tup (da_cons (de_tup (da_cons de_str (da_cons (de_op od_add (dv 1) (dv 2)) da_nil))) da_nil)) (da_cons (de_tup da_nil) da_nil)))))), ?_⟩
  obtain ⟨p, ts, l, a, rfl, hp, hl', ho, gd, zs, q⟩ := h
  obtain ⟨x0, x1, rfl⟩ : ∃ x0 x1, ts = [x0, x1] := by
    match ts, hl' with
    | [a0, a1], _ => exact ⟨a0, a1, rfl⟩
  obtain ⟨v0, rfl⟩ : ∃ v, x0 = .row v := by
    cases x0 with
    | row v => exact ⟨v, rfl⟩
    | num v => exact absurd ho (by cases x1 <;> exact fun h => nomatch h)
    | lst v => exact absurd ho (by cases x1 <;> exact fun h => nomatch h)
  obtain ⟨v1, rfl⟩ : ∃ v, x1 = .row v := by
    cases x1 with
    | row v => exact ⟨v, rfl⟩
    | num v => exact absurd ho (by skip; exact fun h => nomatch h)
    | lst v => exact absurd ho (by skip; exact fun h => nomatch h)
  have hp : G p = some (.lst [.tup (eWs v0), .tup (eWs v1)]) := hp
  cases ho
  walk_at "dd"
  refine ⟨p, _, rfl, .inl hp, rfl, ?_⟩
  walk_at "dd"
  have lw0 := szWs_len v0
  have lw1 := szWs_len v1
  have zs' : ((1 + szWs v0) + ((1 + szWs v1) + 0)) ≤ 400000 := zs
  refine w_addT (mid (by rw [eWs_len, eWs_len]; omega)) ?_
  walk_at "dd"
  rw [show eTs [.row (v0 ++ v1)] = [.tup [.str "row", .tup (eWs v0 ++ eWs v1)]] from by show [DV.tup [.str "row", .tup (eWs (v0 ++ v1))]] = _; rw [eWs_map, eWs_map, eWs_map, List.map_append]] at q
  exact Less.of q
abbrev N_p_wrap_does : List Str := ["held"]
abbrev A_p_wrap_does : List Str := ["held"]
theorem sc_p_wrap_does : FnScope N_p_wrap_does A_p_wrap_does (defScope s_p_wrap_does) := ⟨rfl, rfl, rfl, by decide +kernel, rfl, by decide +kernel, by decide +kernel⟩
theorem h_p_wrap_does (a : At K mg "wrap_does" s_p_wrap_does A_p_wrap_does) (B : BI mg) : Has P w K mg base 2 "wrap_does" A_p_wrap_does (SP_dm .wrap) := by
  refine at_mk a sc_p_wrap_does fun f cdv A outer s H E hr ds G R hl h => ?_
  refine ⟨_, (dss_one (ds_ret (de_tup (da_cons (de_tup (da_cons (de_tup (da_cons de_str (da_cons (de_tup (da_cons (de_tup (da_cons de_str (da_cons (de_ix (dv 0) de_int) da_nil))) da_nil)) da_nil))) da_nil)) (da_cons (de_tup da_nil) da_nil))))), ?_⟩
  obtain ⟨p, ts, l, a, rfl, hp, hl', ho, gd, zs, q⟩ := h
  obtain ⟨x0, rfl⟩ : ∃ x0, ts = [x0] := by
    match ts, hl' with
    | [a0], _ => exact ⟨a0, rfl⟩
  have hp : G p = some (.lst [eT x0]) := hp
  cases ho
  walk_at "dd"
  refine w_ixL hp (atI_nat (j := 0) rfl) ?_
  walk_at "dd"
  exact Less.of q
abbrev N_p_put_does : List Str := ["held", "things", "x"]
abbrev A_p_put_does : List Str := ["held"]
theorem sc_p_put_does : FnScope N_p_put_does A_p_put_does (defScope s_p_put_does) := ⟨rfl, rfl, rfl, by decide +kernel, rfl, by decide +kernel, by decide +kernel⟩
theorem h_p_put_does (a : At K mg "put_does" s_p_put_does A_p_put_does) (B : BI mg) : Has P w K mg base 2 "put_does" A_p_put_does (SP_dm .put) := by
  refine at_mk a sc_p_put_does fun f cdv A outer s H E hr ds G R hl h => ?_
  refine ⟨_, (dss_cons (ds_asg (dv 0) (dg_lst rfl (dgs_cons (dg_name (i := 1) sc_p_put_does.nd rfl (.inl rfl)) (dgs_cons (dg_name (i := 2) sc_p_put_does.nd rfl (.inl rfl)) dgs_nil))))
    (dss_one (ds_ret (de_tup (da_cons (de_tup (da_cons (de_tup (da_cons de_str (da_cons (de_op od_add (dv 1) (de_tup (da_cons (dv 2) da_nil))) da_nil))) da_nil)) (da_cons (de_tup da_nil) da_nil)))))), ?_⟩
  obtain ⟨p, ts, l, a, rfl, hp, hl', ho, gd, zs, q⟩ := h
  obtain ⟨x0, x1, rfl⟩ : ∃ x0 x1, ts = [x0, x1] := by
    match ts, hl' with
    | [a0, a1], _ => exact ⟨a0, a1, rfl⟩
  obtain ⟨v0, rfl⟩ : ∃ v, x0 = .lst v := by
    cases x0 with
    | lst v => exact ⟨v, rfl⟩
    | num v => exact absurd ho (by skip; exact fun h => nomatch h)
    | row v => exact absurd ho (by skip; exact fun h => nomatch h)
  have hp : G p = some (.lst [.tup (eTs v0), eT x1]) := hp
  cases ho
  walk_at "dd"
  refine ⟨p, _, rfl, .inl hp, rfl, ?_⟩
  walk_at "dd"
  have lt0 := szTs_len v0
  have zs' : ((1 + szTs v0) + (szT x1 + 0)) ≤ 400000 := zs
  refine w_addT (mid (by rw [eTs_len]; show v0.length + 1 ≤ 1000000; omega)) ?_
  walk_at "dd"
  rw [show eTs [.lst (v0 ++ [x1])] = [.tup [.str "list", .tup (eTs v0 ++ [eT x1])]] from by show [DV.tup [.str "list", .tup (eTs (v0 ++ [x1]))]] = _; rw [eTs_map, eTs_map, List.map_append]; rfl] at q
  exact Less.of q
abbrev N_p_part_does : List Str := ["held", "things", "p", "q"]
abbrev A_p_part_does : List Str := ["held"]
theorem sc_p_part_does : FnScope N_p_part_does A_p_part_does (defScope s_p_part_does) := ⟨rfl, rfl, rfl, by decide +kernel, rfl, by decide +kernel, by decide +kernel⟩
theorem h_p_part_does (a : At K mg "part_does" s_p_part_does A_p_part_does) (B : BI mg) : Has P w K mg base 2 "part_does" A_p_part_does (SP_dm .part) := by
  refine at_mk a sc_p_part_does fun f cdv A outer s H E hr ds G R hl h => ?_
  refine ⟨_, (dss_cons (ds_asg (dv 0) (dg_lst rfl (dgs_cons (dg_name (i := 1) sc_p_part_does.nd rfl (.inl rfl)) (dgs_cons (dg_name (i := 2) sc_p_part_does.nd rfl (.inl rfl)) (dgs_cons (dg_name (i := 3) sc_p_part_does.nd rfl (.inl rfl)) dgs_nil)))))
    (dss_cons (ds_if (dt_cmp (od_eq hr.units) (de_callB cd_len B.len rfl (by decide +kernel) (da_cons (dv 1) da_nil)) de_int (nomark _)) (dss_one (ds_ret (de_tup (da_cons (de_tup da_nil) (da_cons (dv 3) da_nil))))) dss_nil)
    (dss_one (ds_ret (de_tup (da_cons (de_tup (da_cons (de_ix (dv 1) de_int) (da_cons (de_tup (da_cons de_str (da_cons (de_slice (dv 1) (do_some de_int) do_none) da_nil))) da_nil))) (da_cons (dv 2) da_nil))))))), ?_⟩
  obtain ⟨p, ts, l, a, rfl, hp, hl', ho, gd, zs, q⟩ := h
  obtain ⟨x0, x1, x2, rfl⟩ : ∃ x0 x1 x2, ts = [x0, x1, x2] := by
    match ts, hl' with
    | [a0, a1, a2], _ => exact ⟨a0, a1, a2, rfl⟩
  obtain ⟨v0, rfl⟩ : ∃ v, x0 = .lst v := by
    cases x0 with
    | lst v => exact ⟨v, rfl⟩
    | num v => exact absurd ho (by cases x1 <;> cases x2 <;> exact fun h => nomatch h)
    | row v => exact absurd ho (by cases x1 <;> cases x2 <;> exact fun h => nomatch h)
  obtain ⟨v1, rfl⟩ : ∃ v, x1 = .row v := by
    cases x1 with
    | row v => exact ⟨v, rfl⟩
    | num v => exact absurd ho (by cases x2 <;> exact fun h => nomatch h)
    | lst v => exact absurd ho (by cases x2 <;> exact fun h => nomatch h)
  obtain ⟨v2, rfl⟩ : ∃ v, x2 = .row v := by
    cases x2 with
    | row v => exact ⟨v, rfl⟩
    | num v => exact absurd ho (by skip; exact fun h => nomatch h)
    | lst v => exact absurd ho (by skip; exact fun h => nomatch h)
  have hp : G p = some (.lst [.tup (eTs v0), .tup (eWs v1), .tup (eWs v2)]) := hp
  walk_at "dd"
  refine ⟨p, _, rfl, .inl hp, rfl, ?_⟩
  walk_at "dd"
  rcases v0 with _ | ⟨y0, v0⟩
  · cases ho
    refine w_it rfl ?_
    walk_at "dd"
    exact Less.of q
  cases ho
  refine w_if0 (decide_eq_false (by rw [eTs_len, List.length_cons]; omega)) ?_
  walk_at "dd"
  rw [show cutD (eTs (y0 :: v0)) (some 1) none = eTs v0 from cutD_from (eTs (y0 :: v0)) 1]
  exact Less.of q
abbrev N_p_each_does : List Str := ["held", "things", "p"]
abbrev A_p_each_does : List Str := ["held"]
theorem sc_p_each_does : FnScope N_p_each_does A_p_each_does (defScope s_p_each_does) := ⟨rfl, rfl, rfl, by decide +kernel, rfl, by decide +kernel, by decide +kernel⟩
theorem h_p_each_does (a : At K mg "each_does" s_p_each_does A_p_each_does) (B : BI mg) (c_p_push_row : Has P w K mg base 1 "push_row" A_p_push_row SP_pr) : Has P w K mg base 2 "each_does" A_p_each_does (SP_dm .each) := by
  refine at_mk a sc_p_each_does fun f cdv A outer s H E hr ds G R hl h => ?_
  refine ⟨_, (dss_cons (ds_asg (dv 0) (dg_lst rfl (dgs_cons (dg_name (i := 1) sc_p_each_does.nd rfl (.inl rfl)) (dgs_cons (dg_name (i := 2) sc_p_each_does.nd rfl (.inl rfl)) dgs_nil))))
    (dss_cons (ds_if (dt_cmp (od_eq hr.units) (de_callB cd_len B.len rfl (by decide +kernel) (da_cons (dv 1) da_nil)) de_int (nomark _)) (dss_one (ds_ret (de_tup (da_cons (de_tup da_nil) (da_cons (de_tup da_nil) da_nil))))) dss_nil)
    (dss_one (ds_ret (de_tup (da_cons (de_tup (da_cons (de_ix (dv 1) de_int) da_nil)) (da_cons (de_op od_add (dv 2) (de_tup (da_cons (de_tup (da_cons de_str (da_cons (de_tup (da_cons de_str (da_cons (de_slice (dv 1) (do_some de_int) do_none) da_nil))) da_nil))) (da_cons (de_call c_p_push_row (hr.mono (by omega)) rfl (da_cons (dv 2) da_nil)) (da_cons de_str da_nil))))) da_nil))))))), ?_⟩
  obtain ⟨p, ts, l, a, rfl, hp, hl', ho, gd, zs, q⟩ := h
  obtain ⟨x0, x1, rfl⟩ : ∃ x0 x1, ts = [x0, x1] := by
    match ts, hl' with
    | [a0, a1], _ => exact ⟨a0, a1, rfl⟩
  obtain ⟨v0, rfl⟩ : ∃ v, x0 = .lst v := by
    cases x0 with
    | lst v => exact ⟨v, rfl⟩
    | num v => exact absurd ho (by cases x1 <;> exact fun h => nomatch h)
    | row v => exact absurd ho (by cases x1 <;> exact fun h => nomatch h)
  obtain ⟨v1, rfl⟩ : ∃ v, x1 = .row v := by
    cases x1 with
    | row v => exact ⟨v, rfl⟩
    | num v => exact absurd ho (by skip; exact fun h => nomatch h)
    | lst v => exact absurd ho (by skip; exact fun h => nomatch h)
  have hp : G p = some (.lst [.tup (eTs v0), .tup (eWs v1)]) := hp
  walk_at "dd"
  refine ⟨p, _, rfl, .inl hp, rfl, ?_⟩
  walk_at "dd"
  have lw1 := szWs_len v1
  have zs' : ((1 + szTs v0) + ((1 + szWs v1) + 0)) ≤ 400000 := zs
  rcases v0 with _ | ⟨y0, v0⟩
  · cases ho
    refine w_it rfl ?_
    walk_at "dd"
    exact Less.of q
  cases ho
  refine w_if0 (decide_eq_false (by rw [eTs_len, List.length_cons]; omega)) ?_
  walk_at "dd"
  rw [show cutD (eTs (y0 :: v0)) (some 1) none = eTs v0 from cutD_from (eTs (y0 :: v0)) 1]
  refine ⟨_, rfl, ?_⟩
  walk_at "dd"
  refine w_addT (mid (by rw [eWs_len]; show v1.length + 3 ≤ 1000000; omega)) ?_
  walk_at "dd"
  rw [show eWs (v1 ++ [.push (.lst v0), .push (.row v1), .txt "each"]) = eWs v1 ++ [.tup [.str "push", .tup [.str "list", .tup (eTs v0)]], .tup [.str "push", .tup [.str "row", .tup (eWs v1)]], .str "each"] from by rw [eWs_map, eWs_map, List.map_append, ← eWs_map]; rfl] at q
  exact Less.of q
end
end K14
/-! the items of a module's dict with text keys: texts, tuples of texts, defs -/
namespace DD
open PySem PySem.W L2 SX Cm
/-- the dict at d holds r for the text z -/
def ItK (K : Frag) (w : World) (d : Addr) (z : Str) (r : DV) : Prop := ∃ v, KDct K w d z v ∧ ∀ H, RV K H v r
theorem itK_ref {K : Frag} {w : World} {d f : Addr} {es : Array DictEntry} {n : Nat} {z : Str} (l : K.lookup d = some ⟨.type "dict", none, .dict es n, #[]⟩) (lit : KeysLit w.params es.toList) (h : nsIn K d z = some (some (.ref f))) : ItK K w d z (.ref f) :=
  ⟨.ref f, ⟨es, n, _, l, lit, h, rfl⟩, fun H => .ref f⟩
def txsV : List Value → Option (List Str)
  | [] => some []
  | .str x _ :: r => (txsV r).map fun l => x :: l
  | _ => none
theorem txsV_ok {K : Frag} : ∀ {us : List Value} {xs : List Str}, txsV us = some xs → Vals (xs.map V.str) us
  | [], xs, h => by cases h; exact .nil
  | u :: r, xs, h => by
    cases u with
    | str x t =>
      have h' : (txsV r).map (fun l => x :: l) = some xs := h
      cases e : txsV r with
      | none => rw [e] at h'; cases h'
      | some l => rw [e] at h'; cases h'; exact .cons ⟨_, rfl⟩ (txsV_ok (K := K) e)
    | _ => cases h
/-- what stands in the dict at d for z: a tuple of texts -/
def itTx (K : Frag) (d : Addr) (z : Str) : Option (List Str) := match nsIn K d z with
  | some (some (.ref t)) => match K.lookup t with
    | some ⟨.type c, _, .seq its _, _⟩ => if c = "tuple" ∧ its.size ≤ 1000 then txsV its.toList else none
    | _ => none
  | _ => none
theorem itK_tx {K : Frag} {w : World} {d : Addr} {es : Array DictEntry} {n : Nat} {z : Str} {xs : List Str} (l : K.lookup d = some ⟨.type "dict", none, .dict es n, #[]⟩) (lit : KeysLit w.params es.toList) (h : itTx K d z = some xs) : ItK K w d z (.tup (xs.map .str)) := by
  unfold itTx at h
  split at h
  · rename_i t e
    cases e2 : K.lookup t with
    | none => rw [e2] at h; cases h
    | some o =>
      rw [e2] at h
      obtain ⟨oc, od, dt, sl⟩ := o
      cases oc with
      | type c =>
        cases dt with
        | seq its n2 =>
          have h' : (if c = "tuple" ∧ its.size ≤ 1000 then txsV its.toList else none) = some xs := h
          by_cases hc : c = "tuple" ∧ its.size ≤ 1000
          · rw [if_pos hc] at h'
            obtain ⟨rfl, hz⟩ := hc
            refine ⟨.ref t, ⟨es, n, _, l, lit, e, rfl⟩, fun H => .tup (xs := xs.map V.str) (.inr ⟨_, its, n2, e2, rfl, rfl, Nat.le_of_lt (small1000 hz), txsV_ok (K := K) h'⟩) (RVs.strs' xs)⟩
          · rw [if_neg hc] at h'; cases h'
        | _ => cases h
      | _ => cases h
  · cases h
section
variable {X : Cx} {d : Addr}
def bIxI (K : Frag) (w : World) : D2 := fun x y G Q => ∃ d z r, x = .ref d ∧ y = .str z ∧ ItK K w d z r ∧ Q r G
theorem de_kit {e1 e2 : Expr} {ta tb : TD} {pos : Pos} (ha : DE X e1 ta) (hb : DE X e2 tb) (hs : PlainIx e2 := by exact fun _ _ => rfl) : DE X (.Subscript e1 e2 pos) (dOp (bIxI X.K X.w) ta tb) := by
  refine PE_mono (pe_ix (ix_kdict (X := X)) ha hb hs) fun σ H Q h => bin_up (r := rIxD X.K X.w) (fun x y vx vy H G R Q rx ry w h f => ?_) h
  obtain ⟨d, z, r, rfl, rfl, ⟨v, k, rv⟩, q⟩ := h
  cases rx
  cases ry
  exact ⟨d, z, v, rfl, rfl, k, f _ _ _ _ q (TKs.refl H) w (rv H)⟩
theorem w_kit {K : Frag} {w : World} {z : Str} {r : DV} {G : DG} {Q : DK} (e : ItK K w d z r) (h : Q r G) : bIxI K w (.ref d) (.str z) G Q := ⟨d, z, r, rfl, rfl, e, h⟩
end
end DD
/-! a def whose last parameter is None where it is left out; two outcomes; if within try -/
namespace DD
open PySem PySem.W L2 SX Cm
/-- the def nm, None its last parameter's default, keeps a promise of two outcomes -/
def HasXD (P : Program) (w : World) (K : Frag) (mg : Str → Option Value) (base : Heap) (k : Nat) (nm : Str) (ps : List Str) (dsp : DSpX) : Prop :=
  HasX P w K mg base k nm ps dsp ∧ ∃ f fd ds, FnOk P w K mg base (L2.CX P w) k f fd ps (toSpX K ps.length dsp) ∧ L2.Binds K fd ps ds ∧ Vals [V.non] ds ∧ keepIn K (.ref f) = true ∧ mg nm = some (.ref f)
def AtD (K : Frag) (mg : Str → Option Value) (nm : Str) (st : Stmt) (ps : List Str) : Prop :=
  ∃ f fd, FunD K nm nm (defArgs st) (defBody st) (defScope st) [V.non] [] f fd ∧ L2.Binds K fd ps [] ∧ (∃ ds, Vals [V.non] ds ∧ L2.Binds K fd ps ds) ∧ mg nm = some (.ref f)
section
variable {P : Program} {w : World} {K : Frag} {mg : Str → Option Value} {base : Heap}
theorem atxd_mk {nm : Str} {st : Stmt} {N ps : List Str} {k : Nat} {dsp : DSpX} (a : AtD K mg nm st ps) (S : FnScope N ps (defScope st))
    (body : ∀ (f : Addr) (cdv : Value) (A : Around) (outer : List Env) (s : Shared) (H : Hp) (E : XK), Room k (A.deeper (PyProof.Rows.envOfC nm (defScope st) s.heap.objs.size f cdv)) → ∀ ds G R RX, ds.length = ps.length → FinX K H (LessX RX) E → dsp ds G R RX →
      ∃ t, DSs (cxOf (L2.CX P w) P w K mg base N nm (defScope st) f cdv A outer s H E) (defBody st) t ∧ t { nx := fun _ G => Less R .non G, rt := Less R } (dstart N ds) G) : HasXD P w K mg base (k + 1) nm ps dsp := by
  obtain ⟨f, fd, F, b, ⟨ds0, v0, b0⟩, m⟩ := a
  have O : FnOk P w K mg base (L2.CX P w) (k + 1) f fd ps (toSpX K ps.length dsp) := by
    refine F.ok S (fun vs H Q E h => ?_) (fun cdv A outer s H vs Q E hr h => ?_)
    · obtain ⟨ds, G, R, RX, r, w, l, _⟩ := h
      rw [r.len]; exact l
    · obtain ⟨ds, G, R, RX, r, wd, l, h, fin, fx⟩ := h
      obtain ⟨t, h1, h2⟩ := body f cdv A outer s H E hr ds G R RX l fx.less h
      exact ⟨_, h1, _, _, G, sl_start r, wd, links_def fin, h2⟩
  refine ⟨⟨f, fd, O, b, F.kp, m, ?_⟩, f, fd, ds0, O, b0, v0, F.kp, m⟩
  obtain ⟨oc, od, dV, kV, doc, pm, an, cdv, ct, osl, rfl, lk, hcd, _, _⟩ := F.ex
  exact ⟨oc, od, osl, lk⟩
end
end DD
/-! list comprehensions out of whose elements an error may come -/
namespace L2
open PySem PySem.Spec PyProof.Rows
/-- behind a comprehension's block: the value is used, or the error goes on; ce: the block's own environment -/
def PostX (M : Model) (A : Around) (E : Value → Shared → Prop) (use : Option (Value → Sem Unit)) (Q : Value → Shared → Prop) (acc : Value) (ce : Env) : Result → Shared → Prop
  | .ok f, s' => compPost M A E use Q acc ce.locals (.ok f) s'
  | .error x, s' => ∃ m, s'.heap.Ns ce.locals m ∧ ∀ h', Heap.SameBut ce.locals s'.heap h' → wpAny M A (passOn "comprehension.variables-let-go" x ce : Sem Value) (fun _ _ => False) E { s' with heap := h' }
theorem comp_open {M : Model} {A : Around} {E : Value → Shared → Prop} {s : Shared} {env : Env} {e : Expr} {sc : Scope} {pos : Pos} {mk fst : Sem Value} {g : Comprehension} {gs : List Comprehension} {cl : List (Str × Addr)} {use : Option (Value → Sem Unit)} {Q : Value → Shared → Prop}
    (k1 : clausesOf e = g :: gs) (k2 : ∀ x, foldedSetIterable g.iter env x = pure x) (k3 : closureFor sc env = pure cl) (k4 : sc.kind = .function) (k5 : ∀ x ∈ sc.names, x.2 = .local → sc.names.lookup x.1 = some .local)
    (k : wpAny M A fst (fun x t1 => wpAny M A (pyIter x) (fun it t2 => wpAny M A mk (fun acc t3 => wpAny M A (newFunctionEnv sc env.globals cl [] env.qual none .none (some env)) (fun ce t4 =>
      codeAny M A (.compStart e 0 it acc { ce with scope := relabel sc env }) (PostX M A E use Q acc { ce with scope := relabel sc env }) t4) E t3) E t2) E t1) E s) :
    wpAny M A (comprehension e sc env pos mk false fst use) Q E s := by
  unfold comprehension
  rw [k3, k1]
  have id' : ∀ (a : Value) (t : Shared), E a t → E a t := fun _ _ z => z
  refine wpAny_bind (wpAny_mono k (fun x t1 q1 => ?_) id')
  refine wpAny_bind (wpAny_standAt (wpAny_bind (wpAny_of_eq (k2 x) ?_)))
  refine wpAny_bind (wpAny_holding (wpAny_mono q1 (fun it t2 q2 => ?_) id'))
  refine wpAny_standIf (wpAny_bind (wpAny_mono q2 (fun acc t3 q3 => ?_) id'))
  refine wpAny_bind (wpAny_pure (wpAny_bind (wpAny_mono q3 (fun ce t4 q4 => ?_) id')))
  dsimp only
  have loc : ∀ y : Str × NameKind, y ∈ (sc.names.filter fun y => (y.2 == .local || y.2 == .cell) && y.1 != (".0" : Str)) → y.2 = .local → Env.kindOf { ce with scope := relabel sc env } y.1 = some .local := fun y hy hl =>
    lookup_relabel_local (k5 y (List.mem_filter.mp hy).1 hl)
  have loc1 : ∀ y : Str × NameKind, y ∈ (sc.names.filter fun y => (y.2 == .local || y.2 == .cell) && y.1 != (".0" : Str)).reverse → y.2 = .local → Env.kindOf { ce with scope := relabel sc env } y.1 = some .local := fun y hy hl =>
    loc y (List.mem_reverse.mp hy) hl
  refine wpAny_holding (wpAny_bind (wpAny_attempt (wpAny_holding (wpAny_run (codeAny_mono q4 fun r s' hr => ?_)))))
  cases r with
  | error x =>
    obtain ⟨m, n1, n2⟩ := hr
    refine wpAny_bind (wpAny_holding (wpAny_comp_letGo (cenv := { ce with scope := relabel sc env }) k4 _ s' m loc1 n1 fun h' m' _ sb => ?_))
    exact wpAny_mono (n2 h' sb) (fun _ _ z => z.elim) id'
  | ok f =>
    cases use with
    | none =>
      obtain ⟨m, n1, n2⟩ := hr
      refine wpAny_bind (wpAny_holding (wpAny_comp_letGo (cenv := { ce with scope := relabel sc env }) k4 _ s' m loc1 n1 fun h' m' _ sb => ?_))
      exact wpAny_pure (n2 h' sb)
    | some u =>
      refine wpAny_bind (wpAny_rule (wpAny_bind (wpAny_holding (wpAny_mono hr (fun _ s'' q => ?_) id'))))
      obtain ⟨m, n1, n2⟩ := q
      refine wpAny_bind (wpAny_comp_letGo (cenv := { ce with scope := relabel sc env }) k4 _ s'' m (fun y hy hl => ?_) n1 fun h' m' _ sb => wpAny_pure (n2 h' sb))
      rcases List.mem_append.mp hy with z | z
      · exact loc1 y (List.mem_of_mem_drop z) hl
      · exact loc1 y (List.mem_of_mem_take z) hl
theorem ns_dict {h : Heap} {C : Addr} {m : Str → Option Value} (n : h.Ns C m) : ∃ o, h.get? C = some o ∧ ∀ vs, o.data ≠ .fields vs := by
  obtain ⟨o, es, ep, ho, hd, _⟩ := n
  exact ⟨o, ho, fun vs z => by rw [hd] at z; cases z⟩
theorem ns_up {h h' : Heap} {C : Addr} {m : Str → Option Value} (n : h.Ns C m) (u : h.UpToSlots h') : h'.Ns C m := by
  obtain ⟨o, es, ep, ho, hd, r⟩ := n
  obtain ⟨sl, e⟩ := u C o ho fun vs z => by rw [hd] at z; cases z
  exact ⟨_, es, ep, e, hd, r⟩
section
variable {X : Cx} {pins : List (Addr × Obj)} {σ : St} {H : Hp} {s s' : Shared} {E : XK}
/-- an error that a call in the block at C let out -/
theorem fly_on {ce : Env} {C : Addr} {m : Str → Option Value} {use : Option (Value → Sem Unit)} {Qf : Value → Shared → Prop} {acc u : Value} (hs : X.stack = X.env :: X.outer) (hf : X.env.frame = some X.env.locals) (tk : Takes X (fun cls d _ H => E cls d H)) (I : Inv X pins σ H s)
    (eL : ce.locals = C) (eF : ce.frame = X.env.frame) (hC : FpOk X [] H C) (hn : s.heap.Ns C m) (c : CX X.prog X.w X.stack H s E u s') :
    notedBy (model X.prog X.w) X.A ce (fun x t => PostX (model X.prog X.w) X.A X.xe use Qf acc ce (.error x) t) u s' := by
  obtain ⟨c0, c1, c2, c3, c4, c5⟩ := hC
  obtain ⟨a, B, H', cls, d, rfl, fl, hok, ub, na, os, ag, hE⟩ := id c
  obtain ⟨o, ho, hod⟩ := ns_dict hn
  have cF : C ∉ frs X.stack := fun z => (List.mem_cons.mp (I.stkSub C z)).elim c1 c2
  have n1 : s'.heap.Ns C m := by
    obtain ⟨o', es, ep, ho', r⟩ := hn
    exact ⟨o', es, ep, fl.1 _ _ (ub.keep C o' ho' c0 cF), r⟩
  have cx2 : CX X.prog X.w X.stack H s (fun cls d G => E cls d G ∧ G C = none) (.ref a) s' := ⟨a, B, H', cls, d, rfl, fl, hok, ub, na, os, ag, hE, ub.free C o ho c0⟩
  obtain ⟨a', B1, sI, pins1, σ1, H1, cls1, d1, ea, J, nb, up, sky, na1, os1, ag1, hE1, hC1⟩ := XE.of_call (W := fun cls d _ G => E cls d G ∧ G C = none) I (fun _ _ _ z => z) cx2
  cases ea
  have hfr : X.A.frames = some (X.env :: X.outer) := by rw [I.ok.frames, hs]
  -- what follows the note
  have behind : ∀ h1, HandSPX.HeldZ B1 X.stack a (Zc cls1 d1) X.env.locals h1 → s'.heap.UpToSlots h1 → PostX (model X.prog X.w) X.A X.xe use Qf acc ce (.error (.ref a)) { s' with heap := h1 } := fun h1 held up1 => by
    refine ⟨m, by rw [eL]; exact ns_up n1 up1, fun h2 sb => ?_⟩
    rw [eL] at sb
    obtain ⟨f1, f2, f3, oe, vs, T, oT, ts, t1, t2, t3, t4, t5, t6, t7, t8, t9⟩ := held
    obtain ⟨oC, hoC, hdC⟩ := ns_dict (ns_up n1 up1)
    have aC : a ≠ C := fun z => by rw [z] at t1; rw [hoC] at t1; cases t1; exact hdC _ t3
    have TC : T ≠ C := fun z => by rw [z] at t7; rw [hoC] at t7; cases t7; exact hdC _ t8
    have hB : ∀ b o, (PySem.W.hideAll B1 [C]).get? b = some o → b ≠ C ∧ B1.get? b = some o := fun b o e => by
      refine ⟨fun z => ?_, PySem.W.of_hideAll _ e⟩
      rw [z, PySem.W.hideAll_none [C] (List.mem_singleton.mpr rfl)] at e; cases e
    have none' : ∀ b, B1.get? b = none → (PySem.W.hideAll B1 [C]).get? b = none := fun b e => by
      cases q : (PySem.W.hideAll B1 [C]).get? b with
      | none => rfl
      | some o => rw [(hB b o q).2] at e; cases e
    have st2 : (PySem.W.hideAll B1 [C]).StaysIn h2 := fun b o e => (sb.2 b (hB b o e).1).trans (f1 b o (hB b o e).2)
    have ff2 : h2.FunFrames (PySem.W.hideAll B1 [C]) X.stack := by
      have gen : ∀ l : List Env, (∀ b ∈ l.filterMap (·.frame), b ≠ C) → h1.FunFrames B1 l → h2.FunFrames (PySem.W.hideAll B1 [C]) l := by
        intro l
        induction l with
        | nil => intro _ _; trivial
        | cons v r ih =>
          intro hne ⟨g1, ⟨L, o, g2, g3, g4, g5⟩, g6⟩
          have hm : ∀ b ∈ r.filterMap (·.frame), b ≠ C := fun b hb => hne b (by rw [List.filterMap_cons, g2]; exact List.mem_cons_of_mem _ hb)
          refine ⟨g1, ⟨L, o, g2, none' L g3, (sb.2 L (hne L ?_)).trans g4, g5⟩, ih hm g6⟩
          rw [List.filterMap_cons, g2]; exact List.mem_cons_self ..
      exact gen X.stack (fun b hb z => cF (by rw [← z]; exact hb)) f3
    have tr2 : HandSPX.TracedZ h2 (PySem.W.hideAll B1 [C]) a (Zc cls1 d1) (rawInt X.env.locals) := ⟨oe, vs, T, oT, ts, (sb.2 a aC).trans t1, t2, t3, t4, none' T t5, t6, (sb.2 T TC).trans t7, t8, t9⟩
    unfold PySem.passOn
    refine wpAny_bind (wpAny_field (s := { s' with heap := h2 }) ((sb.2 a aC).trans t1) t3 t4 ?_)
    rw [if_neg (by simp)]
    refine wpAny_bind (HandSPX.setFlight_anyZ (s := { s' with heap := h2 }) st2 ff2 tr2 fun h3 k1 k2 k3 k4 => wpAny_throw ?_)
    rw [eF, hf] at k3
    have J' : Inv X [] σ1 H1 { sI with heap := PySem.W.hideAll sI.heap [C] } :=
      (Inv.unpinned (pins := []) J).turned (it := C) (t' := sI.toks) (fun b o hb e => PySem.W.hideAll_get [C] e (fun z => hb (List.mem_singleton.mp z))) hC1 c1 c3 c4 c5
    have hI : ∀ b o, (PySem.W.hideAll sI.heap [C]).get? b = some o → b ≠ C ∧ sI.heap.get? b = some o := fun b o e => by
      refine ⟨fun z => ?_, PySem.W.of_hideAll _ e⟩
      rw [z, PySem.W.hideAll_none [C] (List.mem_singleton.mpr rfl)] at e; cases e
    refine tk _ _ ⟨a, PySem.W.hideAll B1 [C], { sI with heap := PySem.W.hideAll sI.heap [C] }, [], σ1, H1, cls1, d1, rfl, J', fun b o e hb => ?_, fun b o e hnf => ?_, .inr (.inr ⟨k1, none' a f2, k2, k3⟩), na1, os1, ag1, hE1⟩
    · exact PySem.W.hideAll_get [C] (nb b o (hI b o e).2 hb) fun z => (hI b o e).1 (List.mem_singleton.mp z)
    · obtain ⟨bC, e1⟩ := hI b o e
      obtain ⟨sl1, e2⟩ := up b o e1 hnf
      obtain ⟨sl2, e3⟩ := up1 b _ e2 hnf
      obtain ⟨sl3, e4⟩ := k4 b _ ((sb.2 b bC).trans e3) hnf
      exact ⟨sl3, e4⟩
  have same : noteFrame (.ref a) ce = noteFrame (.ref a) X.env := by unfold noteFrame PySem.frameOf; rw [eF]
  show wpAny _ X.A (noteFrame (.ref a) ce) _ _ s'
  rw [same]
  rw [hs] at sky behind
  rcases sky with ⟨g1, g2, g3, oe, vs, g4, g5, g6, g7⟩ | fl1 | held
  · exact HandSPX.look_newZ Zc.steady hfr g3 hf g4 g1 g2 g6 g7 g5 behind
  · exact HandSPX.looks_onZ Zc.steady hfr hf fl1 behind
  · exact HandSPX.againZ hf held.2.2.2 (behind s'.heap held (Heap.UpToSlots.refl _))
end
end L2
namespace L2
open PySem PySem.Spec PyProof.Rows
open DD (inv_tks)
section
variable {X : Cx} {E : XK}
/-- what an element's expression is to keep, an error of E let out by a call in it -/
def ElX (X : Cx) (E : XK) (sc : Scope) (e : Expr) (t : TE) : Prop := ∀ (s : Shared) (H : Hp) (C : Addr) (cl : List (Str × Addr)) (fp : List Addr) (pn : List (Addr × Obj)) (xe : Value → Shared → Prop), Cm.TKs X.K X.H_0 H →
  Passes (CX X.prog X.w) ((X.blk s H sc (compEnvC sc cl C X.env) fp).tr pn xe) E → PE ((X.blk s H sc (compEnvC sc cl C X.env) fp).tr pn xe) e t
theorem lcx_core {pins : List (Addr × Obj)} {s : Shared} {σ : St} {H : Hp} {Q : VK} {elt tg iter : Expr} {ifs : List Expr} {sc : Scope} {own : List (Str × Nat)} {pos pos' : Pos} {wi : TI} {g : TG} {tt : TT} {te : TE} {use : Option (Value → Sem Unit)} {Qf : Value → Shared → Prop}
    (a1 : X.stack = X.env :: X.outer) (a2 : X.env.frame = some X.env.locals) (tk : Takes X (fun cls d _ H => E cls d H)) (hc : X.calm = true) (hN : X.N.Nodup) (I : Inv X pins σ H s) (hi : PI X tg iter wi) (ok : BlkOk X.N X.env.scope sc own)
    (hg : ∀ s H C cl fp, PG (X.blk s H sc (compEnvC sc cl C X.env) fp) tg g) (ht : ∀ s H C cl fp, PTs (X.blk s H sc (compEnvC sc cl C X.env) fp) ifs tt) (he : ElX X E sc elt te) (hs : ∀ x, foldedSetIterable iter X.env x = pure x)
    (h : tLc wi g tt te (own.map (·.2)) σ H Q) (hR : ∀ D C t m H', Inv X pins σ H' t → Q (.ref D) H' → t.heap.Ns C m → FpOk X pins H' C → compPost (model X.prog X.w) X.A X.xe use Qf (.ref D) C (.ok .next) t) :
    wpAny (model X.prog X.w) X.A (comprehension (.ListComp elt [⟨tg, iter, ifs, 0⟩] sc pos) sc X.env pos' (newList []) false (eval iter X.env) use) Qf X.xe s := by
  have clos : ∀ y ∈ sc.names, y.2 = .free → ∃ c, X.env.cells.lookup y.1 = some c := fun y hy e => I.ok.has _ (ok.free y hy e)
  refine comp_open (use := use) rfl hs (closure_ok clos) ok.kind (fun y hy e => by rw [ok.uniq y hy, e]) (thn (hi.run pins s σ H _ I h) fun xv s1 hx => thn hx fun itv s2 h2 => ?_)
  obtain ⟨it, fp, tn, J, H2, rfl, I2, T, st2, f2, q⟩ := h2
  refine wpAny_newObj_type (newEnv_comp ?_) (by show 0 ≤ sizeLine; decide)
  generalize hD : s2.heap.objs.size = D
  have nD : H2 D = none := I2.hok.fresh (Nat.le_of_eq hD)
  obtain ⟨W, ⟨m0, w0⟩, turn⟩ := q D nD
  -- the list that is to be filled
  generalize es3 : ({ s2 with heap := s2.heap.push { cls := .type "list", data := .seq ([] : List Value).toArray } } : Shared) = s3
  have eh3 : s3.heap = s2.heap.push { cls := .type "list", data := .seq ([] : List Value).toArray } := by rw [← es3]
  have I3 : Inv X pins σ (upd H2 D (.lst [])) s3 := by
    have at_ : (s2.heap.push { cls := .type "list", data := .seq ([] : List Value).toArray }).get? D = some { cls := .type "list", data := .seq ([] : List Value).toArray } := hD ▸ Heap.get?_push_size _ rfl
    rw [← es3]
    exact I2.laid (t' := s2.toks) (fun b o e => Heap.get?_push_of_some _ e) (Nat.le_of_eq hD) (show ObjOk X.prog X.w (upd H2 D (.lst [])) _ D (.lst []) from ⟨Nat.zero_le _, [], 0, .nil, at_⟩)
  have lt2 : ∀ b ∈ fp, b < s2.heap.objs.size := fun b hb => Heap.lt_size (T.obj _ _ st2 b hb).choose_spec.1
  have f3 : ∀ b ∈ fp, FpOk X pins (upd H2 D (.lst [])) b ∧ b < s3.heap.objs.size := fun b hb => by
    have l := lt2 b hb
    have f := f2 b hb
    refine ⟨⟨(upd_ne (hD ▸ Nat.ne_of_lt l)).trans f.1, f.2⟩, ?_⟩
    rw [eh3, Heap.size_push]; exact Nat.lt_succ_of_lt l
  have st3 : tn 0 s3.heap := T.keep _ _ _ st2 fun b _ o e => eh3 ▸ Heap.get?_push_of_some _ e
  have I4 := block_start I3 ok hN f3
  have pg := hg s3 (upd H2 D (.lst [])) s3.heap.objs.size (cellsFrom (s3.heap.objs.size + 1) sc.names (cloFrom X.env.cells sc.names [])) fp
  have pt := ht s3 (upd H2 D (.lst [])) s3.heap.objs.size (cellsFrom (s3.heap.objs.size + 1) sc.names (cloFrom X.env.cells sc.names [])) fp
  have pe := he s3 (upd H2 D (.lst [])) s3.heap.objs.size (cellsFrom (s3.heap.objs.size + 1) sc.names (cloFrom X.env.cells sc.names [])) fp
  have pe := fun pn xe => pe pn xe (inv_tks I3)
  have nf : ∀ b ∈ fp, (upd H2 D (.lst [])) b = none := fun b hb => (f3 b hb).1.1
  show codeAny _ _ (.compStart _ 0 _ _ (compEnvC sc (cellsFrom (s3.heap.objs.size + 1) sc.names (cloFrom X.env.cells sc.names [])) s3.heap.objs.size X.env))
    (PostX _ X.A X.xe use Qf (.ref D) (compEnvC sc (cellsFrom (s3.heap.objs.size + 1) sc.names (cloFrom X.env.cells sc.names [])) s3.heap.objs.size X.env)) _
  generalize ece : compEnvC sc (cellsFrom (s3.heap.objs.size + 1) sc.names (cloFrom X.env.cells sc.names [])) s3.heap.objs.size X.env = ce at I4 pg pt pe ⊢
  have cL : ce.locals = s3.heap.objs.size := by rw [← ece]; rfl
  have cF : ce.frame = X.env.frame := by rw [← ece]; rfl
  generalize eH3 : upd H2 D (.lst []) = H3 at I3 I4 pg pt pe w0 nf f3
  generalize es4 : ({ s3 with heap := pushCells (s3.heap.push { cls := .type "dict", data := .dict #[] }) sc.names } : Shared) = s4 at I4 ⊢
  have st4 : tn 0 s4.heap := T.keep _ _ _ st3 fun b _ o e => es4 ▸ pushCells_keeps _ _ _ _ (Heap.get?_push_of_some _ e)
  have back : ∀ {pn2 : List (Addr × Obj)} {xe2 : Value → Shared → Prop} {pins2 : List (Addr × Obj)} {σ2 : St} {G : Hp} {t : Shared}, Inv ((X.blk s3 H3 sc ce fp).tr pn2 xe2) pins2 σ2 G t → Inv X pins σ G t ∧ G s3.heap.objs.size = none ∧ ∃ m, t.heap.Ns s3.heap.objs.size m := fun {pn2 xe2 pins2 σ2 G t} K => by
    refine ⟨I3.call' (ch := fp) K.os K.base K.hok K.bare fun b hb => ?_, cL ▸ K.free, ?_⟩
    · have f := (f3 b hb).1
      exact ⟨f.2.2.2.1, f.2.1, f.2.2.2.2.1, f.2.2.2.2.2⟩
    · obtain ⟨m, n, _⟩ := K.loc
      have n : t.heap.Ns ce.locals m := n
      exact ⟨m, cL ▸ n⟩
  have still : ∀ {σ' : St} {G : Hp} {t : Shared}, Inv (X.blk s3 H3 sc ce fp) [] σ' G t → (∀ b ∈ fp, G b = none) → ∀ b ∈ fp, FpOk (X.blk s3 H3 sc ce fp) [] G b := fun {σ' G t} K n b hb =>
    ⟨n b hb, (K.ok.exf b hb).1, K.ok.exfs b hb, .inl hb, fun x c e => (K.ok.exf b hb).2 x c e, fun p hp => nomatch (show p ∈ ([] : List (Addr × Obj)) from hp)⟩
  have loop : codeAny (model X.prog X.w) X.A (.compLoop (.ListComp elt [⟨tg, iter, ifs, 0⟩] sc pos) 0 (.ref it) (.ref D) ce) (PostX (model X.prog X.w) X.A X.xe use Qf (.ref D) ce) s4 := by
    refine compLoop_any (fun n t => ∃ i G, Inv (X.blk s3 H3 sc ce fp) [] (wipe σ (own.map (·.2))) G t ∧ tn i t.heap ∧ (∀ b ∈ fp, G b = none) ∧ W i n G) ?_ m0 ⟨0, H3, I4, st4, nf, w0⟩
    rintro n s5 ⟨i, H5, I5, st5, n5, w5⟩
    rcases turn i n H5 w5 with ⟨stop, qq⟩ | ⟨go, Nx, hNx, step⟩
    · refine thnF (T.done (X.blk s3 H3 sc ce fp) rfl rfl rfl hc i [] s5 _ H5 (fun _ _ => False) I5 (still I5 n5) st5 stop) fun r s6 ⟨hr, I6⟩ => ?_
      subst hr
      obtain ⟨I7, nC, m, hn⟩ := back (pn2 := []) (xe2 := fun _ _ => False) I6
      have fin := hR D s3.heap.objs.size s6 m H5 I7 qq hn (I3.fpOk (Nat.le_refl _) nC)
      rw [← cL] at fin; exact fin
    · refine thnF (T.item (X.blk s3 H3 sc ce fp) rfl rfl rfl hc i [] s5 _ H5 (fun _ _ => False) I5 (still I5 n5) st5 go) fun r s6 ⟨u, hr, h6⟩ => ?_
      subst hr
      refine thnF h6 fun _ s7 ⟨x, H7, I7, r7, y7, st7, n7⟩ => ?_
      refine thnF (pg.run _ s7 _ H7 x u _ (I7.pinned (still I7 n7) (T.obj _ _ st7)) r7 (step x H7 y7)) fun _ s8 ⟨σ8, H8, I8, hw8, q8⟩ => ?_
      refine thnF (pt.run _ s8 σ8 H8 _ I8 q8) fun b s9 ⟨H9, I9, q9⟩ => ?_
      have fin : ∀ {t : Shared} {G : Hp}, Inv (X.blk s3 H3 sc ce fp) ([] ++ pinsAt fp s7.heap) σ8 G t → Nx G → ∃ m, m < n ∧ ∃ i G, Inv (X.blk s3 H3 sc ce fp) [] (wipe σ (own.map (·.2))) G t ∧ tn i t.heap ∧ (∀ b ∈ fp, G b = none) ∧ W i m G := fun {t G} K nx => by
        obtain ⟨m', hm, w'⟩ := hNx G nx
        have pinned : ∀ b ∈ fp, ∀ o, s7.heap.get? b = some o → t.heap.get? b = some o ∧ G b = none := fun b hb o e => by
          have z := K.pin (b, o) (List.mem_append_right _ (List.mem_append_right _ (mem_pinsAt hb e)))
          exact ⟨z.1, z.2.1⟩
        refine ⟨m', hm, i + 1, G, (K.unpinned (pins := [])).weak (by rw [← hw8, wipe_length]) (fun j v e => ?_), T.keep _ _ _ st7 fun b hb o e => (pinned b hb o e).1, fun b hb => ?_, w'⟩
        · rw [← hw8] at e; exact (wipe_some e).1
        · obtain ⟨o, e, _⟩ := T.obj _ _ st7 b hb
          exact (pinned b hb o e).2
      cases b with
      | false =>
        simp only [Bool.false_eq_true, if_false] at q9 ⊢
        exact fin I9 q9
      | true =>
        simp only [if_true] at q9 ⊢
        have px := pe ([] ++ ([] ++ pinsAt fp s7.heap)) (notedBy (model X.prog X.w) X.A ce fun e t => PostX (model X.prog X.w) X.A X.xe use Qf (.ref D) ce (.error e) t) fun pins2 σ2 G t e t' K c => by
          obtain ⟨K7, nC, m, hn⟩ := back K
          exact fly_on a1 a2 tk K7 cL cF ⟨nC, (I3.fpOk (Nat.le_refl _) nC).2.1, (I3.fpOk (Nat.le_refl _) nC).2.2.1, (I3.fpOk (Nat.le_refl _) nC).2.2.2.1, (I3.fpOk (Nat.le_refl _) nC).2.2.2.2.1, fun p hp => (I3.fpOk (Nat.le_refl _) nC).2.2.2.2.2 p (by rw [List.append_nil] at hp; exact List.mem_append_left _ hp)⟩ hn c
        refine wpAny_mono (px.run [] s9 σ8 H9 _ (I9.toTry _) q9) (fun z s10 ⟨yv, H10, I10, r10, acc, hD10, hz10, nx⟩ => ?_) fun _ _ z => z
        exact app_ok (X := X.blk s3 H3 sc ce fp) (Inv.ofTry (X := X.blk s3 H3 sc ce fp) I10 I9.ok) hD10 hz10 r10 fun s11 I11 => fin I11 nx
  exact codeAny_compStart_list loop (T.self X.A 0 _ _ _ st4 loop)
end
end L2
namespace L2
open PySem PySem.Spec PyProof.Rows
section
variable {X : Cx} {E : XK} {elt tg iter : Expr} {ifs : List Expr} {sc : Scope} {own : List (Str × Nat)} {pos : Pos} {wi : TI} {g : TG} {tt : TT} {te : TE}
theorem ps_setLcX {i : Nat} {y : Str} {py spos : Pos} (a1 : X.stack = X.env :: X.outer) (a2 : X.env.frame = some X.env.locals) (tk : Takes X (fun cls d _ H => E cls d H)) (hc : X.calm = true) (hN : X.N.Nodup) (hy : X.N[i]? = some y) (hyl : X.env.scope.names.lookup y = some .local)
    (hsw : swapsWith (.ListComp elt [⟨tg, iter, ifs, 0⟩] sc pos) (some (.Name y py)) spos.line X.env = pure true) (hi : PI X tg iter wi) (ok : BlkOk X.N X.env.scope sc own)
    (hg : ∀ s H C cl fp, PG (X.blk s H sc (compEnvC sc cl C X.env) fp) tg g) (ht : ∀ s H C cl fp, PTs (X.blk s H sc (compEnvC sc cl C X.env) fp) ifs tt) (he : ElX X E sc elt te) (hs : ∀ x, foldedSetIterable iter X.env x = pure x := by intro _; rfl) :
    PS X (.Assign [.Name y py] (.ListComp elt [⟨tg, iter, ifs, 0⟩] sc pos) spos) (tAsg (tLc wi g tt te (own.map (·.2))) (gName i)) := by
  refine ⟨fun pins s σ H D I h => ?_⟩
  rw [exec_Assign_Name_used _ _ _ _ hsw]
  refine wpAny_bind (wpAny_standAt (wpAny_bind ?_))
  show wpAny _ X.A (do let _ ← comprehension (.ListComp elt [⟨tg, iter, ifs, 0⟩] sc pos) sc X.env (firstIterPos [⟨tg, iter, ifs, 0⟩] pos) (newList []) false (eval iter X.env) (some (assign (.Name y py) X.env))) _ _ s
  refine wpAny_bind (thn (lcx_core (Qf := fun _ t => SP X pins D .next t) a1 a2 tk hc hN I hi ok hg ht he hs (Q := fun x G => gName i x σ G D.nx) h fun L C t m G J q hn f => ?_) fun _ t hq => wpAny_pure (wpAny_pure hq))
  refine wpAny_assign_Name (store_ok2 (v := V.ref L) J hN hy (.inl hyl) rfl (fun t2 J2 ⟨a, sb, ha⟩ => ?_) (.inr hyl))
  have ne : C ≠ a := ha.elim (fun z => z ▸ f.2.1) fun z => fun e => f.2.2.2.2.1 y a z e.symm
  exact ⟨m, hn.sameBut sb ne, fun h3 sb3 => ⟨_, G, J2.turned (t' := t2.toks) (fun b o hb e => (sb3.2 b hb).trans e) f.1 f.2.1 f.2.2.2.1 f.2.2.2.2.1 f.2.2.2.2.2, q⟩⟩
end
end L2
namespace DD
open PySem PySem.W L2 SX Cm
section
variable {X : Cx} {E : XK} {RX : DXk} {elt tg iter : Expr} {ifs : List Expr} {sc : Scope} {own : List (Str × Nat)} {pos : Pos} {ti : TDI} {g : TG} {ld : TL} {tt : TDT} {te : TD}
theorem ds_setLcX {i : Nat} {y : Str} {py spos : Pos} (lt : LT X.K (own.map (·.2)) g ld) (a1 : X.stack = X.env :: X.outer) (a2 : X.env.frame = some X.env.locals) (tk : Takes X (fun cls d _ H => E cls d H)) (hc : X.calm = true) (hN : X.N.Nodup) (hy : X.N[i]? = some y) (hyl : X.env.scope.names.lookup y = some .local)
    (hsw : swapsWith (.ListComp elt [⟨tg, iter, ifs, 0⟩] sc pos) (some (.Name y py)) spos.line X.env = pure true) (hi : DI X tg iter ti) (ok : BlkOk X.N X.env.scope sc own)
    (hg : ∀ s H C cl fp, PG (X.blk s H sc (compEnvC sc cl C X.env) fp) tg g) (ht : ∀ s H C cl fp, PTs (X.blk s H sc (compEnvC sc cl C X.env) fp) ifs (upT X.K tt)) (he : ElX X E sc elt (up X.K te)) (hs : ∀ x, foldedSetIterable iter X.env x = pure x := by intro _; rfl) :
    DS X (.Assign [.Name y py] (.ListComp elt [⟨tg, iter, ifs, 0⟩] sc pos) spos) (dAsg (dLc ti ld tt te (own.map (·.2))) (gN i)) := PS_mono (ps_setLcX a1 a2 tk hc hN hy hyl hsw hi ok hg ht he hs) fun D σ H ⟨D', δ, G, sl, w, l, h⟩ => by
  refine lc_up lt (Q := fun v H1 => gName i v σ H1 D.nx) ⟨δ, G, _, sl, w, h, fun d G1 v H1 q t1 w1 r1 => ?_⟩
  exact l.nx _ _ _ _ q t1 w1 ((sl.mono t1).set r1 i)
/-- a call within such an element -/
theorem de_callE {k : Nat} {nm : Str} {ps : List Str} {dsp : DSpX} {e : Expr} {es : List Expr} {ts : TDA} {p : Pos} (h : HasX X.prog X.w X.K X.mg X.base k nm ps dsp) (hx : FinX X.K X.H_0 RX E) (hp : Passes (L2.CX X.prog X.w) X E) (hr : Room k X.A) (hg : Gl X nm) (ha : DA X (e :: es) ts) (hdb : (nm == ("__debug__" : Str)) = false := by decide) (he : starEach (e :: es) X.env = (false, eval e X.env) :: starEach es X.env := by rfl) (hpl : (backTo pos (starEach es X.env)).any (·.1) = false := by rfl) :
    DE X (.Call (.Name nm p) (e :: es) [] pos) (dCallX ps.length dsp RX ts) := by
  obtain ⟨f, fd, F, b, kp, m, _⟩ := h
  refine ⟨fun pins s σ H Q I ⟨δ, G, R, sl, w, h, fq⟩ => wpAny_Call_Name_kw (ld_glob I hg m ?_ hdb)⟩
  refine PySem.W.callWith_K (h₀ := X.base) I.ok.mod.kin kp (thn (ha.run pos pins s σ H (fun vs H1 => ∃ ds G1, RVs X.K H1 vs ds ∧ Wd X.K H1 G1 ∧ TKs X.K H H1 ∧ ds.length = ps.length ∧ dsp ds G1 R RX) I ⟨δ, G, _, sl, w, h, fun ds G1 vs H1 h1 t1 w1 r1 => ⟨ds, G1, r1, w1, t1, h1.1, h1.2⟩⟩) fun us s1 ⟨vs, H1, I1, r, ds, G1, r1, w1, t1, l1, h1⟩ => ⟨I1.kIn, ?_⟩) he hpl
  refine run_fn F hr b .nil hp I1 r ?_
  rw [List.append_nil]
  exact ⟨ds, G1, R, RX, r1, w1, l1, h1, fq.step t1, hx.step (inv_tks I1)⟩
end
end DD
set_option maxHeartbeats 1000000
/-! x or y, x a tuple or None -/
namespace DD
open PySem PySem.W L2 SX Cm
section
variable {X : Cx} {pos : Pos}
def dOrN (ta tb : TD) : TD := fun δ G Q => ta δ G fun x G1 => (x = .non ∧ tb δ G1 Q) ∨ ∃ ds, x = .tup ds ∧ if (!ds.isEmpty) = true then Q (.tup ds) G1 else tb δ G1 Q
theorem de_orN {a b : Expr} {rest : List Expr} {ta tb : TD} (ha : DE X a ta) (hb : DE X (.BoolOp .Or (b :: rest) pos) tb) : DE X (.BoolOp .Or (a :: b :: rest) pos) (dOrN ta tb) :=
  PE_mono (pe_orT ha hb) fun σ H Q ⟨δ, G, R, sl, w, q, f⟩ => ⟨δ, G, _, sl, w, q, fun d G1 v H1 h t1 w1 r1 => by
    rcases h with ⟨e, h⟩ | ⟨ds, e, h⟩
    · subst e
      cases r1
      exact ⟨false, rfl, δ, G1, R, sl.mono t1, w1, h, f.step t1⟩
    · subst e
      obtain ⟨a, xs, rfl, s, r⟩ := r1.tupD
      have l := r.len
      refine ⟨!xs.isEmpty, .inr (.inl ⟨xs, s, rfl⟩), ?_⟩
      have e : xs.isEmpty = ds.isEmpty := by
        cases xs with
        | nil => cases r; rfl
        | cons _ _ => cases r; rfl
      rw [e]
      cases hb' : !ds.isEmpty with
      | true =>
        rw [hb'] at h
        exact f _ _ _ _ h t1 w1 r1
      | false =>
        rw [hb'] at h
        exact ⟨δ, G1, R, sl.mono t1, w1, h, f.step t1⟩⟩
theorem w_orN {ta tb : TD} {δ : DSt} {G : DG} {Q : DK} (h : ta δ G fun x G1 => (x = .non ∧ tb δ G1 Q) ∨ ∃ ds, x = .tup ds ∧ if (!ds.isEmpty) = true then Q (.tup ds) G1 else tb δ G1 Q) : dOrN ta tb δ G Q := h
end
end DD
set_option maxHeartbeats 2000000
/-! CmZip: zip(text, list) in a comprehension. -/
namespace Cm
open PySem PySem.Spec PyProof.Rows L2 SX
def ItzS (K : PySem.W.Frag) (x : Str) (b : Addr) : It :=
  ⟨fun i H => ∃ (ys : List V) (c : Nat) (y : V), SqL K H b ys ∧ x.cps[i]? = some c ∧ ys[i]? = some y,
    fun i H v H' => ∃ T c y, v = .ref T ∧ H T = none ∧ H' = upd H T (.tup [.str ⟨#[c]⟩, y]) ∧ x.cps[i]? = some c ∧ ∀ ys, SqL K H b ys → ys[i]? = some y,
    fun i H => ∃ ys : List V, SqL K H b ys ∧ i ≤ x.cps.size ∧ i ≤ ys.length ∧ (i = x.cps.size ∨ i = ys.length)⟩
theorem nin2 {x a b : Nat} (h1 : x ≠ a) (h2 : x ≠ b) : x ∉ [a, b] := fun h => by
  rcases List.mem_cons.mp h with e | e
  · exact h1 e
  · exact h2 (List.mem_singleton.mp e)
theorem nin1 {x a : Nat} (h1 : x ≠ a) : x ∉ [a] := fun h => h1 (List.mem_singleton.mp h)
theorem sepS (n b : Nat) (h : b < n) : ZipSep2 (n + 4) (n + 2) (n + 3) n (n + 1) [n] [n + 1, b] where
  TIz := fun e => by have e : n + 2 = n + 4 := e; omega
  TOz := fun e => by have e : n + 3 = n + 4 := e; omega
  TITO := fun e => by have e : n + 2 = n + 3 := e; omega
  TIi1 := fun e => by have e : n + 2 = n := e; omega
  mem1 := List.mem_cons_self
  zf1 := nin1 (by omega)
  Tf1 := nin1 (by omega)
  TIi2 := fun e => by have e : n + 2 = n + 1 := e; omega
  mem2 := List.mem_cons_self
  zf2 := nin2 (by omega) (by omega)
  Tf2 := nin2 (by omega) (by omega)
  sep1_2 := nin2 (by omega) (by omega)
  sep2_1 := nin1 (by omega)
theorem turn_zipS {P : Program} {w : World} {K : PySem.W.Frag} {elts : List Expr} {kk : Nat} {tpos : Pos} {x : Str} {t : Tok} {b z TI TO i1 i2 : Addr} (S : ZipSep2 z TI TO i1 i2 [i1] [i2, b]) (hb : b ≠ i2) :
    Turn P w K (.Tuple elts kk tpos) (ItzS K x b) [z, TI, TO, i1, i2] z (fun i h => IsZip h z TI TO .none ∧ IsTupOf2 h TI (.ref i1) (.ref i2) ∧ (∃ u v, IsTupOf2 h TO u v) ∧ h.IsStrIter i1 (strIterType x) x t i ∧ h.IsListIter i2 b i) where
  mem := by simp
  obj := fun i h st c hc => by
    obtain ⟨hz, hTI, ⟨u, v, hTO⟩, ⟨o1, e1, _, d1⟩, ⟨o2, e2, _, d2⟩⟩ := st
    have e' : c = z ∨ c = TI ∨ c = TO ∨ c = i1 ∨ c = i2 := by simpa using hc
    rcases e' with q | q | q | q | q
    · rw [q]; exact ⟨_, hz, fun v q => nomatch q⟩
    · rw [q]; exact ⟨_, hTI, fun v q => nomatch q⟩
    · rw [q]; exact ⟨_, hTO, fun v q => nomatch q⟩
    · rw [q]; exact ⟨o1, e1, fun v q => by rw [d1] at q; cases q⟩
    · rw [q]; exact ⟨o2, e2, fun v q => by rw [d2] at q; cases q⟩
  keep := fun i h h' st k => by
    obtain ⟨hz, hTI, ⟨u, v, hTO⟩, ⟨o1, e1, r1⟩, h2⟩ := st
    exact ⟨k z (by simp) _ hz, k TI (by simp) _ hTI, ⟨u, v, k TO (by simp) _ hTO⟩, ⟨o1, k i1 (by simp) o1 e1, r1⟩, h2.at fun o q => k i2 (by simp) o q⟩
  item := by
    intro X hP hw hK hc i pins s σ H E I hf st hg
    subst hP hw hK
    obtain ⟨hz, hTI, ⟨u0, v0, hTO⟩, h1, h2⟩ := st
    obtain ⟨ys, c, y, hqy, hx, hy⟩ := hg
    obtain ⟨its, rv, p, _⟩ := I.list hqy
    obtain ⟨u2, hu2, ru2⟩ := rv.get hy
    have hh : X.A.in1.handled = none := I.ok.hd hc
    have hzl : z < s.heap.objs.size := Heap.lt_size hz
    have lx : i < x.cps.size := (Array.getElem?_eq_some_iff.mp hx).1
    have ly : i < its.toArray.size := by
      rw [List.size_toArray]; exact (List.getElem?_eq_some_iff.mp hu2).1
    refine wpAny_pyNext_zipD2_item S (Draws.text hh i1 x t) (Draws.list hh i2 b hb its.toArray) hz hTI hTO h1 ⟨h2, p.isList⟩ lx ly fun x1 x2 h' tk P1 P2 z' TO' h1' h2' hT hsz hk => ?_
    obtain ⟨c', tu, ec, rfl⟩ := P1
    rw [hx] at ec; cases ec
    have e2 : x2 = u2 := by
      have q : its.toArray[i]? = some u2 := by simpa using hu2
      exact Option.some.inj ((show its.toArray[i]? = some x2 from P2).symm.trans q)
    subst e2
    refine ⟨_, rfl, wpAny_letOwnedTupleGo_zip (s := { s with heap := h', toks := tk }) z' fun h'' z'' sb => ?_⟩
    have hT2 : h''.get? s.heap.objs.size = some { cls := .type "tuple", data := .seq #[.str ⟨#[c]⟩ tu, x2] } := (sb.2 _ (Nat.ne_of_gt hzl)).trans hT
    have new : ObjOk X.prog X.w (upd H s.heap.objs.size (.tup [.str ⟨#[c]⟩, y])) h'' s.heap.objs.size (.tup [.str ⟨#[c]⟩, y]) :=
      ⟨by show 2 ≤ sizeLine; decide, [.str ⟨#[c]⟩ tu, x2], .cons ⟨tu, rfl⟩ (.cons ru2 .nil), ⟨_, hT2, rfl, _, rfl⟩⟩
    have I1 : Inv X pins σ (upd H s.heap.objs.size (.tup [.str ⟨#[c]⟩, y])) { s with heap := h'', toks := tk } :=
      I.turnedNew (t' := tk) (ch := [z, TI, TO, i1, i2]) (fun c o hb q => (sb.2 c (fun q' => hb (by simp [q']))).trans (hk c o (fun q' => hb (by simp [q'])) (fun q' => hb (by simp [q'])) (fun q' => hb (by simp [q'])) (fun q' => hb (by simp [q'])) q)) hf (Nat.le_refl _) new
    refine ⟨.ref s.heap.objs.size, _, I1, rfl, ⟨_, c, y, rfl, I.hok.fresh (Nat.le_refl _), rfl, hx, fun l hl => by rw [I.list_inj hl hqy]; exact hy⟩, ⟨z'', ?_, ⟨.str ⟨#[c]⟩ tu, x2, ?_⟩, ?_, ?_⟩, fun c hcm => ?_⟩
    · exact (sb.2 _ S.TIz).trans (hk _ _ S.TIz S.TITO S.TIi1 S.TIi2 hTI)
    · exact (sb.2 _ S.TOz).trans TO'
    · obtain ⟨o, e, r⟩ := h1'
      exact ⟨o, (sb.2 _ S.zi1.symm).trans e, r⟩
    · exact h2'.1.at fun o q => (sb.2 _ S.zi2.symm).trans q
    · have hlt : c < s.heap.objs.size := by
        have e' : c = z ∨ c = TI ∨ c = TO ∨ c = i1 ∨ c = i2 := by simpa using hcm
        rcases e' with q | q | q | q | q
        · rw [q]; exact hzl
        · rw [q]; exact Heap.lt_size hTI
        · rw [q]; exact Heap.lt_size hTO
        · rw [q]; obtain ⟨_, e1, _⟩ := h1; exact Heap.lt_size e1
        · rw [q]; obtain ⟨_, e2, _⟩ := h2; exact Heap.lt_size e2
      rw [upd_ne (Nat.ne_of_lt hlt)]
      exact (hf c hcm).1
  done := by
    intro X hP hw hK hc i pins s σ H E I hf st hg
    subst hP hw hK
    obtain ⟨hz, hTI, ⟨u0, v0, hTO⟩, h1, h2⟩ := st
    obtain ⟨ys, hqy, l1, l2, hend⟩ := hg
    obtain ⟨its, rv, p, _⟩ := I.list hqy
    have hh : X.A.in1.handled = none := I.ok.hd hc
    have le := rv.length
    refine wpAny_pyNext_zipD2_end S (Draws.text hh i1 x t) (Draws.list hh i2 b hb its.toArray) hz hTI hTO h1 ⟨h2, p.isList⟩ l1 (by rw [List.size_toArray]; omega) (hend.imp id fun e => by rw [List.size_toArray]; omega) fun h' tk hk => ?_
    exact ⟨rfl, I.turnedL (t' := tk) (ch := [z, TI, TO, i1, i2]) (fun c o hb q => hk c o (fun q' => hb (by simp [q'])) (fun q' => hb (by simp [q'])) (fun q' => hb (by simp [q'])) (fun q' => hb (by simp [q'])) q) hf⟩
  self := fun A i s Q E st h => wpAny_pyIter_zip st.1 h
def iZipS (K : PySem.W.Frag) (ta : TA) : TI := fun σ H R => ta σ H fun vs H1 => ∃ x b ys, vs = [.str x, .ref b] ∧ SqL K H1 b ys ∧ R (ItzS K x b) H1
theorem pi_zipS {X : Cx} {e e2 : Expr} {ta : TA} {p pos tpos : Pos} {elts : List Expr} {kk : Nat} (hg : Gl X "zip") (hm : X.mg "zip" = none) (ha : PA X [e, e2] ta)
    (hs : starEach [e, e2] X.env = (false, eval e X.env) :: starEach [e2] X.env := by rfl) (hpl : (backTo pos (starEach [e2] X.env)).any (·.1) = false := by rfl) :
    PI X (.Tuple elts kk tpos) (.Call (.Name "zip" p) [e, e2] [] pos) (iZipS X.K ta) := by
  refine ⟨fun pins s σ H R I h => ?_⟩
  refine Call_ (ld_blt I hg hm PyProof.Rows.boot_zip (PyProof.Rows.callWith_type1 (thn (ha.run pos pins s σ H _ I h) fun us s1 ⟨vs, H1, I1, r1, q1⟩ => ?_) hs hpl))
  obtain ⟨x, b, ys, ex, hq, q⟩ := q1
  subst ex
  obtain ⟨its, rv, p1, _⟩ := I1.list hq
  cases r1 with
  | cons r rr =>
    cases rr with
    | cons r' rr =>
      cases rr
      obtain ⟨t, rfl⟩ := r
      cases r'
      refine zip_begins2 (begins_text x t) (begins_list b its.toArray) trivial p1.isList fun h' hz hTI hTO h1 h2 hsz hk => wpAny_pyIter_zip hz ?_
      have I2 : Inv X pins σ H1 { s1 with heap := h' } := I1.kept (t' := s1.toks) hk
      have lb : b < s1.heap.objs.size := p1.lt
      refine ⟨s1.heap.objs.size + 4, [s1.heap.objs.size + 4, s1.heap.objs.size + 2, s1.heap.objs.size + 3, s1.heap.objs.size, s1.heap.objs.size + 1], _, _, H1, rfl, I2, turn_zipS (t := t) (sepS _ _ lb) (Nat.ne_of_lt (Nat.lt_succ_of_lt lb)), ⟨hz, hTI, ⟨_, _, hTO⟩, ⟨_, h1, rfl, rfl⟩, ⟨_, h2, rfl, rfl⟩⟩, fun c hcm => ?_, q⟩
      have e' : c = s1.heap.objs.size + 4 ∨ c = s1.heap.objs.size + 2 ∨ c = s1.heap.objs.size + 3 ∨ c = s1.heap.objs.size ∨ c = s1.heap.objs.size + 1 := by simpa using hcm
      have hle : s1.heap.objs.size ≤ c := by
        rcases e' with z | z | z | z | z <;> rw [z] <;> first | exact Nat.le_refl _ | exact Nat.le_add_right _ _
      exact I1.fpOk hle (I1.hok.fresh hle)
end Cm
set_option maxHeartbeats 2000000
/-! zip(tuple, list), zip(text, list) in a comprehension, in the layer of data too -/
namespace Cm
open PySem PySem.Spec PyProof.Rows L2 SX
def ItzTL (K : PySem.W.Frag) (a b : Addr) : It :=
  ⟨fun i H => ∃ (xs ys : List V) (x y : V), SqT K H a xs ∧ SqL K H b ys ∧ xs[i]? = some x ∧ ys[i]? = some y,
    fun i H v H' => ∃ T x y, v = .ref T ∧ H T = none ∧ H' = upd H T (.tup [x, y]) ∧ (∀ xs, SqT K H a xs → xs[i]? = some x) ∧ ∀ ys, SqL K H b ys → ys[i]? = some y,
    fun i H => ∃ xs ys : List V, SqT K H a xs ∧ SqL K H b ys ∧ i ≤ xs.length ∧ i ≤ ys.length ∧ (i = xs.length ∨ i = ys.length)⟩
theorem sepTL (n a b : Nat) (ha : a < n) (h : b < n) : ZipSep2 (n + 4) (n + 2) (n + 3) n (n + 1) [n, a] [n + 1, b] where
  TIz := fun e => by have e : n + 2 = n + 4 := e; omega
  TOz := fun e => by have e : n + 3 = n + 4 := e; omega
  TITO := fun e => by have e : n + 2 = n + 3 := e; omega
  TIi1 := fun e => by have e : n + 2 = n := e; omega
  mem1 := List.mem_cons_self
  zf1 := nin2 (by omega) (by omega)
  Tf1 := nin2 (by omega) (by omega)
  TIi2 := fun e => by have e : n + 2 = n + 1 := e; omega
  mem2 := List.mem_cons_self
  zf2 := nin2 (by omega) (by omega)
  Tf2 := nin2 (by omega) (by omega)
  sep1_2 := nin2 (by omega) (by omega)
  sep2_1 := nin2 (by omega) (by omega)
theorem turn_zipTL {P : Program} {w : World} {K : PySem.W.Frag} {elts : List Expr} {kk : Nat} {tpos : Pos} {a b z TI TO i1 i2 : Addr} (S : ZipSep2 z TI TO i1 i2 [i1, a] [i2, b]) (ha : a ≠ i1) (hb : b ≠ i2) :
    Turn P w K (.Tuple elts kk tpos) (ItzTL K a b) [z, TI, TO, i1, i2] z (fun i h => IsZip h z TI TO .none ∧ IsTupOf2 h TI (.ref i1) (.ref i2) ∧ (∃ u v, IsTupOf2 h TO u v) ∧ h.IsTupleIter i1 a i ∧ h.IsListIter i2 b i) where
  mem := by simp
  obj := fun i h st c hc => by
    obtain ⟨hz, hTI, ⟨u, v, hTO⟩, ⟨o1, e1, _, d1⟩, ⟨o2, e2, _, d2⟩⟩ := st
    have e' : c = z ∨ c = TI ∨ c = TO ∨ c = i1 ∨ c = i2 := by simpa using hc
    rcases e' with q | q | q | q | q
    · rw [q]; exact ⟨_, hz, fun v q => nomatch q⟩
    · rw [q]; exact ⟨_, hTI, fun v q => nomatch q⟩
    · rw [q]; exact ⟨_, hTO, fun v q => nomatch q⟩
    · rw [q]; exact ⟨o1, e1, fun v q => by rw [d1] at q; cases q⟩
    · rw [q]; exact ⟨o2, e2, fun v q => by rw [d2] at q; cases q⟩
  keep := fun i h h' st k => by
    obtain ⟨hz, hTI, ⟨u, v, hTO⟩, h1, h2⟩ := st
    exact ⟨k z (by simp) _ hz, k TI (by simp) _ hTI, ⟨u, v, k TO (by simp) _ hTO⟩, h1.at fun o q => k i1 (by simp) o q, h2.at fun o q => k i2 (by simp) o q⟩
  item := by
    intro X hP hw hK hc i pins s σ H E I hf st hg
    subst hP hw hK
    obtain ⟨hz, hTI, ⟨u0, v0, hTO⟩, h1, h2⟩ := st
    obtain ⟨xs, ys, x, y, hqx, hqy, hx, hy⟩ := hg
    obtain ⟨itx, rvx, px, _⟩ := I.tuple hqx
    obtain ⟨its, rv, p, _⟩ := I.list hqy
    obtain ⟨u1, hu1, ru1⟩ := rvx.get hx
    obtain ⟨u2, hu2, ru2⟩ := rv.get hy
    have hh : X.A.in1.handled = none := I.ok.hd hc
    have hzl : z < s.heap.objs.size := Heap.lt_size hz
    have lx : i < itx.toArray.size := by
      rw [List.size_toArray]; exact (List.getElem?_eq_some_iff.mp hu1).1
    have ly : i < its.toArray.size := by
      rw [List.size_toArray]; exact (List.getElem?_eq_some_iff.mp hu2).1
    refine wpAny_pyNext_zipD2_item S (Draws.tuple hh i1 a ha itx.toArray) (Draws.list hh i2 b hb its.toArray) hz hTI hTO ⟨h1, px⟩ ⟨h2, p.isList⟩ lx ly fun x1 x2 h' tk P1 P2 z' TO' h1' h2' hT hsz hk => ?_
    have e1 : x1 = u1 := by
      have q : itx.toArray[i]? = some u1 := by simpa using hu1
      exact Option.some.inj ((show itx.toArray[i]? = some x1 from P1).symm.trans q)
    have e2 : x2 = u2 := by
      have q : its.toArray[i]? = some u2 := by simpa using hu2
      exact Option.some.inj ((show its.toArray[i]? = some x2 from P2).symm.trans q)
    subst e1
    subst e2
    refine ⟨_, rfl, wpAny_letOwnedTupleGo_zip (s := { s with heap := h', toks := tk }) z' fun h'' z'' sb => ?_⟩
    have hT2 : h''.get? s.heap.objs.size = some { cls := .type "tuple", data := .seq #[x1, x2] } := (sb.2 _ (Nat.ne_of_gt hzl)).trans hT
    have new : ObjOk X.prog X.w (upd H s.heap.objs.size (.tup [x, y])) h'' s.heap.objs.size (.tup [x, y]) :=
      ⟨by show 2 ≤ sizeLine; decide, [x1, x2], .cons ru1 (.cons ru2 .nil), ⟨_, hT2, rfl, _, rfl⟩⟩
    have I1 : Inv X pins σ (upd H s.heap.objs.size (.tup [x, y])) { s with heap := h'', toks := tk } :=
      I.turnedNew (t' := tk) (ch := [z, TI, TO, i1, i2]) (fun c o hb q => (sb.2 c (fun q' => hb (by simp [q']))).trans (hk c o (fun q' => hb (by simp [q'])) (fun q' => hb (by simp [q'])) (fun q' => hb (by simp [q'])) (fun q' => hb (by simp [q'])) q)) hf (Nat.le_refl _) new
    refine ⟨.ref s.heap.objs.size, _, I1, rfl, ⟨_, x, y, rfl, I.hok.fresh (Nat.le_refl _), rfl, fun l hl => by rw [I.tuple_inj hl hqx]; exact hx, fun l hl => by rw [I.list_inj hl hqy]; exact hy⟩, ⟨z'', ?_, ⟨x1, x2, ?_⟩, ?_, ?_⟩, fun c hcm => ?_⟩
    · exact (sb.2 _ S.TIz).trans (hk _ _ S.TIz S.TITO S.TIi1 S.TIi2 hTI)
    · exact (sb.2 _ S.TOz).trans TO'
    · exact h1'.1.at fun o q => (sb.2 _ S.zi1.symm).trans q
    · exact h2'.1.at fun o q => (sb.2 _ S.zi2.symm).trans q
    · have hlt : c < s.heap.objs.size := by
        have e' : c = z ∨ c = TI ∨ c = TO ∨ c = i1 ∨ c = i2 := by simpa using hcm
        rcases e' with q | q | q | q | q
        · rw [q]; exact hzl
        · rw [q]; exact Heap.lt_size hTI
        · rw [q]; exact Heap.lt_size hTO
        · rw [q]; obtain ⟨_, e1, _⟩ := h1; exact Heap.lt_size e1
        · rw [q]; obtain ⟨_, e2, _⟩ := h2; exact Heap.lt_size e2
      rw [upd_ne (Nat.ne_of_lt hlt)]
      exact (hf c hcm).1
  done := by
    intro X hP hw hK hc i pins s σ H E I hf st hg
    subst hP hw hK
    obtain ⟨hz, hTI, ⟨u0, v0, hTO⟩, h1, h2⟩ := st
    obtain ⟨xs, ys, hqx, hqy, l1, l2, hend⟩ := hg
    obtain ⟨itx, rvx, px, _⟩ := I.tuple hqx
    obtain ⟨its, rv, p, _⟩ := I.list hqy
    have hh : X.A.in1.handled = none := I.ok.hd hc
    have le := rv.length
    have lex := rvx.length
    refine wpAny_pyNext_zipD2_end S (Draws.tuple hh i1 a ha itx.toArray) (Draws.list hh i2 b hb its.toArray) hz hTI hTO ⟨h1, px⟩ ⟨h2, p.isList⟩ (by rw [List.size_toArray]; omega) (by rw [List.size_toArray]; omega) (hend.imp (fun e => by rw [List.size_toArray]; omega) fun e => by rw [List.size_toArray]; omega) fun h' tk hk => ?_
    exact ⟨rfl, I.turnedL (t' := tk) (ch := [z, TI, TO, i1, i2]) (fun c o hb q => hk c o (fun q' => hb (by simp [q'])) (fun q' => hb (by simp [q'])) (fun q' => hb (by simp [q'])) (fun q' => hb (by simp [q'])) q) hf⟩
  self := fun A i s Q E st h => wpAny_pyIter_zip st.1 h
def iZipTL (K : PySem.W.Frag) (ta : TA) : TI := fun σ H R => ta σ H fun vs H1 => ∃ a b xs ys, vs = [.ref a, .ref b] ∧ SqT K H1 a xs ∧ SqL K H1 b ys ∧ R (ItzTL K a b) H1
theorem pi_zipTL {X : Cx} {e e2 : Expr} {ta : TA} {p pos tpos : Pos} {elts : List Expr} {kk : Nat} (hg : Gl X "zip") (hm : X.mg "zip" = none) (ha : PA X [e, e2] ta)
    (hs : starEach [e, e2] X.env = (false, eval e X.env) :: starEach [e2] X.env := by rfl) (hpl : (backTo pos (starEach [e2] X.env)).any (·.1) = false := by rfl) :
    PI X (.Tuple elts kk tpos) (.Call (.Name "zip" p) [e, e2] [] pos) (iZipTL X.K ta) := by
  refine ⟨fun pins s σ H R I h => ?_⟩
  refine Call_ (ld_blt I hg hm PyProof.Rows.boot_zip (PyProof.Rows.callWith_type1 (thn (ha.run pos pins s σ H _ I h) fun us s1 ⟨vs, H1, I1, r1, q1⟩ => ?_) hs hpl))
  obtain ⟨a, b, xs, ys, ex, hqx, hq, q⟩ := q1
  subst ex
  obtain ⟨itx, rvx, px, _⟩ := I1.tuple hqx
  obtain ⟨its, rv, p1, _⟩ := I1.list hq
  obtain ⟨o1, ho1, _⟩ := id px
  cases r1 with
  | cons r rr =>
    cases rr with
    | cons r' rr =>
      cases rr
      cases r
      cases r'
      refine zip_begins2 (begins_tuple a itx.toArray) (begins_list b its.toArray) px p1.isList fun h' hz hTI hTO h1 h2 hsz hk => wpAny_pyIter_zip hz ?_
      have I2 : Inv X pins σ H1 { s1 with heap := h' } := I1.kept (t' := s1.toks) hk
      have lb : b < s1.heap.objs.size := p1.lt
      have la : a < s1.heap.objs.size := Heap.lt_size ho1
      refine ⟨s1.heap.objs.size + 4, [s1.heap.objs.size + 4, s1.heap.objs.size + 2, s1.heap.objs.size + 3, s1.heap.objs.size, s1.heap.objs.size + 1], _, _, H1, rfl, I2, turn_zipTL (sepTL _ _ _ la lb) (Nat.ne_of_lt la) (Nat.ne_of_lt (Nat.lt_succ_of_lt lb)), ⟨hz, hTI, ⟨_, _, hTO⟩, ⟨_, h1, rfl, rfl⟩, ⟨_, h2, rfl, rfl⟩⟩, fun c hcm => ?_, q⟩
      have e' : c = s1.heap.objs.size + 4 ∨ c = s1.heap.objs.size + 2 ∨ c = s1.heap.objs.size + 3 ∨ c = s1.heap.objs.size ∨ c = s1.heap.objs.size + 1 := by simpa using hcm
      have hle : s1.heap.objs.size ≤ c := by
        rcases e' with z | z | z | z | z <;> rw [z] <;> first | exact Nat.le_refl _ | exact Nat.le_add_right _ _
      exact I1.fpOk hle (I1.hok.fresh hle)
end Cm
namespace DD
open PySem PySem.W L2 SX Cm
section
variable {X : Cx} {elts : List Expr} {kk : Nat} {tpos : Pos}
/-- zip of a tuple with a list of the same length -/
def dIZipTL (t : TDA) : TDI := fun δ G R => t δ G fun vs G1 => ∃ xs q ys, vs = [.tup xs, .ref q] ∧ Ls G1 q ys ∧ xs.length = ys.length ∧ R (zipD xs ys) (fun G => Ls G q ys) G1
theorem di_zipTL {a b : Expr} {t : TDA} {p pos : Pos} (hm : X.mg "zip" = none) (hg : Gl X "zip") (ha : DA X [a, b] t) (hs : starEach [a, b] X.env = (false, eval a X.env) :: starEach [b] X.env := by rfl) (hpl : (backTo pos (starEach [b] X.env)).any (·.1) = false := by rfl) : DI X (.Tuple elts kk tpos) (.Call (.Name "zip" p) [a, b] [] pos) (dIZipTL t) :=
  PI_mono (pi_zipTL hg hm ha hs hpl) fun σ H R' ⟨δ, G, R, sl, w, q, f⟩ => ⟨δ, G, _, sl, w, q, fun ds G1 vs H1 q1 t1 w1 r1 => by
    obtain ⟨xs, q, ys, rfl, ly, hl, q1⟩ := q1
    cases r1 with
    | cons ra rb =>
      cases rb with
      | cons rb rn =>
        cases rn
        cases rb
        obtain ⟨a, us, rfl, sa, ra⟩ := ra.tupD
        obtain ⟨vs, sb, rb⟩ := wd_seq w1 ly
        refine ⟨a, q, us, vs, rfl, sa, sb, f _ _ _ _ _ q1 t1 w1 ⟨fun i H2 G2 t2 w2 l2 hi => ?_, fun i H2 G2 x H3 t2 w2 l2 hi y => ?_, fun i H2 G2 t2 w2 l2 hi => ?_⟩⟩
        · rw [zipD_len] at hi
          obtain ⟨vs, sb, rb⟩ := wd_seq w2 l2
          obtain ⟨x, hx, _⟩ := ra.get (List.getElem?_eq_getElem (show i < xs.length by omega))
          obtain ⟨y, hy, _⟩ := rb.get (List.getElem?_eq_getElem (show i < ys.length by omega))
          exact ⟨us, vs, x, y, t2 _ _ sa, sb, hx, hy⟩
        · obtain ⟨T, u, v, rfl, nT, rfl, y1, y2⟩ := y
          obtain ⟨vs, sb, rb⟩ := wd_seq w2 l2
          obtain ⟨d, hd, rd⟩ := (ra.mono t2).getV (y1 us (t2 _ _ sa))
          obtain ⟨e, he, re⟩ := rb.getV (y2 vs sb)
          have s' := same_new nT (.tup [u, v])
          exact ⟨s', _, zipD_get hd he, .tup (SqT.of upd_same) (.cons (rd.mono (.of s')) (.cons (re.mono (.of s')) .nil))⟩
        · rw [zipD_len] at hi
          obtain ⟨vs, sb, rb⟩ := wd_seq w2 l2
          have la := ra.len
          have lb := rb.len
          exact ⟨us, vs, t2 _ _ sa, sb, by omega, by omega, by omega⟩⟩
/-- zip of a text with a list of the same length -/
def dIZipSL (t : TDA) : TDI := fun δ G R => t δ G fun vs G1 => ∃ z q ys, vs = [.str z, .ref q] ∧ Ls G1 q ys ∧ (signs z).length = ys.length ∧ R (zipD (signs z) ys) (fun G => Ls G q ys) G1
theorem di_zipSL {a b : Expr} {t : TDA} {p pos : Pos} (hm : X.mg "zip" = none) (hg : Gl X "zip") (ha : DA X [a, b] t) (hs : starEach [a, b] X.env = (false, eval a X.env) :: starEach [b] X.env := by rfl) (hpl : (backTo pos (starEach [b] X.env)).any (·.1) = false := by rfl) : DI X (.Tuple elts kk tpos) (.Call (.Name "zip" p) [a, b] [] pos) (dIZipSL t) :=
  PI_mono (pi_zipS hg hm ha hs hpl) fun σ H R' ⟨δ, G, R, sl, w, q, f⟩ => ⟨δ, G, _, sl, w, q, fun ds G1 vs H1 q1 t1 w1 r1 => by
    obtain ⟨z, q, ys, rfl, ly, hl, q1⟩ := q1
    have hz : (signs z).length = z.cps.size := by unfold signs; rw [List.length_map, Array.length_toList]
    cases r1 with
    | cons ra rb =>
      cases rb with
      | cons rb rn =>
        cases rn
        cases rb
        cases ra
        obtain ⟨vs, sb, rb⟩ := wd_seq w1 ly
        refine ⟨z, q, vs, rfl, sb, f _ _ _ _ _ q1 t1 w1 ⟨fun i H2 G2 t2 w2 l2 hi => ?_, fun i H2 G2 x H3 t2 w2 l2 hi y => ?_, fun i H2 G2 t2 w2 l2 hi => ?_⟩⟩
        · rw [zipD_len] at hi
          obtain ⟨vs, sb, rb⟩ := wd_seq w2 l2
          obtain ⟨y, hy, _⟩ := rb.get (List.getElem?_eq_getElem (show i < ys.length by omega))
          exact ⟨vs, z.cps[i]'(by omega), y, sb, Array.getElem?_eq_getElem _, hy⟩
        · obtain ⟨T, c, v, rfl, nT, rfl, y1, y2⟩ := y
          obtain ⟨vs, sb, rb⟩ := wd_seq w2 l2
          obtain ⟨e, he, re⟩ := rb.getV (y2 vs sb)
          have hd : (signs z)[i]? = some (.str ⟨#[c]⟩) := by
            unfold signs
            rw [List.getElem?_map, Array.getElem?_toList, y1]; rfl
          have s' := same_new nT (.tup [.str ⟨#[c]⟩, v])
          exact ⟨s', _, zipD_get hd he, .tup (SqT.of upd_same) (.cons (.str _) (.cons (re.mono (.of s')) .nil))⟩
        · rw [zipD_len] at hi
          obtain ⟨vs, sb, rb⟩ := wd_seq w2 l2
          have lb := rb.len
          exact ⟨vs, sb, by omega, by omega, by omega⟩⟩
variable {δ : DSt} {G : DG} {ts : TDA} {RI : List DV → (DG → Prop) → DG → Prop}
theorem wi_zipTL (h : ts δ G fun vs G1 => ∃ xs q ys, vs = [.tup xs, .ref q] ∧ Ls G1 q ys ∧ xs.length = ys.length ∧ RI (zipD xs ys) (fun G => Ls G q ys) G1) : dIZipTL ts δ G RI := h
theorem wi_zipSL (h : ts δ G fun vs G1 => ∃ z q ys, vs = [.str z, .ref q] ∧ Ls G1 q ys ∧ (signs z).length = ys.length ∧ RI (zipD (signs z) ys) (fun G => Ls G q ys) G1) : dIZipSL ts δ G RI := h
end
end DD
set_option maxHeartbeats 1000000
namespace K14
open PySem PySem.W L2 SX Cm DD
local macro_rules | `(tactic| walk_at "d1") => `(tactic| first | (with_reducible refine w_go ?_) | ((with_reducible show dVar _ _ _ _); refine w_var rfl ?_) | (with_reducible refine w_exI ?_) | (with_reducible refine w_exB ?_) | (with_reducible refine w_exT ?_) | (with_reducible refine w_exS ?_) | (with_reducible refine w_parE ?_) | (with_reducible refine ly1 ?_) | (with_reducible refine ly2 ?_) | (with_reducible refine lt1' ?_) | (with_reducible refine lt2' ?_) | (with_reducible refine wx_enumT ?_) | (with_reducible refine w_callX ?_) | (with_reducible refine w_methX ?_) | (with_reducible refine w_raise ?_) | (with_reducible refine w_try ?_) | (with_reducible refine w_xSet ?_) | (with_reducible refine w_xExpr ?_) | (with_reducible refine w_xLst ?_) | (with_reducible refine w_xTup ?_) | (with_reducible refine w_xCons ?_) | (with_reducible refine w_xNil ?_) | (with_reducible refine w_xE ?_) | (with_reducible refine w_xCall ?_) | (with_reducible refine w_call0 ?_) | (with_reducible refine w_asgL ?_) | (with_reducible refine w_tupPd ?_) | (with_reducible refine wi_zip ?_) | (with_reducible refine w_delT ?_) | (with_reducible refine w_dc ?_) | (with_reducible refine w_revL ?_) | (with_reducible refine wi_revT ?_) | (with_reducible refine w_lstZip ?_) | (with_reducible refine w_chain ?_) | (with_reducible refine w_orT ?_) | (with_reducible refine w_try0 ?_) | (with_reducible refine w_xAsg ?_) | (with_reducible refine wi_zipTL ?_) | (with_reducible refine wi_zipSL ?_) | ((with_reducible show gT _ _ _ _ _ _); refine g_T ?_ rfl) | ((with_reducible show ∃ p, DV.ref _ = _ ∧ (∃ kvs, _) ∧ _); refine wx_get (by walk_at "gq") ?_) | ((with_reducible show ∃ kvs z, _ = _ ∧ _ = some (DO.dct _) ∧ _); refine wx_get2 (by walk_at "gq") ?_) | ((with_reducible show ∃ p kvs z, _ = _ ∧ _ = _ ∧ _ = some (DO.dct _) ∧ _); refine wx_in (by walk_at "gq") ?_) | ((with_reducible show List.length _ = _ ∧ _); refine w_len ?_ rfl) | ((with_reducible show List.length _ ≤ sizeLine ∧ _); refine w_sz ?_ (szl rfl)) | ((with_reducible show bIx _ (.int _) _ _); first | refine w_ix0 ?_ | refine w_ix1 ?_ | refine w_ix2 ?_ | refine w_ix3 ?_) | ((with_reducible show bIsi [_, _] _ _); first | refine w_isi (by decide) (a := "tuple") rfl rfl ?_ | refine w_isi (by decide) (a := "str") rfl rfl ?_ | refine w_isi (by decide) (a := "int") rfl rfl ?_ | refine w_isi (by decide) (a := "bool") rfl rfl ?_ | refine w_isi (by decide) (a := "NoneType") rfl rfl ?_) | ((with_reducible show ∃ ds, _ = DV.tup ds ∧ _); refine w_exT ?_) | ((with_reducible show ∃ z, _ = DV.str z ∧ _); refine w_exS ?_) | ((with_reducible show ∃ ds, [_] = [DV.tup ds] ∧ _); refine wx_enumT ?_) | ((with_reducible show bSl _ _ _ _ _); refine w_slT ?_) | ((with_reducible show bTuple [_] _ _); refine w_tupT ?_) | ((with_reducible show bLen [_] _ _); refine w_lenT ?_) | ((with_reducible show bTru _ _ _); first | refine w_truT ?_ | refine w_truN ?_ | refine w_truB ?_ | refine w_truI ?_) | ((with_reducible show bEq _ _ _ _ _); first | refine w_eqSS ?_ | refine w_eqII ?_ | refine w_neSS ?_ | refine w_neII ?_ | refine w_eqT0 ?_) | ((with_reducible show bInt _ _ (.int _) (.int _) _ _); refine w_int (by first | decide | exact ⟨by decide, by decide, by decide⟩ | exact .inl ⟨by decide, by decide⟩ | exact .inr ⟨by decide, by decide⟩) ?_) | ((with_reducible show if _ = true then _ else _); first | refine w_it (by first | rfl | decide +kernel) ?_ | refine w_if0 (by first | rfl | decide +kernel) ?_) | ((with_reducible show rcv "list" (.ref _) _ ∧ _); refine w_rcvL (by walk_at "gq") ?_) | ((with_reducible show bTuple [.ref _] _ _); refine w_tupL (by walk_at "gq") ?_) | ((with_reducible show bLen [.ref _] _ _); refine w_lenL (by walk_at "gq") ?_) | ((with_reducible show bTru (.ref _) _ _); refine w_truL (by walk_at "gq") ?_) | ((with_reducible show ∃ _ _, DV.ref _ = _ ∧ Ls _ _ _ ∧ _); refine wx_lst (by walk_at "gq") ?_) | ((with_reducible show ∃ _ _, [DV.ref _] = _ ∧ Ls _ _ _ ∧ _); refine wx_lstA (by walk_at "gq") ?_))
local macro_rules | `(tactic| walk_at "dd") => `(tactic| repeat (walk_at "d1"))
local macro_rules | `(tactic| walk_at "gq") => `(tactic| first | assumption | exact dupd_same | exact sub_get (by assumption) (by walk_at "gq") | exact upd_get (by assumption) (by walk_at "gq") (by walk_at "gn") | exact subx_get (by assumption) (by walk_at "gq") (by walk_at "gn") | (refine (dupd_ne ?_).trans ?_; (focus walk_at "gn"); walk_at "gq"))
local macro_rules | `(tactic| walk_at "gs") => `(tactic| first | assumption | exact Sub.refl _ | exact sub_tr (by assumption) (by walk_at "gs") | exact sub_up (by assumption) (by walk_at "gs") (by walk_at "g0") | exact sub_ux (by assumption) (by walk_at "gs") (by walk_at "g0") | (refine Sub.new ?_ ?_; (focus walk_at "gs"); walk_at "g0"))
local macro_rules | `(tactic| walk_at "gk") => `(tactic| first | assumption | exact db_sub (by assumption) (by walk_at "gk") | exact db_upd (by assumption) (by walk_at "gk") ⟨_, by walk_at "gq"⟩ | exact db_updD (by assumption) (by walk_at "gk") ⟨_, by walk_at "gq"⟩)
local macro_rules | `(tactic| walk_at "gu") => `(tactic| first | assumption | exact Upd.refl _ _ | exact upd_in (by assumption) (by walk_at "gu"))
local macro_rules | `(tactic| walk_at "gx") => `(tactic| first | assumption | exact SubX.refl _ _ | exact subx_sub (by assumption) (by walk_at "gx") | exact subx_upd (by assumption) (by walk_at "gx") | exact subx_tr (by assumption) (by walk_at "gx"))
local macro_rules | `(tactic| walk_at "gn") => `(tactic| first | assumption | exact Ne.symm (by assumption) | exact ne_ns (by assumption) ⟨_, by walk_at "gq"⟩ | exact ne_sn (by assumption) ⟨_, by walk_at "gq"⟩)
local macro_rules | `(tactic| walk_at "g0") => `(tactic| first | assumption | exact nn_ (by assumption) (by walk_at "gs"))
theorem zipD_inv {xs ys : List DV} {i : Nat} {d : DV} (h : (zipD xs ys)[i]? = some d) : ∃ x y, xs[i]? = some x ∧ ys[i]? = some y ∧ d = .tup [x, y] := by
  have hl : i < (zipD xs ys).length := (List.getElem?_eq_some_iff.mp h).1
  rw [zipD_len] at hl
  have e1 : xs[i]? = some (xs[i]'(by omega)) := List.getElem?_eq_getElem _
  have e2 : ys[i]? = some (ys[i]'(by omega)) := List.getElem?_eq_getElem _
  rw [zipD_get e1 e2] at h
  cases h
  exact ⟨_, _, e1, e2, rfl⟩
theorem acc_th {acc : List DV} {f : Nat → Th} {ps : List Nat} (l : acc.length = ps.length) (h : ∀ (i : Nat) y, acc[i]? = some y → ∀ p, ps[i]? = some p → y = eT (f p)) : acc = eTs (ps.map f) := by
  rw [eTs_map, List.map_map]
  refine List.ext_getElem? fun i => ?_
  rw [List.getElem?_map]
  by_cases hi : i < acc.length
  · have e2 : ps[i]? = some (ps[i]'(by omega)) := List.getElem?_eq_getElem _
    rw [e2, List.getElem?_eq_getElem hi, h i _ (List.getElem?_eq_getElem hi) _ e2]; rfl
  · rw [List.getElem?_eq_none (by omega), List.getElem?_eq_none (by omega)]; rfl
section
variable {P : Program} {w : World} {K : Frag} {mg : Str → Option Value} {base : Heap}
/-- a book's entries -/
def eBk (bk : Bok) : List DV := bk.map fun x => .tup [.str x.1, .non, .tup (eWs x.2)]
def SP_eb (N : Addr) : DSpX := fun ds G R RX => ∃ b p ts, ds = [.str (nmBas b), .ref p] ∧ G p = some (.lst (eTs ts)) ∧ ts.length ≤ 1000000 ∧ gdTs ts ∧ szTs ts ≤ 400000 ∧ (ts.length < (srtB b).length → RX (.ref N) G) ∧ ((srtB b).length ≤ ts.length → deedB b (ts.drop (ts.length - (srtB b).length)) = none → RX (.ref N) G) ∧ (∀ l a, (srtB b).length ≤ ts.length → deedB b (ts.drop (ts.length - (srtB b).length)) = some (l, a) → R (.tup [.int ((srtB b).length : Nat), .tup (eTs l), .tup (eWs a)]) G)
def SP_es (N : Addr) : DSpX := fun ds G R RX => ∃ n ps p ts, ds = [.str (shT n ps), .ref p] ∧ G p = some (.lst (eTs ts)) ∧ ShOk n ps ∧ ts.length ≤ 1000000 ∧ (n ≤ ts.length → R (.tup [.int (n : Nat), .tup (eTs (ps.map (atTh (ts.drop (ts.length - n))))), .tup []]) G) ∧ (ts.length < n → RX (.ref N) G)
def SP_rt (N : Addr) : DSpX := fun ds G R RX => ∃ z d bk, ds = [.str z, d] ∧ ((d = .non ∧ bk = []) ∨ d = .tup (eBk bk)) ∧ (∀ r, rowTold bk z = some r → R (.tup (eWs r)) G) ∧ (rowTold bk z = none → RX (.ref N) G)
def SP_eo (N : Addr) : DSpX := fun ds G R RX => ∃ wd p ts d bk, ds = [eW wd, .ref p, d] ∧ G p = some (.lst (eTs ts)) ∧ ts.length ≤ 1000000 ∧ gdTs ts ∧ szTs ts ≤ 400000 ∧ gdW wd ∧ ((d = .non ∧ bk = []) ∨ d = .tup (eBk bk)) ∧ (∀ n l a, effW bk ts wd = some (n, l, a) → R (.tup [.int (n : Nat), .tup (eTs l), .tup (eWs a)]) G) ∧ (effW bk ts wd = none → RX (.ref N) G)
abbrev N_p_effect_of_basic : List Str := ["word", "stack", "sorts", "sort", "thing", "held", "does", "left", "ahead"]
abbrev A_p_effect_of_basic : List Str := ["word", "stack"]
theorem sc_p_effect_of_basic : FnScope N_p_effect_of_basic A_p_effect_of_basic (defScope s_p_effect_of_basic) := ⟨rfl, rfl, rfl, by decide +kernel, rfl, by decide +kernel, by decide +kernel⟩
theorem h_p_effect_of_basic (a : At K mg "effect_of_basic" s_p_effect_of_basic A_p_effect_of_basic) {e_NoStep dS dD : Addr} (B : BI mg) (hS : ∀ b, ItK K w dS (nmBas b) (.tup ((srtB b).map fun s => .str (nmSo s)))) (hD : ∀ b, ∃ f, ItK K w dD (nmBas b) (.ref f) ∧ HasA P w K mg base 2 f ["held"] (SP_dm b)) (c_p_held_as : HasX P w K mg base 1 "held_as" A_p_held_as (SP_ha e_NoStep)) (c_p_top_of : HasX P w K mg base 1 "top_of" A_p_top_of (SP_to e_NoStep)) (g_SORTS_TAKEN : mg "SORTS_TAKEN" = some (.ref dS)) (g_DOES : mg "DOES" = some (.ref dD)) : HasX P w K mg base 3 "effect_of_basic" A_p_effect_of_basic (SP_eb e_NoStep) := by
  refine atx_mk a sc_p_effect_of_basic fun f cdv A outer s H E hr ds G R RX hl hx h => ?_
  obtain ⟨bz, p0, ts, rfl, hp0, lts, gd0, zs0, q0, q1, q2⟩ := h
  obtain ⟨fz, hi, hA⟩ := hD bz
  refine ⟨_, (dss_cons (ds_set (i := 2) sc_p_effect_of_basic.nd rfl (.inl rfl) (de_kit (de_gref g_SORTS_TAKEN rfl) (dv 0)))
    (dss_cons (ds_setLcX (i := 5) (own := [("sort", 3), ("thing", 4)]) (lt2 (i := 3) (j := 4) (by decide) (by decide)) rfl rfl (takes_of rfl rfl rfl rfl) rfl sc_p_effect_of_basic.nd rfl rfl (sw_true rfl rfl rfl (by decide +kernel)) (di_zipTL B.zip rfl (da_cons (dv 2) (da_cons (de_callX c_p_top_of hx (takes_of rfl rfl rfl rfl) (hr.mono (by omega)) rfl (da_cons (dv 1) (da_cons (de_callB cd_len B.len rfl (by decide +kernel) (da_cons (dv 2) da_nil)) da_nil))) da_nil))) (blkOk_by (own := [("sort", 3), ("thing", 4)]) (N := N_p_effect_of_basic) (sc := defScope s_p_effect_of_basic) (by decide +kernel)) (fun _ _ _ _ _ => pg_tup rfl (pgs_cons (pg_name (i := 3) sc_p_effect_of_basic.nd rfl (Or.inl rfl)) (pgs_cons (pg_name (i := 4) sc_p_effect_of_basic.nd rfl (Or.inl rfl)) pgs_nil))) (fun _ _ _ _ _ => dts_nil) (fun _ _ _ _ _ _ _ t0 hp => (de_callE c_p_held_as (hx.step t0) hp (hr.mono (by omega)) rfl (da_cons (dv 3) (da_cons (dv 4) da_nil)))))
    (dss_cons (ds_set (i := 6) sc_p_effect_of_basic.nd rfl (.inl rfl) (de_kit (de_gref g_DOES rfl) (dv 0)))
    (dss_cons (ds_asg (de_callL (i := 6) hA (hr.mono (by omega)) rfl (.inl rfl) (da_cons (dv 5) da_nil)) (dg_tup rfl (dgs_cons (dg_name (i := 7) sc_p_effect_of_basic.nd rfl (.inl rfl)) (dgs_cons (dg_name (i := 8) sc_p_effect_of_basic.nd rfl (.inl rfl)) dgs_nil))))
    (dss_one (ds_ret (de_tup (da_cons (de_callB cd_len B.len rfl (by decide +kernel) (da_cons (dv 2) da_nil)) (da_cons (dv 7) (da_cons (dv 8) da_nil)))))))))), ?_⟩
  have l3 := (srtB_len bz).2
  walk_at "dd"
  refine w_kit (hS bz) ?_
  walk_at "dd"
  rw [List.length_map]
  refine ⟨p0, ts, (srtB bz).length, rfl, hp0, lts, fun hn p1 G1 s1 h1 => ?_, fun hn => LessX.of (q0 hn)⟩
  replace q1 := q1 hn
  replace q2 := fun l a => q2 l a hn
  obtain ⟨c1, c2, c3⟩ := szTs_cut ts (ts.length - (srtB bz).length)
  have gdp := gdTs_drop (ts.length - (srtB bz).length) gd0
  have hl0 : (ts.drop (ts.length - (srtB bz).length)).length = (srtB bz).length := by rw [List.length_drop]; omega
  generalize ts.drop (ts.length - (srtB bz).length) = tp at h1 q1 q2 c1 gdp hl0
  refine ⟨_, p1, eTs tp, rfl, .inl h1, by rw [List.length_map, eTs_len, hl0], ?_⟩
  have lz : (zipD ((srtB bz).map fun s => DV.str (nmSo s)) (eTs tp)).length = (srtB bz).length := by
    rw [zipD_len, List.length_map, eTs_len]; omega
  refine lcs_each (fun i y => ∀ s t, (srtB bz)[i]? = some s → tp[i]? = some t → fitB s t = true ∧ y = hldD s t) (fun G' s => .inl (s _ _ h1)) (by rw [lz]; omega) ?_ ?_
  · intro i d hd G' k1 k0 s' e1
    obtain ⟨x, y, hx, hy, rfl⟩ := zipD_inv hd
    rw [List.getElem?_map] at hx
    obtain ⟨s, hs, rfl⟩ := Option.map_eq_some_iff.mp hx
    rw [eTs_map, List.getElem?_map] at hy
    obtain ⟨t, ht, rfl⟩ := Option.map_eq_some_iff.mp hy
    walk_at "dd"
    refine ⟨s, t, rfl, fun h => e1 _ fun s2 t2 h1 h2 => ?_, fun h => ?_⟩
    · rw [hs] at h1; rw [ht] at h2; cases h1; cases h2
      exact ⟨h, rfl⟩
    · rcases deed_know bz tp hl0 with ⟨_, ha⟩ | ⟨hno, _⟩
      · rw [fits_get ha hs ht] at h; cases h
      · exact ⟨G, s1.trans s', q1 hno⟩
  intro p3 G3 acc n3 s3 h3 la he
  rw [lz] at la
  have hacc : acc = hlds (srtB bz) tp := by
    refine List.ext_getElem? fun i => ?_
    by_cases hi : i < acc.length
    · have e1 : (srtB bz)[i]? = some ((srtB bz)[i]'(by omega)) := List.getElem?_eq_getElem _
      have e2 : tp[i]? = some (tp[i]'(by omega)) := List.getElem?_eq_getElem _
      have e3 := List.getElem?_eq_getElem hi
      rw [hlds_get e1 e2, e3, (he i _ e3 _ _ e1 e2).2]
    · rw [List.getElem?_eq_none (by omega), List.getElem?_eq_none (by rw [hlds_len hl0]; omega)]
  rcases deed_know bz tp hl0 with ⟨⟨⟨l, a⟩, ht⟩, _⟩ | ⟨_, hf⟩
  · walk_at "dd"
    refine w_kit hi ?_
    walk_at "dd"
    refine w_callL rfl ?_
    walk_at "dd"
    refine ⟨p3, tp, l, a, rfl, by rw [← hacc]; exact h3, hl0, ht, gdp, by omega, ?_⟩
    walk_at "dd"
    rw [List.length_map]
    exact ⟨G, s1.trans s3, q2 l a ht⟩
  · exfalso
    obtain ⟨i, s, t, h1, h2, h4⟩ := fits_no hf
    have hi' : i < acc.length := by rw [la]; exact (List.getElem?_eq_some_iff.mp h1).1
    have := (he i _ (List.getElem?_eq_getElem hi') s t h1 h2).1
    rw [this] at h4; cases h4
abbrev N_p_effect_of_shuffle : List Str := ["word", "stack", "n", "picks", "things", "pick"]
abbrev A_p_effect_of_shuffle : List Str := ["word", "stack"]
theorem sc_p_effect_of_shuffle : FnScope N_p_effect_of_shuffle A_p_effect_of_shuffle (defScope s_p_effect_of_shuffle) := ⟨rfl, rfl, rfl, by decide +kernel, rfl, by decide +kernel, by decide +kernel⟩
theorem h_p_effect_of_shuffle (a : At K mg "effect_of_shuffle" s_p_effect_of_shuffle A_p_effect_of_shuffle) {e_NoStep : Addr} (B : BI mg) (c_p_taken_left : HasX P w K mg base 2 "taken_left" A_p_taken_left SP_tk) (c_p_top_of : HasX P w K mg base 1 "top_of" A_p_top_of (SP_to e_NoStep)) : HasX P w K mg base 3 "effect_of_shuffle" A_p_effect_of_shuffle (SP_es e_NoStep) := by
  refine atx_mk a sc_p_effect_of_shuffle fun f cdv A outer s H E hr ds G R RX hl hx h => ?_
  refine ⟨_, (dss_cons (ds_asg (de_callX c_p_taken_left hx (takes_of rfl rfl rfl rfl) (hr.mono (by omega)) rfl (da_cons (dv 0) da_nil)) (dg_tup rfl (dgs_cons (dg_name (i := 2) sc_p_effect_of_shuffle.nd rfl (.inl rfl)) (dgs_cons (dg_name (i := 3) sc_p_effect_of_shuffle.nd rfl (.inl rfl)) dgs_nil))))
    (dss_cons (ds_set (i := 4) sc_p_effect_of_shuffle.nd rfl (.inr rfl) (de_callX c_p_top_of hx (takes_of rfl rfl rfl rfl) (hr.mono (by omega)) rfl (da_cons (dv 1) (da_cons (dv 2) da_nil))))
    (dss_one (ds_ret (de_tup (da_cons (dv 2) (da_cons (de_callTy cd_tuple B.tup rfl (by decide +kernel) (da_cons (de_lc (own := [("pick", 5)]) (lt1 (i := 5) (by decide)) rfl sc_p_effect_of_shuffle.nd (di_tup (dv 3)) (blkOk_by (own := [("pick", 5)]) (N := N_p_effect_of_shuffle) (sc := defScope s_p_effect_of_shuffle) (by decide +kernel)) (fun _ _ _ _ _ => pg_name (i := 5) sc_p_effect_of_shuffle.nd rfl (Or.inl rfl)) (fun _ _ _ _ _ => dts_nil) (fun _ _ _ _ _ => (de_ix (dv 4) (dv 5)))) da_nil)) (da_cons (de_tup da_nil) da_nil)))))))), ?_⟩
  obtain ⟨n, ps, p, ts, rfl, hp, hs, l, q, qx⟩ := h
  walk_at "dd"
  refine ⟨n, ps, rfl, hs, ?_⟩
  walk_at "dd"
  refine ⟨p, ts, n, rfl, hp, l, fun hn p1 G1 s1 h1 => ?_, fun hn => LessX.of (qx hn)⟩
  replace q := q hn
  have ln : (ts.drop (ts.length - n)).length = n := by rw [List.length_drop]; omega
  walk_at "dd"
  generalize ts.drop (ts.length - n) = th at ln h1 q
  refine lcs_each (fun i y => ∀ p, ps[i]? = some p → y = eT (atTh th p)) (fun _ _ => trivial) (by rw [List.length_map]; have := hs.hl; omega) ?_ ?_
  · intro i y hy G' k1 k0 s' e1
    rw [List.getElem?_map] at hy
    obtain ⟨p, hp, rfl⟩ := Option.map_eq_some_iff.mp hy
    have hp' := hs.hp p (List.mem_of_getElem? hp)
    have h1' := s' _ _ h1
    walk_at "dd"
    refine w_ixL (i := (p : Int)) h1' (atI_nat (j := p) (by rw [eTs_map, List.getElem?_map, atTh_get (show p < th.length by omega)]; rfl)) ?_
    refine e1 _ fun p2 hp2 => ?_
    rw [hp] at hp2; cases hp2; rfl
  intro p3 G3 acc n3 s3 h3 la he
  rw [List.length_map] at la
  have ha := acc_th (f := atTh th) la he
  subst ha
  walk_at "dd"
  exact ⟨G, s1.trans s3, q⟩
abbrev N_p_row_told : List Str := ["name", "book", "told"]
abbrev A_p_row_told : List Str := ["name", "book"]
theorem sc_p_row_told : FnScope N_p_row_told A_p_row_told (defScope s_p_row_told) := ⟨rfl, rfl, rfl, by decide +kernel, rfl, by decide +kernel, by decide +kernel⟩
theorem h_p_row_told (a : At K mg "row_told" s_p_row_told A_p_row_told) (B : BI mg) {e_NoStep : Addr} (x_NoStep : ErrC K mg "NoStep" e_NoStep) : HasX P w K mg base 1 "row_told" A_p_row_told (SP_rt e_NoStep) := by
  refine atx_mk a sc_p_row_told fun f cdv A outer s H E hr ds G R RX hl hx h => ?_
  refine ⟨_, (dss_cons (ds_for (passes_of rfl) rfl (di_tup (de_orN (dv 1) (de_one (de_tup da_nil)))) (dg_name (i := 2) sc_p_row_told.nd rfl (.inl rfl)) (dss_one (ds_if (dt_cmp (od_eq hr.units) (de_ix (dv 2) de_int) (dv 0) (nomark _)) (dss_one (ds_ret (de_ix (dv 2) de_int))) dss_nil)))
    (dss_one (ds_raiseC x_NoStep rfl hx (takes_of rfl rfl rfl rfl) rfl))), ?_⟩
  obtain ⟨z, d, bk, rfl, hd, q, qx⟩ := h
  rcases hd with ⟨rfl, rfl⟩ | rfl
  · walk_at "dd"
    refine w_orN ?_
    walk_at "dd"
    refine .inl ⟨rfl, ?_⟩
    walk_at "dd"
    refine for_by (fun i δ G' => δ = [some (.str z), some .non, none] ∧ G' = G) (fun _ _ _ _ => trivial) ⟨rfl, rfl⟩ ?_ ?_
    · rintro i y δ G' hy ⟨rfl, rfl⟩
      cases hy
    · rintro δ G' ⟨rfl, rfl⟩
      walk_at "dd"
      exact LessX.of (qx rfl)
  · walk_at "dd"
    refine w_orN ?_
    walk_at "dd"
    refine .inr ⟨_, rfl, ?_⟩
    cases hbk : !(eBk bk).isEmpty with
    | true =>
      refine w_it rfl ?_
      walk_at "dd"
      refine for_by (fun i δ G' => ∃ x2, δ = [some (.str z), some (.tup (eBk bk)), x2] ∧ G' = G ∧ rowTold bk z = rowTold (bk.drop i) z) (fun _ _ _ _ => trivial) ⟨_, rfl, rfl, rfl⟩ ?_ ?_
      · rintro i y δ G' hy ⟨x2, rfl, rfl, hno⟩
        unfold eBk at hy
        rw [List.getElem?_map] at hy
        obtain ⟨x, hx, rfl⟩ := Option.map_eq_some_iff.mp hy
        have hd : bk.drop i = x :: bk.drop (i + 1) := by
          have hi := (List.getElem?_eq_some_iff.mp hx).1
          rw [List.drop_eq_getElem_cons hi]
          have e : bk[i] = x := by rw [List.getElem?_eq_getElem hi] at hx; exact Option.some.inj hx
          rw [e]
        obtain ⟨n0, r0⟩ := x
        rw [hd] at hno
        have hno : rowTold bk z = if n0 = z then some r0 else rowTold (bk.drop (i + 1)) z := hno
        walk_at "dd"
        by_cases e : n0 = z
        · refine w_it (decide_eq_true e) ?_
          walk_at "dd"
          rw [if_pos e] at hno
          exact Less.of (q _ hno)
        · refine w_if0 (decide_eq_false e) ?_
          walk_at "dd"
          rw [if_neg e] at hno
          exact ⟨_, rfl, rfl, hno⟩
      · rintro δ G' ⟨x2, rfl, rfl, hno⟩
        unfold eBk at hno
        rw [List.length_map, List.drop_length] at hno
        walk_at "dd"
        exact LessX.of (qx hno)
    | false =>
      have e0 : bk = [] := by
        cases bk with
        | nil => rfl
        | cons x r => cases hbk
      subst e0
      refine w_if0 rfl ?_
      walk_at "dd"
      refine for_by (fun i δ G' => δ = [some (.str z), some (.tup (eBk [])), none] ∧ G' = G) (fun _ _ _ _ => trivial) ⟨rfl, rfl⟩ ?_ ?_
      · rintro i y δ G' hy ⟨rfl, rfl⟩
        cases hy
      · rintro δ G' ⟨rfl, rfl⟩
        walk_at "dd"
        exact LessX.of (qx rfl)
abbrev N_p_effect_of : List Str := ["word", "stack", "book"]
abbrev A_p_effect_of : List Str := ["word", "stack", "book"]
theorem sc_p_effect_of : FnScope N_p_effect_of A_p_effect_of (defScope s_p_effect_of) := ⟨rfl, rfl, rfl, by decide +kernel, rfl, by decide +kernel, by decide +kernel⟩
theorem h_p_effect_of {e_NoStep : Addr} (a : At K mg "effect_of" s_p_effect_of A_p_effect_of) (B : BI mg) (c_p_is_basic : Has P w K mg base 1 "is_basic" A_p_is_basic SP_isb) (c_p_effect_of_basic : HasX P w K mg base 3 "effect_of_basic" A_p_effect_of_basic (SP_eb e_NoStep)) (c_p_is_shuffle : Has P w K mg base 1 "is_shuffle" A_p_is_shuffle SP_ish) (c_p_effect_of_shuffle : HasX P w K mg base 3 "effect_of_shuffle" A_p_effect_of_shuffle (SP_es e_NoStep)) (c_p_row_told : HasX P w K mg base 1 "row_told" A_p_row_told (SP_rt e_NoStep)) : HasX P w K mg base 4 "effect_of" A_p_effect_of (SP_eo e_NoStep) := by
  refine atx_mk a sc_p_effect_of fun f cdv A outer s H E hr ds G R RX hl hx h => ?_
  refine ⟨_, (dss_cons (ds_if (dt_e (de_callB cd_isi B.isi rfl (by decide +kernel) (da_cons (dv 0) (da_cons (de_ty (n := "tuple") B.tup rfl (by decide +kernel)) da_nil)))) (dss_one (ds_ret (de_tup (da_cons de_int (da_cons (de_tup (da_cons (de_ix (dv 0) de_int) da_nil)) (da_cons (de_tup da_nil) da_nil)))))) dss_nil)
    (dss_cons (ds_if (dt_e (de_call c_p_is_basic (hr.mono (by omega)) rfl (da_cons (dv 0) da_nil))) (dss_one (ds_ret (de_callX c_p_effect_of_basic hx (takes_of rfl rfl rfl rfl) (hr.mono (by omega)) rfl (da_cons (dv 0) (da_cons (dv 1) da_nil))))) dss_nil)
    (dss_cons (ds_if (dt_e (de_call c_p_is_shuffle (hr.mono (by omega)) rfl (da_cons (dv 0) da_nil))) (dss_one (ds_ret (de_callX c_p_effect_of_shuffle hx (takes_of rfl rfl rfl rfl) (hr.mono (by omega)) rfl (da_cons (dv 0) (da_cons (dv 1) da_nil))))) dss_nil)
    (dss_one (ds_ret (de_tup (da_cons de_int (da_cons (de_tup da_nil) (da_cons (de_callX c_p_row_told hx (takes_of rfl rfl rfl rfl) (hr.mono (by omega)) rfl (da_cons (dv 0) (da_cons (dv 2) da_nil))) da_nil))))))))), ?_⟩
  obtain ⟨wd, p, ts, d, bk, rfl, hp, lts, gd, zs, gw, hd, q, qx⟩ := h
  cases wd with
  | push t =>
    rw [show eW (.push t) = .tup [.str "push", eT t] from rfl]
    walk_at "dd"
    exact Less.of (q 0 [t] [] rfl)
  | txt z =>
    rw [show eW (.txt z) = .str z from rfl]
    rcases (gw : WD z) with hz | ⟨n, ps, rfl, hs⟩ | hn
    · obtain ⟨b, rfl⟩ := bkl_inv hz
      rw [effW_bas] at q qx
      walk_at "dd"
      refine ⟨_, rfl, ?_⟩
      rw [decide_eq_true hz]
      walk_at "dd"
      refine ⟨b, p, ts, rfl, hp, lts, gd, zs, fun h => LessX.of (qx (if_pos h)), fun h h2 => LessX.of (qx ?_), fun l a h h2 => Less.of (q _ l a ?_)⟩
      · rw [if_neg (by omega), h2]; rfl
      · rw [if_neg (by omega), h2]; rfl
    · rw [effW_sh] at q qx
      walk_at "dd"
      refine ⟨_, rfl, ?_⟩
      rw [decide_eq_false (sh_nb n ps)]
      walk_at "dd"
      refine ⟨_, rfl, .inl ⟨n, ps, rfl, hs, ?_⟩⟩
      walk_at "dd"
      refine ⟨n, ps, p, ts, rfl, hp, hs, lts, fun h => Less.of (q n _ [] (if_neg (by omega))), fun h => LessX.of (qx (if_pos h))⟩
    · rw [effW_nm bk ts hn] at q qx
      walk_at "dd"
      refine ⟨z, rfl, ?_⟩
      rw [decide_eq_false hn.nb]
      walk_at "dd"
      refine ⟨z, rfl, .inr ⟨hn.no, hn.ln, ?_⟩⟩
      walk_at "dd"
      refine ⟨z, d, bk, rfl, hd, fun r e => ?_, fun e => LessX.of (qx (by rw [e]; rfl))⟩
      walk_at "dd"
      exact Less.of (q 0 [] r (by rw [e]; rfl))
end
end K14
/-! chains of states -/
namespace DD
open PySem PySem.W L2 SX Cm
abbrev Sta := List Th × List Wo
def eSt (s : Sta) : DV := .tup [.tup (eTs s.1), .tup (eWs s.2)]
structure SOk (s : Sta) : Prop where
  gS : gdTs s.1
  gT : gdWs s.2
  zS : szTs s.1 ≤ 20000
  zT : szWs s.2 ≤ 20000
structure Chn (bk : Bok) (xs : List Sta) : Prop where
  nx : ∀ i s s', xs[i]? = some s → xs[i + 1]? = some s' → stepF bk s.1 s.2 = some s'
  ok : ∀ s ∈ xs, SOk s
def endOf (xs : List Sta) (most : Nat) : Str × Nat × Sta :=
  match xs[most]? with
  | some s => (if s.2.isEmpty = true then "ended" else "on", most, s)
  | none =>
    match xs[xs.length - 1]? with
    | some s => (if s.2.isEmpty = true then "ended" else "fault", xs.length - 1, s)
    | none => ("", 0, ([], []))
theorem endOf_in {xs : List Sta} {most : Nat} {s : Sta} (h : xs[most]? = some s) : endOf xs most = (if s.2.isEmpty = true then ("ended" : Str) else "on", most, s) := by
  unfold endOf
  simp only [h]
theorem endOf_out {xs : List Sta} {most i : Nat} {s : Sta} (h : xs.length ≤ most) (hi : i + 1 = xs.length) (hs : xs[i]? = some s) : endOf xs most = (if s.2.isEmpty = true then ("ended" : Str) else "fault", i, s) := by
  unfold endOf
  have e1 : xs[most]? = none := List.getElem?_eq_none h
  have e2 : xs.length - 1 = i := by omega
  simp only [e1, e2, hs]
theorem Chn.under {bk : Bok} {xs : List Sta} {m : Nat} {B : List Th} (hb : BokOk m bk) (c : Chn bk xs) (gB : gdTs B) (z : ∀ s ∈ xs, szTs B + szTs s.1 ≤ 20000) : Chn bk (xs.map fun s => (B ++ s.1, s.2)) where
  nx i s s' h1 h2 := by
    rw [List.getElem?_map] at h1 h2
    obtain ⟨t, ht, rfl⟩ := Option.map_eq_some_iff.mp h1
    obtain ⟨t', ht', rfl⟩ := Option.map_eq_some_iff.mp h2
    have ok := c.ok t (List.mem_of_getElem? ht)
    exact stepF_under hb ok.gT ok.gS (c.nx i t t' ht ht')
  ok s hs := by
    obtain ⟨t, ht, rfl⟩ := List.mem_map.mp hs
    have ok := c.ok t ht
    exact ⟨gdTs_app.mpr ⟨gB, ok.gS⟩, ok.gT, by rw [szTs_app]; exact z t ht, ok.zT⟩
theorem atI_end {xs : List DV} {v : DV} : L2.atI (xs ++ [v]) (-1) = some v := by
  have h : ixN (xs ++ [v]).length (-1) = some xs.length := by
    unfold ixN
    rw [List.length_append, List.length_singleton]
    simp
    omega
  unfold L2.atI
  rw [h]
  show (xs ++ [v])[xs.length]? = some v
  rw [List.getElem?_append_right (Nat.le_refl _), Nat.sub_self]; rfl
/-- all but L as ahead -/
def Frn (L : List Addr) (G G' : DG) : Prop := ∀ x o, x ∉ L → G x = some o → G' x = some o
theorem Frn.sub {B G G' : DG} {L : List Addr} (f : Frn L G G') (s : Sub B G) (n : ∀ x ∈ L, B x = none) : Sub B G' := fun x o e => f x o (fun z => by rw [n x z] at e; cases e) (s x o e)
theorem Frn.get {G G' : DG} {L : List Addr} {x : Addr} {o : DO} (f : Frn L G G') (h : G x = some o) (n : x ∉ L) : G' x = some o := f x o n h
end DD
/-! try .. except C: without a name; a tuple of names set within a try -/
namespace DD
open PySem PySem.W L2 SX Cm
section
variable {X : Cx}
def xAsg (te : TDX) (g : TDG) : TDSX := fun D δ G RX => te δ G (fun d G1 => g d δ G1 D.nx) RX
theorem dssx_asg {tg e : Expr} {te : TDX} {g : TDG} {pos : Pos} (he : DEX X e te) (hg : ∀ pn xe, DGt (X.tr pn xe) tg g) (hs : swapsWithSole [tg] e pos.line X.env = pure false := by rfl) (hw : swappedStores [tg] e X.env = pure none := by rfl) (h1 : (assignEach [tg] X.env).map (·.2) = [assign tg X.env] := by rfl) : DSsX X [.Assign [tg] e pos] (xAsg te g) := fun W pn xe tk po =>
  PSs_mono (pss_one (ps_asg (X := X.tr pn xe) (he W pn xe tk) (hg pn xe) hs hw h1)) fun D σ H ⟨D', δ, G, RX, sl, w, l, h, fx⟩ => ⟨δ, G, _, RX, sl, w, h, fun d G1 v H1 q t1 w1 r1 => ⟨d, δ, G1, _, r1, sl.mono t1, w1, q, fun δ2 G2 σ2 H2 q2 t2 w2 s2 => l.nx σ2 δ2 G2 H2 q2 (t1.trans t2) w2 s2⟩, fx⟩
/-- try: body; except c: suite -/
def dTry0 (K : Frag) (c : Value) (tb : TDSX) (ts : Addr → Value → TDS) : TDS := fun D δ G => tb D δ G fun cls G1 => exmOne K cls c = some true ∧ ∀ a, G1 a = none → ts a cls D δ G1
theorem ds_try0 {x : Str} {c : Value} {body suite : List Stmt} {b₀ : Stmt} {np pos pos' : Pos} {tb : TDSX} {ts : Addr → Value → TDS} (hs : X.stack = X.env :: X.outer) (hf : X.env.frame = some X.env.locals) (hc : Names X x c)
    (hb : DSsX X body tb) (hsu : ∀ (a : Addr) (oe : Obj) (cls : Value) (d : Option Addr) (pn : List (Addr × Obj)), Zc cls d oe → (∃ vs, oe.data = .fields vs) → d = none → DSs (X.suite a ((a, oe) :: pn)) (b₀ :: suite) (ts a cls)) :
    DS X (.Try body [.ExceptHandler (some (.Name x np)) none (b₀ :: suite) pos'] [] [] pos) (dTry0 X.K c tb ts) := by
  refine PS_mono (ps_try_only (Wout := fun _ _ _ _ => False) (tb := fun W => upSX X.K W tb) (ts := fun a cls d D σ H => d = none ∧ upS X.K (ts a cls) D σ H) hs hf hc takes0 (fun W pn xe tk po => hb W pn xe tk po) fun a oe cls d pn hz hv => ?_) fun D σ H ⟨D', δ, G, sl, w, l, h⟩ => ?_
  · refine ⟨fun pins s σ H D I ⟨ed, h⟩ => (hsu a oe cls d pn hz hv ed).run pins s σ H D I h⟩
  · exact ⟨D', δ, G, _, sl, w, l, h, fun cls G1 H1 ⟨he, h1⟩ t1 w1 => ⟨true, he, fun _ a na => ⟨rfl, D', _, G1, sl.mono t1, w1, l.step t1, h1 a (w1.free na)⟩, fun z => nomatch z⟩⟩
end
section
variable {K : Frag} {c : Value} {tb : TDSX} {ts : Addr → Value → TDS} {D : DEnds} {δ : DSt} {G : DG} {RX : DXk} {te : TDX} {g : TDG}
theorem w_try0 (h : tb D δ G fun cls G1 => exmOne K cls c = some true ∧ ∀ a, G1 a = none → ts a cls D δ G1) : dTry0 K c tb ts D δ G := h
theorem w_xAsg (h : te δ G (fun d G1 => g d δ G1 D.nx) RX) : xAsg te g D δ G RX := h
variable {X : Cx} {elts : List Expr}
end
end DD
/-! name += number; a module's tuple of texts -/
namespace DD
open PySem PySem.W L2 SX Cm
section
variable {X : Cx}
theorem ds_augI {i : Nat} {x : Str} {e : Expr} {te : TD} {pos' pos : Pos} (hN : X.N.Nodup) (hi : X.N[i]? = some x) (hx : Loc X.env.scope x) (he : DE X e te) (hf : X.fn x = true ∨ X.env.scope.names.lookup x = some .local := by first | exact .inl rfl | exact .inr rfl | assumption) :
    DS X (.AugAssign (.Name x pos') .Add e pos) (fun D δ G => ∃ a : Int, δ[i]? = some (some (.int a)) ∧ te δ G fun y G1 => ∃ b : Int, y = .int b ∧ D.nx (δ.set i (some (.int (a + b)))) G1) :=
  PS_mono (ps_aug (ti := rI0 fun i j => .int (i + j)) hN hi hx he (fun pins s σ H x y u w Q I r r1 q => iop_add pins s σ H x y u w Q I r r1 q) hf) fun D σ H ⟨D', δ, G, sl, w, l, a, ea, h⟩ => by
    obtain ⟨v, e1, r1⟩ := sl.get ea
    cases r1
    refine ⟨.int a, e1, δ, G, _, sl, w, h, fun d G1 vd H1 q t1 w1 r2 => ?_⟩
    obtain ⟨b, rfl, q⟩ := q
    cases r2
    exact ⟨a, b, rfl, rfl, l.nx _ _ G1 H1 q t1 w1 ((sl.mono t1).set (.int (a + b)) i)⟩
end
end DD
set_option maxHeartbeats 1000000
namespace K14
open PySem PySem.W L2 SX Cm DD
local macro_rules | `(tactic| walk_at "d1") => `(tactic| first | (with_reducible refine w_go ?_) | ((with_reducible show dVar _ _ _ _); refine w_var rfl ?_) | (with_reducible refine w_exI ?_) | (with_reducible refine w_exB ?_) | (with_reducible refine w_exT ?_) | (with_reducible refine w_exS ?_) | (with_reducible refine w_parE ?_) | (with_reducible refine ly1 ?_) | (with_reducible refine ly2 ?_) | (with_reducible refine lt1' ?_) | (with_reducible refine lt2' ?_) | (with_reducible refine wx_enumT ?_) | (with_reducible refine w_callX ?_) | (with_reducible refine w_methX ?_) | (with_reducible refine w_raise ?_) | (with_reducible refine w_try ?_) | (with_reducible refine w_xSet ?_) | (with_reducible refine w_xExpr ?_) | (with_reducible refine w_xLst ?_) | (with_reducible refine w_xTup ?_) | (with_reducible refine w_xCons ?_) | (with_reducible refine w_xNil ?_) | (with_reducible refine w_xE ?_) | (with_reducible refine w_xCall ?_) | (with_reducible refine w_call0 ?_) | (with_reducible refine w_asgL ?_) | (with_reducible refine w_tupPd ?_) | (with_reducible refine wi_zip ?_) | (with_reducible refine w_delT ?_) | (with_reducible refine w_dc ?_) | (with_reducible refine w_revL ?_) | (with_reducible refine wi_revT ?_) | (with_reducible refine w_lstZip ?_) | (with_reducible refine w_chain ?_) | (with_reducible refine w_orT ?_) | (with_reducible refine w_try0 ?_) | (with_reducible refine w_xAsg ?_) | (with_reducible refine wi_zipTL ?_) | (with_reducible refine wi_zipSL ?_) | ((with_reducible show gT _ _ _ _ _ _); refine g_T ?_ rfl) | ((with_reducible show ∃ p, DV.ref _ = _ ∧ (∃ kvs, _) ∧ _); refine wx_get (by walk_at "gq") ?_) | ((with_reducible show ∃ kvs z, _ = _ ∧ _ = some (DO.dct _) ∧ _); refine wx_get2 (by walk_at "gq") ?_) | ((with_reducible show ∃ p kvs z, _ = _ ∧ _ = _ ∧ _ = some (DO.dct _) ∧ _); refine wx_in (by walk_at "gq") ?_) | ((with_reducible show List.length _ = _ ∧ _); refine w_len ?_ rfl) | ((with_reducible show List.length _ ≤ sizeLine ∧ _); refine w_sz ?_ (szl rfl)) | ((with_reducible show bIx _ (.int _) _ _); first | refine w_ix0 ?_ | refine w_ix1 ?_ | refine w_ix2 ?_ | refine w_ix3 ?_) | ((with_reducible show bIsi [_, _] _ _); first | refine w_isi (by decide) (a := "tuple") rfl rfl ?_ | refine w_isi (by decide) (a := "str") rfl rfl ?_ | refine w_isi (by decide) (a := "int") rfl rfl ?_ | refine w_isi (by decide) (a := "bool") rfl rfl ?_ | refine w_isi (by decide) (a := "NoneType") rfl rfl ?_) | ((with_reducible show ∃ ds, _ = DV.tup ds ∧ _); refine w_exT ?_) | ((with_reducible show ∃ z, _ = DV.str z ∧ _); refine w_exS ?_) | ((with_reducible show ∃ ds, [_] = [DV.tup ds] ∧ _); refine wx_enumT ?_) | ((with_reducible show bSl _ _ _ _ _); refine w_slT ?_) | ((with_reducible show bTuple [_] _ _); refine w_tupT ?_) | ((with_reducible show bLen [_] _ _); refine w_lenT ?_) | ((with_reducible show bTru _ _ _); first | refine w_truT ?_ | refine w_truN ?_ | refine w_truB ?_ | refine w_truI ?_) | ((with_reducible show bEq _ _ _ _ _); first | refine w_eqSS ?_ | refine w_eqII ?_ | refine w_neSS ?_ | refine w_neII ?_ | refine w_eqT0 ?_) | ((with_reducible show bInt _ _ (.int _) (.int _) _ _); refine w_int (by first | decide | exact ⟨by decide, by decide, by decide⟩ | exact .inl ⟨by decide, by decide⟩ | exact .inr ⟨by decide, by decide⟩) ?_) | ((with_reducible show if _ = true then _ else _); first | refine w_it (by first | rfl | decide +kernel) ?_ | refine w_if0 (by first | rfl | decide +kernel) ?_) | ((with_reducible show rcv "list" (.ref _) _ ∧ _); refine w_rcvL (by walk_at "gq") ?_) | ((with_reducible show bTuple [.ref _] _ _); refine w_tupL (by walk_at "gq") ?_) | ((with_reducible show bLen [.ref _] _ _); refine w_lenL (by walk_at "gq") ?_) | ((with_reducible show bTru (.ref _) _ _); refine w_truL (by walk_at "gq") ?_) | ((with_reducible show ∃ _ _, DV.ref _ = _ ∧ Ls _ _ _ ∧ _); refine wx_lst (by walk_at "gq") ?_) | ((with_reducible show ∃ _ _, [DV.ref _] = _ ∧ Ls _ _ _ ∧ _); refine wx_lstA (by walk_at "gq") ?_))
local macro_rules | `(tactic| walk_at "dd") => `(tactic| repeat (walk_at "d1"))
local macro_rules | `(tactic| walk_at "gq") => `(tactic| first | assumption | exact dupd_same | exact sub_get (by assumption) (by walk_at "gq") | exact upd_get (by assumption) (by walk_at "gq") (by walk_at "gn") | exact subx_get (by assumption) (by walk_at "gq") (by walk_at "gn") | (refine (dupd_ne ?_).trans ?_; (focus walk_at "gn"); walk_at "gq"))
local macro_rules | `(tactic| walk_at "gs") => `(tactic| first | assumption | exact Sub.refl _ | exact sub_tr (by assumption) (by walk_at "gs") | exact sub_up (by assumption) (by walk_at "gs") (by walk_at "g0") | exact sub_ux (by assumption) (by walk_at "gs") (by walk_at "g0") | (refine Sub.new ?_ ?_; (focus walk_at "gs"); walk_at "g0"))
local macro_rules | `(tactic| walk_at "gk") => `(tactic| first | assumption | exact db_sub (by assumption) (by walk_at "gk") | exact db_upd (by assumption) (by walk_at "gk") ⟨_, by walk_at "gq"⟩ | exact db_updD (by assumption) (by walk_at "gk") ⟨_, by walk_at "gq"⟩)
local macro_rules | `(tactic| walk_at "gu") => `(tactic| first | assumption | exact Upd.refl _ _ | exact upd_in (by assumption) (by walk_at "gu"))
local macro_rules | `(tactic| walk_at "gx") => `(tactic| first | assumption | exact SubX.refl _ _ | exact subx_sub (by assumption) (by walk_at "gx") | exact subx_upd (by assumption) (by walk_at "gx") | exact subx_tr (by assumption) (by walk_at "gx"))
local macro_rules | `(tactic| walk_at "gn") => `(tactic| first | assumption | exact Ne.symm (by assumption) | exact ne_ns (by assumption) ⟨_, by walk_at "gq"⟩ | exact ne_sn (by assumption) ⟨_, by walk_at "gq"⟩)
local macro_rules | `(tactic| walk_at "g0") => `(tactic| first | assumption | exact nn_ (by assumption) (by walk_at "gs"))
section
variable {P : Program} {w : World} {K : Frag} {mg : Str → Option Value} {base : Heap}
def SP_bg : DSp := fun ds G R => ∃ T S, ds = [.tup (eWs T), .tup (eTs S)] ∧ ∀ p q G', DD.Sub G G' → G p = none → G q = none → p ≠ q → G' p = some (.lst (eTs S)) → G' q = some (.lst (eWs T).reverse) → R (.tup [.ref p, .ref q]) G'
def SP_sof : DSp := fun ds G R => ∃ p q T S, ds = [.ref p, .ref q] ∧ G p = some (.lst (eTs S)) ∧ G q = some (.lst (eWs T).reverse) ∧ R (eSt (S, T)) G
def SP_adv : DSp := fun ds G R => ∃ p q T S d bk m, ds = [.ref p, .ref q, d] ∧ p ≠ q ∧ G p = some (.lst (eTs S)) ∧ G q = some (.lst (eWs T).reverse) ∧ T ≠ [] ∧ SOk (S, T) ∧ BokOk m bk ∧ m ≤ 100000 ∧ ((d = .non ∧ bk = []) ∨ d = .tup (eBk bk)) ∧
  (stepF bk S T = none → R (.bl false) G) ∧ (∀ S' T', stepF bk S T = some (S', T') → ∀ G', Frn [p, q] G G' → G' p = some (.lst (eTs S')) → G' q = some (.lst (eWs T').reverse) → R (.bl true) G')
abbrev N_p_begun : List Str := ["row", "stack"]
abbrev A_p_begun : List Str := ["row", "stack"]
theorem sc_p_begun : FnScope N_p_begun A_p_begun (defScope s_p_begun) := ⟨rfl, rfl, rfl, by decide +kernel, rfl, by decide +kernel, by decide +kernel⟩
theorem h_p_begun (a : At K mg "begun" s_p_begun A_p_begun) (B : BI mg) : Has P w K mg base 1 "begun" A_p_begun SP_bg := by
  refine at_mk a sc_p_begun fun f cdv A outer s H E hr ds G R hl h => ?_
  refine ⟨_, (dss_one (ds_ret (de_tup (da_cons (de_callTy cd_list B.lst rfl (by decide +kernel) (da_cons (dv 1) da_nil)) (da_cons (de_callTy cd_list B.lst rfl (by decide +kernel) (da_cons (de_revT (dv 0)) da_nil)) da_nil))))), ?_⟩
  obtain ⟨T, S, rfl, q⟩ := h
  walk_at "dd"
  refine w_lstT fun p np => ?_
  refine abs_new np fun G1 s1 h1 => ?_
  walk_at "dd"
  refine w_lstT fun r nr => ?_
  refine abs_new nr fun G2 s2 h2 => ?_
  walk_at "dd"
  have hp := s2 _ _ h1
  exact Less.of (q p r G2 (s1.trans s2) np (nn_ nr s1) (fun e => by rw [e] at h1; rw [h1] at nr; cases nr) hp h2)
abbrev N_p_state_of : List Str := ["things", "todo"]
abbrev A_p_state_of : List Str := ["things", "todo"]
theorem sc_p_state_of : FnScope N_p_state_of A_p_state_of (defScope s_p_state_of) := ⟨rfl, rfl, rfl, by decide +kernel, rfl, by decide +kernel, by decide +kernel⟩
theorem h_p_state_of (a : At K mg "state_of" s_p_state_of A_p_state_of) (B : BI mg) : Has P w K mg base 1 "state_of" A_p_state_of SP_sof := by
  refine at_mk a sc_p_state_of fun f cdv A outer s H E hr ds G R hl h => ?_
  refine ⟨_, (dss_one (ds_ret (de_tup (da_cons (de_callTy cd_tuple B.tup rfl (by decide +kernel) (da_cons (dv 0) da_nil)) (da_cons (de_callTy cd_tuple B.tup rfl (by decide +kernel) (da_cons (de_revL (dv 1)) da_nil)) da_nil))))), ?_⟩
  obtain ⟨p, r, T, S, rfl, hp, hr, q⟩ := h
  walk_at "dd"
  intro p3 np3
  refine abs_new np3 fun G3 s3 h3 => ?_
  walk_at "dd"
  rw [List.reverse_reverse]
  exact ⟨G, s3, q⟩
abbrev N_p_advance : List Str := ["things", "todo", "book", "taken", "left", "ahead"]
abbrev A_p_advance : List Str := ["things", "todo", "book"]
theorem sc_p_advance : FnScope N_p_advance A_p_advance (defScope s_p_advance) := ⟨rfl, rfl, rfl, by decide +kernel, rfl, by decide +kernel, by decide +kernel⟩
theorem h_p_advance (a : At K mg "advance" s_p_advance A_p_advance) {e_NoStep : Addr} (B : BI mg) (XM : exmOne K (.ref e_NoStep) (.ref e_NoStep) = some true) (c_p_effect_of : HasX P w K mg base 4 "effect_of" A_p_effect_of (SP_eo e_NoStep)) (m_NoStep : mg "NoStep" = some (.ref e_NoStep)) : Has P w K mg base 5 "advance" A_p_advance SP_adv := by
  refine at_mk a sc_p_advance fun f cdv A outer s H E hr ds G R hl h => ?_
  refine ⟨_, (dss_cons (ds_try0 rfl rfl ⟨rfl, by decide, .inl m_NoStep⟩ (dssx_asg (dex_call c_p_effect_of (hr.mono (by omega)) rfl (fun _ _ => (da_cons (de_ix (dv 1) (de_neg de_int)) (da_cons (dv 0) (da_cons (dv 2) da_nil))))) (fun _ _ => (dg_tup (n := 3) rfl (dgs_cons (dg_name (i := 3) sc_p_advance.nd rfl (.inl rfl)) (dgs_cons (dg_name (i := 4) sc_p_advance.nd rfl (.inl rfl)) (dgs_cons (dg_name (i := 5) sc_p_advance.nd rfl (.inl rfl)) dgs_nil)))))) (fun a oe cls d pn hz hv hd => (dss_one (ds_ret de_bl))))
    (dss_cons (ds_expr (de_bm0 PySem.F.plainAttrs_list PySem.F.slot_list_pop PySem.F.type_list_pop md_pop (dv 1)))
    (dss_cons (ds_expr (de_bm PySem.F.plainAttrs_list PySem.F.slot_list_extend PySem.F.type_list_extend md_extend (dv 1) (da_cons (de_revT (dv 5)) da_nil)))
    (dss_cons (ds_delT (dv 0) (de_op od_sub (de_callB cd_len B.len rfl (by decide +kernel) (da_cons (dv 0) da_nil)) (dv 3)))
    (dss_cons (ds_expr (de_bm PySem.F.plainAttrs_list PySem.F.slot_list_extend PySem.F.type_list_extend md_extend (dv 0) (da_cons (dv 4) da_nil)))
    (dss_one (ds_ret de_bl))))))), ?_⟩
  obtain ⟨p, r, T, S, d, bk, m, rfl, pr, hp, hr, hT, ok, bok, hm, hd, q0, q1⟩ := h
  cases T with
  | nil => exact absurd rfl hT
  | cons wd T =>
  have er : (eWs (wd :: T)).reverse = (eWs T).reverse ++ [eW wd] := by show (eW wd :: eWs T).reverse = _; rw [List.reverse_cons]
  rw [er] at hr
  have zS : szTs S ≤ 20000 := ok.zS
  have zT : szW wd + szWs T ≤ 20000 := ok.zT
  have lS := szTs_len S
  have lT := szWs_len T
  walk_at "dd"
  refine w_ixL hr atI_end ?_
  walk_at "dd"
  refine ⟨wd, p, S, d, bk, rfl, hp, by omega, ok.gS, by omega, ok.gT.1, hd, fun n l a e => ?_, fun e => ?_⟩
  rotate_left
  · refine ⟨XM, fun ae nae => ?_⟩
    walk_at "dd"
    exact Less.of (q0 (by show (effW bk S wd).map _ = none; rw [e]; rfl))
  obtain ⟨e1, g1, g2, z1, d1, d2⟩ := effW_ok bok ok.gT.1 ok.gS e
  have e1 : n ≤ S.length := e1
  have z1 : szTs l + szWs a ≤ 12 * szTs S + szW wd + m + 10 := z1
  have la := szWs_len a
  have ll := szTs_len l
  walk_at "dd"
  refine w_pop hr ?_
  refine abs_upd hr fun G1 u1 h1 => ?_
  walk_at "dd"
  refine w_extT h1 (mid (by rw [List.length_reverse, List.length_reverse, eWs_len, eWs_len]; omega)) ?_
  refine abs_upd h1 fun G2 u2 h2 => ?_
  have hp2 : G2 p = some (.lst (eTs S)) := ((u2 p pr).trans (u1 p pr)).trans hp
  walk_at "dd"
  refine ⟨p, (((S.length - n : Nat)) : Int), _, rfl, by rw [eTs_len]; congr 1; omega, hp2, by omega, by rw [eTs_len]; omega, ?_⟩
  refine abs_upd hp2 fun G3 u3 h3 => ?_
  walk_at "dd"
  refine w_extT h3 (mid (by rw [List.length_take, eTs_len, eTs_len]; omega)) ?_
  refine abs_upd h3 fun G4 u4 h4 => ?_
  walk_at "dd"
  refine Less.of (q1 (S.take (S.length - n) ++ l) (a ++ T) (by show (effW bk S wd).map _ = _; rw [e]; rfl) G4 (fun x o hx ho => ?_) ?_ ?_)
  · have n1 : x ≠ p := fun z => hx (by rw [z]; exact List.mem_cons_self ..)
    have n2 : x ≠ r := fun z => hx (by rw [z]; exact List.mem_cons_of_mem _ (List.mem_cons_self ..))
    rw [u4 x n1, u3 x n1, u2 x n2, u1 x n2]; exact ho
  · rw [h4, eTs_map, eTs_map, eTs_map, List.map_append, List.map_take]
    rfl
  · rw [u4 r pr.symm, u3 r pr.symm, h2, ← List.reverse_append, eWs_map, eWs_map, eWs_map, List.map_append]
end
end K14
set_option maxHeartbeats 1000000
namespace K14
open PySem PySem.W L2 SX Cm DD
local macro_rules | `(tactic| walk_at "d1") => `(tactic| first | (with_reducible refine w_go ?_) | ((with_reducible show dVar _ _ _ _); refine w_var rfl ?_) | (with_reducible refine w_exI ?_) | (with_reducible refine w_exB ?_) | (with_reducible refine w_exT ?_) | (with_reducible refine w_exS ?_) | (with_reducible refine w_parE ?_) | (with_reducible refine ly1 ?_) | (with_reducible refine ly2 ?_) | (with_reducible refine lt1' ?_) | (with_reducible refine lt2' ?_) | (with_reducible refine wx_enumT ?_) | (with_reducible refine w_callX ?_) | (with_reducible refine w_methX ?_) | (with_reducible refine w_raise ?_) | (with_reducible refine w_try ?_) | (with_reducible refine w_xSet ?_) | (with_reducible refine w_xExpr ?_) | (with_reducible refine w_xLst ?_) | (with_reducible refine w_xTup ?_) | (with_reducible refine w_xCons ?_) | (with_reducible refine w_xNil ?_) | (with_reducible refine w_xE ?_) | (with_reducible refine w_xCall ?_) | (with_reducible refine w_call0 ?_) | (with_reducible refine w_asgL ?_) | (with_reducible refine w_tupPd ?_) | (with_reducible refine wi_zip ?_) | (with_reducible refine w_delT ?_) | (with_reducible refine w_dc ?_) | (with_reducible refine w_revL ?_) | (with_reducible refine wi_revT ?_) | (with_reducible refine w_lstZip ?_) | (with_reducible refine w_chain ?_) | (with_reducible refine w_orT ?_) | (with_reducible refine w_try0 ?_) | (with_reducible refine w_xAsg ?_) | (with_reducible refine wi_zipTL ?_) | (with_reducible refine wi_zipSL ?_) | ((with_reducible show gT _ _ _ _ _ _); refine g_T ?_ rfl) | ((with_reducible show ∃ p, DV.ref _ = _ ∧ (∃ kvs, _) ∧ _); refine wx_get (by walk_at "gq") ?_) | ((with_reducible show ∃ kvs z, _ = _ ∧ _ = some (DO.dct _) ∧ _); refine wx_get2 (by walk_at "gq") ?_) | ((with_reducible show ∃ p kvs z, _ = _ ∧ _ = _ ∧ _ = some (DO.dct _) ∧ _); refine wx_in (by walk_at "gq") ?_) | ((with_reducible show List.length _ = _ ∧ _); refine w_len ?_ rfl) | ((with_reducible show List.length _ ≤ sizeLine ∧ _); refine w_sz ?_ (szl rfl)) | ((with_reducible show bIx _ (.int _) _ _); first | refine w_ix0 ?_ | refine w_ix1 ?_ | refine w_ix2 ?_ | refine w_ix3 ?_) | ((with_reducible show bIsi [_, _] _ _); first | refine w_isi (by decide) (a := "tuple") rfl rfl ?_ | refine w_isi (by decide) (a := "str") rfl rfl ?_ | refine w_isi (by decide) (a := "int") rfl rfl ?_ | refine w_isi (by decide) (a := "bool") rfl rfl ?_ | refine w_isi (by decide) (a := "NoneType") rfl rfl ?_) | ((with_reducible show ∃ ds, _ = DV.tup ds ∧ _); refine w_exT ?_) | ((with_reducible show ∃ z, _ = DV.str z ∧ _); refine w_exS ?_) | ((with_reducible show ∃ ds, [_] = [DV.tup ds] ∧ _); refine wx_enumT ?_) | ((with_reducible show bSl _ _ _ _ _); refine w_slT ?_) | ((with_reducible show bTuple [_] _ _); refine w_tupT ?_) | ((with_reducible show bLen [_] _ _); refine w_lenT ?_) | ((with_reducible show bTru _ _ _); first | refine w_truT ?_ | refine w_truN ?_ | refine w_truB ?_ | refine w_truI ?_) | ((with_reducible show bEq _ _ _ _ _); first | refine w_eqSS ?_ | refine w_eqII ?_ | refine w_neSS ?_ | refine w_neII ?_ | refine w_eqT0 ?_) | ((with_reducible show bInt _ _ (.int _) (.int _) _ _); refine w_int (by first | decide | exact ⟨by decide, by decide, by decide⟩ | exact .inl ⟨by decide, by decide⟩ | exact .inr ⟨by decide, by decide⟩) ?_) | ((with_reducible show if _ = true then _ else _); first | refine w_it (by first | rfl | decide +kernel) ?_ | refine w_if0 (by first | rfl | decide +kernel) ?_) | ((with_reducible show rcv "list" (.ref _) _ ∧ _); refine w_rcvL (by walk_at "gq") ?_) | ((with_reducible show bTuple [.ref _] _ _); refine w_tupL (by walk_at "gq") ?_) | ((with_reducible show bLen [.ref _] _ _); refine w_lenL (by walk_at "gq") ?_) | ((with_reducible show bTru (.ref _) _ _); refine w_truL (by walk_at "gq") ?_) | ((with_reducible show ∃ _ _, DV.ref _ = _ ∧ Ls _ _ _ ∧ _); refine wx_lst (by walk_at "gq") ?_) | ((with_reducible show ∃ _ _, [DV.ref _] = _ ∧ Ls _ _ _ ∧ _); refine wx_lstA (by walk_at "gq") ?_))
local macro_rules | `(tactic| walk_at "dd") => `(tactic| repeat (walk_at "d1"))
local macro_rules | `(tactic| walk_at "gq") => `(tactic| first | assumption | exact dupd_same | exact sub_get (by assumption) (by walk_at "gq") | exact upd_get (by assumption) (by walk_at "gq") (by walk_at "gn") | exact subx_get (by assumption) (by walk_at "gq") (by walk_at "gn") | (refine (dupd_ne ?_).trans ?_; (focus walk_at "gn"); walk_at "gq"))
local macro_rules | `(tactic| walk_at "gs") => `(tactic| first | assumption | exact Sub.refl _ | exact sub_tr (by assumption) (by walk_at "gs") | exact sub_up (by assumption) (by walk_at "gs") (by walk_at "g0") | exact sub_ux (by assumption) (by walk_at "gs") (by walk_at "g0") | (refine Sub.new ?_ ?_; (focus walk_at "gs"); walk_at "g0"))
local macro_rules | `(tactic| walk_at "gk") => `(tactic| first | assumption | exact db_sub (by assumption) (by walk_at "gk") | exact db_upd (by assumption) (by walk_at "gk") ⟨_, by walk_at "gq"⟩ | exact db_updD (by assumption) (by walk_at "gk") ⟨_, by walk_at "gq"⟩)
local macro_rules | `(tactic| walk_at "gu") => `(tactic| first | assumption | exact Upd.refl _ _ | exact upd_in (by assumption) (by walk_at "gu"))
local macro_rules | `(tactic| walk_at "gx") => `(tactic| first | assumption | exact SubX.refl _ _ | exact subx_sub (by assumption) (by walk_at "gx") | exact subx_upd (by assumption) (by walk_at "gx") | exact subx_tr (by assumption) (by walk_at "gx"))
local macro_rules | `(tactic| walk_at "gn") => `(tactic| first | assumption | exact Ne.symm (by assumption) | exact ne_ns (by assumption) ⟨_, by walk_at "gq"⟩ | exact ne_sn (by assumption) ⟨_, by walk_at "gq"⟩)
local macro_rules | `(tactic| walk_at "g0") => `(tactic| first | assumption | exact nn_ (by assumption) (by walk_at "gs"))
section
variable {P : Program} {w : World} {K : Frag} {mg : Str → Option Value} {base : Heap}
theorem eWs_nil_iff (T : List Wo) : ((0 : Int) < ((eWs T).reverse.length : Nat)) ↔ T ≠ [] := by
  rw [List.length_reverse, eWs_len]
  cases T with
  | nil => exact ⟨fun h => absurd h (by decide), fun h => absurd rfl h⟩
  | cons a r => exact ⟨(fun _ h => nomatch h), fun _ => by rw [List.length_cons]; omega⟩
def SP_run : DSpX := fun ds G R RX => ∃ T S most d bk m xs, ds = [.tup (eWs T), .tup (eTs S), .int ((most : Nat) : Int), d] ∧ BokOk m bk ∧ m ≤ 100000 ∧ ((d = .non ∧ bk = []) ∨ d = .tup (eBk bk)) ∧ Chn bk xs ∧ xs[0]? = some (S, T) ∧ (∀ i s, i + 1 = xs.length → xs[i]? = some s → xs.length ≤ most → stepF bk s.1 s.2 = none) ∧ R (.tup [.str (endOf xs most).1, .int ((endOf xs most).2.1 : Nat), eSt (endOf xs most).2.2]) G
def SP_sts : DSpX := fun ds G R RX => ∃ T S most d bk m xs, ds = [.tup (eWs T), .tup (eTs S), .int ((most : Nat) : Int), d] ∧ BokOk m bk ∧ m ≤ 100000 ∧ ((d = .non ∧ bk = []) ∨ d = .tup (eBk bk)) ∧ Chn bk xs ∧ xs.length ≤ 20000 ∧ xs[0]? = some (S, T) ∧ (∀ i s, i + 1 = xs.length → xs[i]? = some s → xs.length ≤ most → stepF bk s.1 s.2 = none) ∧ R (.tup ((xs.take (most + 1)).map eSt)) G
abbrev N_p_run : List Str := ["row", "stack", "most", "book", "things", "todo", "steps", "ending"]
abbrev A_p_run : List Str := ["row", "stack", "most", "book"]
theorem sc_p_run : FnScope N_p_run A_p_run (defScope s_p_run) := ⟨rfl, rfl, rfl, by decide +kernel, rfl, by decide +kernel, by decide +kernel⟩
theorem h_p_run (a : AtD K mg "run" s_p_run A_p_run) (B : BI mg) (c_p_begun : Has P w K mg base 1 "begun" A_p_begun SP_bg) (c_p_advance : Has P w K mg base 5 "advance" A_p_advance SP_adv) (c_p_state_of : Has P w K mg base 1 "state_of" A_p_state_of SP_sof) : HasXD P w K mg base 6 "run" A_p_run SP_run := by
  refine atxd_mk a sc_p_run fun f cdv A outer s H E hr ds G R RX hl hx h => ?_
  refine ⟨_, (dss_cons (ds_asg (de_call c_p_begun (hr.mono (by omega)) rfl (da_cons (dv 0) (da_cons (dv 1) da_nil))) (dg_tup rfl (dgs_cons (dg_name (i := 4) sc_p_run.nd rfl (.inl rfl)) (dgs_cons (dg_name (i := 5) sc_p_run.nd rfl (.inl rfl)) dgs_nil))))
    (dss_cons (ds_set (i := 6) sc_p_run.nd rfl (.inl rfl) de_int)
    (dss_cons (ds_while (passes_of rfl) (dt_w (dw_and (dt_cmp od_gt (de_callB cd_len B.len rfl (by decide +kernel) (da_cons (dv 5) da_nil)) de_int (nomark _)) (dw_and1 (dt_cmp od_lt (dv 6) (dv 2) (nomark _))))) (dss_cons (ds_if (dt_not (dt_e (de_call c_p_advance (hr.mono (by omega)) rfl (da_cons (dv 4) (da_cons (dv 5) (da_cons (dv 3) da_nil)))))) (dss_one (ds_ret (de_tup (da_cons de_str (da_cons (dv 6) (da_cons (de_call c_p_state_of (hr.mono (by omega)) rfl (da_cons (dv 4) (da_cons (dv 5) da_nil))) da_nil)))))) dss_nil)
      (dss_one (ds_augI (i := 6) sc_p_run.nd rfl (.inl rfl) de_int))))
    (dss_cons (ds_set (i := 7) sc_p_run.nd rfl (.inl rfl) (de_if (dt_cmp (od_eq hr.units) (de_callB cd_len B.len rfl (by decide +kernel) (da_cons (dv 5) da_nil)) de_int (nomark _)) de_str de_str))
    (dss_one (ds_ret (de_tup (da_cons (dv 7) (da_cons (dv 6) (da_cons (de_call c_p_state_of (hr.mono (by omega)) rfl (da_cons (dv 4) (da_cons (dv 5) da_nil))) da_nil)))))))))), ?_⟩
  obtain ⟨T0, S0, most, d, bk, m, xs, rfl, bok, hm, hd, ch, h0, hlast, q⟩ := h
  walk_at "dd"
  refine ⟨T0, S0, rfl, fun p r G1 s1 np nr pr hp hr' => ?_⟩
  walk_at "dd"
  refine w_while (fun w δ G' => ∃ (i : Nat) (s : Sta), w = most - i ∧ i ≤ most ∧ xs[i]? = some s ∧ δ = [some (.tup (eWs T0)), some (.tup (eTs S0)), some (.int ((most : Nat) : Int)), some d, some (.ref p), some (.ref r), some (.int ((i : Nat) : Int)), none] ∧ DD.Sub G G' ∧ G' p = some (.lst (eTs s.1)) ∧ G' r = some (.lst (eWs s.2).reverse)) _ ⟨0, (S0, T0), rfl, Nat.zero_le _, h0, rfl, s1, hp, hr'⟩ ?_
  clear hp hr' s1
  rintro w δ G2 ⟨i, ⟨S, T⟩, rfl, hi, hx, rfl, sG, hp, hr2⟩
  have hp : G2 p = some (.lst (eTs S)) := hp
  have hr2 : G2 r = some (.lst (eWs T).reverse) := hr2
  have ok := ch.ok _ (List.mem_of_getElem? hx)
  have hil := (List.getElem?_eq_some_iff.mp hx).1
  walk_at "dd"
  have fin : (T = [] ∨ i = most) → ∀ G3, DD.Sub G G3 → Less R (.tup [.str (if T.isEmpty = true then ("ended" : Str) else "on"), .int ((i : Nat) : Int), eSt (S, T)]) G3 := fun hc G3 s3 => by
    refine ⟨G, s3, ?_⟩
    by_cases hm2 : i = most
    · subst hm2
      rw [endOf_in hx] at q; exact q
    · have hT := hc.resolve_right hm2
      subst hT
      have hl2 : i + 1 = xs.length := by
        by_cases e : i + 1 < xs.length
        · have := ch.nx i _ _ hx (List.getElem?_eq_getElem e)
          cases this
        · omega
      rw [endOf_out (i := i) (by omega) hl2 hx] at q; exact q
  by_cases hT : T = []
  · refine w_if0 (decide_eq_false fun h => ((eWs_nil_iff T).mp h) hT) ?_
    walk_at "dd"
    refine w_it (by rw [hT]; rfl) ?_
    walk_at "dd"
    refine ⟨p, r, T, S, rfl, hp, hr2, ?_⟩
    walk_at "dd"
    have := fin (.inl hT) G2 sG
    rw [hT] at this ⊢
    exact this
  refine w_it (decide_eq_true ((eWs_nil_iff T).mpr hT)) ?_
  walk_at "dd"
  by_cases hm2 : i = most
  · refine w_if0 (decide_eq_false (by omega)) ?_
    walk_at "dd"
    refine w_if0 (decide_eq_false (by rw [List.length_reverse, eWs_len]; cases T with | nil => exact absurd rfl hT | cons _ _ => rw [List.length_cons]; omega)) ?_
    walk_at "dd"
    refine ⟨p, r, T, S, rfl, hp, hr2, ?_⟩
    walk_at "dd"
    have := fin (.inr hm2) G2 sG
    rw [if_neg (by cases T with | nil => exact absurd rfl hT | cons _ _ => exact Bool.false_ne_true)] at this
    exact this
  refine w_it (decide_eq_true (by omega)) ?_
  walk_at "dd"
  refine ⟨p, r, T, S, d, bk, m, rfl, pr, hp, hr2, hT, ok, bok, hm, hd, fun e => ?_, fun S' T' e G3 f3 h3 h4 => ?_⟩
  · walk_at "dd"
    refine ⟨p, r, T, S, rfl, hp, hr2, ?_⟩
    walk_at "dd"
    have hl2 : i + 1 = xs.length := by
      by_cases e2 : i + 1 < xs.length
      · have := ch.nx i _ _ hx (List.getElem?_eq_getElem e2)
        rw [e] at this; cases this
      · omega
    rw [endOf_out (i := i) (by omega) hl2 hx, if_neg (by cases T with | nil => exact absurd rfl hT | cons _ _ => exact Bool.false_ne_true)] at q
    exact ⟨G, sG, q⟩
  · walk_at "dd"
    have hl2 : i + 1 < xs.length := by
      by_cases e2 : i + 1 < xs.length
      · exact e2
      · have := hlast i _ (by omega) hx (by omega)
        rw [e] at this; cases this
    have hx2 := List.getElem?_eq_getElem hl2
    have e3 := ch.nx i _ _ hx hx2
    rw [e] at e3
    have e3 := Option.some.inj e3
    refine ⟨i, rfl, ?_⟩
    walk_at "dd"
    have hw : most - (i + 1) < most - i := by omega
    refine ⟨_, hw, i + 1, _, rfl, by omega, hx2, rfl, f3.sub sG (fun x hx => ?_), by rw [← e3]; exact h3, by rw [← e3]; exact h4⟩
    rcases List.mem_cons.mp hx with rfl | hx
    · exact np
    · rw [List.mem_singleton.mp hx]; exact nr
abbrev N_p_states : List Str := ["row", "stack", "most", "book", "things", "todo", "passed"]
abbrev A_p_states : List Str := ["row", "stack", "most", "book"]
theorem sc_p_states : FnScope N_p_states A_p_states (defScope s_p_states) := ⟨rfl, rfl, rfl, by decide +kernel, rfl, by decide +kernel, by decide +kernel⟩
theorem h_p_states (a : AtD K mg "states" s_p_states A_p_states) (B : BI mg) (c_p_begun : Has P w K mg base 1 "begun" A_p_begun SP_bg) (c_p_state_of : Has P w K mg base 1 "state_of" A_p_state_of SP_sof) (c_p_advance : Has P w K mg base 5 "advance" A_p_advance SP_adv) : HasXD P w K mg base 6 "states" A_p_states SP_sts := by
  refine atxd_mk a sc_p_states fun f cdv A outer s H E hr ds G R RX hl hx h => ?_
  refine ⟨_, (dss_cons (ds_asg (de_call c_p_begun (hr.mono (by omega)) rfl (da_cons (dv 0) (da_cons (dv 1) da_nil))) (dg_tup rfl (dgs_cons (dg_name (i := 4) sc_p_states.nd rfl (.inl rfl)) (dgs_cons (dg_name (i := 5) sc_p_states.nd rfl (.inl rfl)) dgs_nil))))
    (dss_cons (ds_set (i := 6) sc_p_states.nd rfl (.inl rfl) (de_lst (da_cons (de_call c_p_state_of (hr.mono (by omega)) rfl (da_cons (dv 4) (da_cons (dv 5) da_nil))) da_nil)))
    (dss_cons (ds_while (passes_of rfl) (dt_w (dw_and (dt_cmp od_gt (de_callB cd_len B.len rfl (by decide +kernel) (da_cons (dv 5) da_nil)) de_int (nomark _)) (dw_and (dt_cmp od_le (de_callB cd_len B.len rfl (by decide +kernel) (da_cons (dv 6) da_nil)) (dv 2) (nomark _)) (dw_and1 (dt_e (de_call c_p_advance (hr.mono (by omega)) rfl (da_cons (dv 4) (da_cons (dv 5) (da_cons (dv 3) da_nil))))))))) (dss_one (ds_expr (de_bm PySem.F.plainAttrs_list PySem.F.slot_list_append PySem.F.type_list_append md_append (dv 6) (da_cons (de_call c_p_state_of (hr.mono (by omega)) rfl (da_cons (dv 4) (da_cons (dv 5) da_nil))) da_nil)))))
    (dss_one (ds_ret (de_callTy cd_tuple B.tup rfl (by decide +kernel) (da_cons (dv 6) da_nil))))))), ?_⟩
  obtain ⟨T0, S0, most, d, bk, m, xs, rfl, bok, hm, hd, ch, lx, h0, hlast, q⟩ := h
  walk_at "dd"
  refine ⟨T0, S0, rfl, fun p r G1 s1 np nr pr hp hr' => ?_⟩
  walk_at "dd"
  refine ⟨p, r, T0, S0, rfl, hp, hr', ?_⟩
  walk_at "dd"
  intro u nu
  have up : u ≠ p := fun e => by rw [e, hp] at nu; cases nu
  have ur : u ≠ r := fun e => by rw [e, hr'] at nu; cases nu
  refine abs_new nu fun G2 s2 hu => ?_
  have hp2 := s2 _ _ hp
  have hr2 := s2 _ _ hr'
  have gu : G u = none := nn_ nu s1
  walk_at "dd"
  have e0 : (xs.take 1).map eSt = [eSt (S0, T0)] := by
    cases xs with
    | nil => cases h0
    | cons a x => cases h0; rfl
  refine w_while (fun w δ G' => ∃ (i : Nat) (s : Sta), w = xs.length - i ∧ i ≤ most ∧ xs[i]? = some s ∧ δ = [some (.tup (eWs T0)), some (.tup (eTs S0)), some (.int ((most : Nat) : Int)), some d, some (.ref p), some (.ref r), some (.ref u)] ∧ DD.Sub G G' ∧ G' p = some (.lst (eTs s.1)) ∧ G' r = some (.lst (eWs s.2).reverse) ∧ G' u = some (.lst ((xs.take (i + 1)).map eSt))) _ ⟨0, (S0, T0), rfl, Nat.zero_le _, h0, rfl, s1.trans s2, hp2, hr2, by rw [e0]; exact hu⟩ ?_
  clear hp hr' s1 hp2 hr2 hu s2
  rintro w δ G2 ⟨i, ⟨S, T⟩, rfl, hi, hx, rfl, sG, hp, hr2, hu⟩
  have hp : G2 p = some (.lst (eTs S)) := hp
  have hr2 : G2 r = some (.lst (eWs T).reverse) := hr2
  have ok := ch.ok _ (List.mem_of_getElem? hx)
  have hil := (List.getElem?_eq_some_iff.mp hx).1
  have lu : ((xs.take (i + 1)).map eSt).length = i + 1 := by rw [List.length_map, List.length_take]; omega
  walk_at "dd"
  have fin : xs.take (i + 1) = xs.take (most + 1) → ∀ G3, DD.Sub G G3 → Less R (.tup ((xs.take (i + 1)).map eSt)) G3 := fun hc G3 s3 => ⟨G, s3, by rw [hc]; exact q⟩
  have whole : i + 1 = xs.length → xs.take (i + 1) = xs.take (most + 1) := fun e => by
    rw [List.take_of_length_le (by omega), List.take_of_length_le (by omega)]
  by_cases hT : T = []
  · refine w_if0 (decide_eq_false fun h => ((eWs_nil_iff T).mp h) hT) ?_
    walk_at "dd"
    refine fin (whole ?_) G2 sG
    subst hT
    by_cases e : i + 1 < xs.length
    · have := ch.nx i _ _ hx (List.getElem?_eq_getElem e)
      cases this
    · omega
  refine w_it (decide_eq_true ((eWs_nil_iff T).mpr hT)) ?_
  walk_at "dd"
  rw [lu]
  by_cases hm2 : i = most
  · refine w_if0 (decide_eq_false (by omega)) ?_
    walk_at "dd"
    refine fin (by rw [hm2]) G2 sG
  refine w_it (decide_eq_true (by omega)) ?_
  walk_at "dd"
  refine ⟨p, r, T, S, d, bk, m, rfl, pr, hp, hr2, hT, ok, bok, hm, hd, fun e => ?_, fun S' T' e G3 f3 h3 h4 => ?_⟩
  · walk_at "dd"
    refine fin (whole ?_) G2 sG
    by_cases e2 : i + 1 < xs.length
    · have := ch.nx i _ _ hx (List.getElem?_eq_getElem e2)
      rw [e] at this; cases this
    · omega
  · walk_at "dd"
    have hl2 : i + 1 < xs.length := by
      by_cases e2 : i + 1 < xs.length
      · exact e2
      · have := hlast i _ (by omega) hx (by omega)
        rw [e] at this; cases this
    have hx2 := List.getElem?_eq_getElem hl2
    have e3 := ch.nx i _ _ hx hx2
    rw [e] at e3
    have e3 := Option.some.inj e3
    have hu3 : G3 u = some (.lst ((xs.take (i + 1)).map eSt)) := f3.get hu (fun hx => by
      rcases List.mem_cons.mp hx with h | h
      · exact up h
      · exact ur (List.mem_singleton.mp h))
    refine w_rcvL hu3 ?_
    walk_at "dd"
    refine ⟨p, r, T', S', rfl, h3, h4, ?_⟩
    walk_at "dd"
    refine w_app hu3 (by rw [lu]; exact midlt (by omega)) ?_
    refine abs_upd hu3 fun G4 u4 h5 => ?_
    walk_at "dd"
    have sG3 : DD.Sub G G3 := f3.sub sG (fun x hx => by
      rcases List.mem_cons.mp hx with rfl | hx
      · exact np
      · rw [List.mem_singleton.mp hx]; exact nr)
    have hw : xs.length - (i + 1) < xs.length - i := by omega
    refine ⟨_, hw, i + 1, _, rfl, by omega, hx2, rfl, sub_up u4 sG3 gu, ?_, ?_, ?_⟩
    · rw [u4 p up.symm, ← e3]; exact h3
    · rw [u4 r ur.symm, ← e3]; exact h4
    · rw [h5, List.take_add_one (i := i + 1), hx2, List.map_append, ← e3]; rfl
end
end K14
/-! a text twice -/
namespace DD
open PySem PySem.Spec PyProof.Rows PySem.W L2 SX Cm
section
variable {X : Cx}
theorem op_twice : OpR X (binaryOp .Mult) (fun x y H Q => ∃ a : Str, x = .str a ∧ y = .int 2 ∧ 1 ≤ a.length ∧ a.length ≤ 1000 ∧ Q (.str ⟨a.cps ++ a.cps⟩) H) := by
  intro pins s σ H x y v u Q I rx ry h
  obtain ⟨a, rfl, rfl, h1, h2, q⟩ := h
  obtain ⟨t, rfl⟩ := rx
  obtain ⟨t', rfl⟩ := ry
  have hn : (((2 : Int) == 1) || a.length == 0) = false := by
    rw [show ((2 : Int) == 1) = false from rfl, Bool.false_or]
    exact beq_eq_false_iff_ne.mpr (by omega)
  refine P.mul_str (by decide) (fun _ _ => ?_) (fun _ _ => ?_) ?_
  · have : (2 ^ 63 - 1 : Int) / 2 = 4611686018427387903 := by decide
    rw [this]; omega
  · show decide (a.length * 2 > sizeLine) = false
    exact decide_eq_false (by rw [sizeLine_eq]; omega)
  · rw [if_neg (by decide), hn, if_neg (by decide)]
    have e : (List.replicate (2 : Int).toNat a.cps).foldl (· ++ ·) #[] = a.cps ++ a.cps := by
      show (#[] ++ a.cps) ++ a.cps = _
      rw [Array.empty_append]
    rw [e]
    refine ⟨?_, .str _, H, I.tok _, ⟨_, rfl⟩, q⟩
    show (a.cps ++ a.cps).size ≤ _
    rw [Array.size_append, sizeLine_eq]
    have : a.cps.size ≤ 1000 := h2
    omega
def bTwc : D2 := fun x y G Q => ∃ a : Str, x = .str a ∧ y = .int 2 ∧ 1 ≤ a.length ∧ a.length ≤ 1000 ∧ Q (.str ⟨a.cps ++ a.cps⟩) G
theorem od_twc : OpD X (binaryOp .Mult) bTwc := by
  refine ⟨_, op_twice, fun x y vx vy H G R Q rx ry w h f => ?_⟩
  obtain ⟨a, rfl, rfl, h1, h2, q⟩ := h
  cases rx
  cases ry
  exact ⟨a, rfl, rfl, h1, h2, f _ _ _ _ q (TKs.refl H) w (.str _)⟩
theorem w_twc {a : Str} {G : DG} {Q : DK} (h1 : 1 ≤ a.length) (h2 : a.length ≤ 1000) (h : Q (.str ⟨a.cps ++ a.cps⟩) G) : bTwc (.str a) (.int 2) G Q := ⟨a, rfl, rfl, h1, h2, h⟩
end
end DD
/-! xs != [] of any list -/
namespace DD
open PySem PySem.Spec PyProof.Rows PySem.W L2 SX Cm
def rNeNil (K : Frag) : R2 := fun x y H Q => ∃ a b xs, x = .ref a ∧ y = .ref b ∧ SqL K H a xs ∧ SqL K H b [] ∧ Q (.bl (!xs.isEmpty)) H
section
variable {X : Cx}
theorem op_neNil (hu : X.A.units + 64 < cLine) : OpR X (compareOp .NotEq) (rNeNil X.K) := by
  intro pins s σ H x y v u Q I rx ry h
  obtain ⟨a, b, xs, rfl, rfl, ha, hb, q⟩ := h
  cases xs with
  | nil => exact op_neD hu pins s σ H _ _ v u Q I rx ry ⟨.list [], .list [], .lst ha .nil, .lst hb .nil, rfl, rfl, q⟩
  | cons z t =>
    cases rx
    cases ry
    obtain ⟨us, r1, p1, _⟩ := I.list ha
    obtain ⟨ws, r2, p2, _⟩ := I.list hb
    cases r2
    cases r1 with
    | cons h1 t1 => exact SeqAt.RcNeAt.lists_lengths p1.isList p2.isList (by simp) (by omega) _ _ _ _ ⟨.bl true, H, I, rfl, q⟩
def bNeNil : D2 := fun x y G Q => ∃ p q xs, x = .ref p ∧ y = .ref q ∧ G p = some (.lst xs) ∧ G q = some (.lst []) ∧ Q (.bl (!xs.isEmpty)) G
theorem od_neNil (hu : X.A.units + 64 < cLine) : OpD X (compareOp .NotEq) bNeNil := by
  refine ⟨_, op_neNil hu, fun x y vx vy H G R Q rx ry w h f => ?_⟩
  obtain ⟨p, q, xs, rfl, rfl, e1, e2, h⟩ := h
  cases rx
  cases ry
  obtain ⟨us, h1, r1⟩ := wd_list w e1
  obtain ⟨vs, h2, r2⟩ := wd_list w e2
  cases r2
  exact ⟨_, _, us, rfl, rfl, SqL.of h1, SqL.of h2, by rw [r1.isEmpty]; exact flat_up w f h⟩
theorem w_neNil {p q : Addr} {xs : List DV} {G : DG} {Q : DK} (e1 : G p = some (.lst xs)) (e2 : G q = some (.lst [])) (h : Q (.bl (!xs.isEmpty)) G) : bNeNil (.ref p) (.ref q) G Q := ⟨p, q, xs, rfl, rfl, e1, e2, h⟩
end
end DD
set_option maxHeartbeats 1000000
namespace K14
open PySem PySem.W L2 SX Cm DD
local macro_rules | `(tactic| walk_at "d1") => `(tactic| first | (with_reducible refine w_go ?_) | ((with_reducible show dVar _ _ _ _); refine w_var rfl ?_) | (with_reducible refine w_exI ?_) | (with_reducible refine w_exB ?_) | (with_reducible refine w_exT ?_) | (with_reducible refine w_exS ?_) | (with_reducible refine w_parE ?_) | (with_reducible refine ly1 ?_) | (with_reducible refine ly2 ?_) | (with_reducible refine lt1' ?_) | (with_reducible refine lt2' ?_) | (with_reducible refine wx_enumT ?_) | (with_reducible refine w_callX ?_) | (with_reducible refine w_methX ?_) | (with_reducible refine w_raise ?_) | (with_reducible refine w_try ?_) | (with_reducible refine w_xSet ?_) | (with_reducible refine w_xExpr ?_) | (with_reducible refine w_xLst ?_) | (with_reducible refine w_xTup ?_) | (with_reducible refine w_xCons ?_) | (with_reducible refine w_xNil ?_) | (with_reducible refine w_xE ?_) | (with_reducible refine w_xCall ?_) | (with_reducible refine w_call0 ?_) | (with_reducible refine w_asgL ?_) | (with_reducible refine w_tupPd ?_) | (with_reducible refine wi_zip ?_) | (with_reducible refine w_delT ?_) | (with_reducible refine w_dc ?_) | (with_reducible refine w_revL ?_) | (with_reducible refine wi_revT ?_) | (with_reducible refine w_lstZip ?_) | (with_reducible refine w_chain ?_) | (with_reducible refine w_orT ?_) | (with_reducible refine w_try0 ?_) | (with_reducible refine w_xAsg ?_) | (with_reducible refine wi_zipTL ?_) | (with_reducible refine wi_zipSL ?_) | ((with_reducible show gT _ _ _ _ _ _); refine g_T ?_ rfl) | ((with_reducible show ∃ p, DV.ref _ = _ ∧ (∃ kvs, _) ∧ _); refine wx_get (by walk_at "gq") ?_) | ((with_reducible show ∃ kvs z, _ = _ ∧ _ = some (DO.dct _) ∧ _); refine wx_get2 (by walk_at "gq") ?_) | ((with_reducible show ∃ p kvs z, _ = _ ∧ _ = _ ∧ _ = some (DO.dct _) ∧ _); refine wx_in (by walk_at "gq") ?_) | ((with_reducible show List.length _ = _ ∧ _); refine w_len ?_ rfl) | ((with_reducible show List.length _ ≤ sizeLine ∧ _); refine w_sz ?_ (szl rfl)) | ((with_reducible show bIx _ (.int _) _ _); first | refine w_ix0 ?_ | refine w_ix1 ?_ | refine w_ix2 ?_ | refine w_ix3 ?_) | ((with_reducible show bIsi [_, _] _ _); first | refine w_isi (by decide) (a := "tuple") rfl rfl ?_ | refine w_isi (by decide) (a := "str") rfl rfl ?_ | refine w_isi (by decide) (a := "int") rfl rfl ?_ | refine w_isi (by decide) (a := "bool") rfl rfl ?_ | refine w_isi (by decide) (a := "NoneType") rfl rfl ?_) | ((with_reducible show ∃ ds, _ = DV.tup ds ∧ _); refine w_exT ?_) | ((with_reducible show ∃ z, _ = DV.str z ∧ _); refine w_exS ?_) | ((with_reducible show ∃ ds, [_] = [DV.tup ds] ∧ _); refine wx_enumT ?_) | ((with_reducible show bSl _ _ _ _ _); refine w_slT ?_) | ((with_reducible show bTuple [_] _ _); refine w_tupT ?_) | ((with_reducible show bLen [_] _ _); refine w_lenT ?_) | ((with_reducible show bTru _ _ _); first | refine w_truT ?_ | refine w_truN ?_ | refine w_truB ?_ | refine w_truI ?_) | ((with_reducible show bEq _ _ _ _ _); first | refine w_eqSS ?_ | refine w_eqII ?_ | refine w_neSS ?_ | refine w_neII ?_ | refine w_eqT0 ?_) | ((with_reducible show bInt _ _ (.int _) (.int _) _ _); refine w_int (by first | decide | exact ⟨by decide, by decide, by decide⟩ | exact .inl ⟨by decide, by decide⟩ | exact .inr ⟨by decide, by decide⟩) ?_) | ((with_reducible show if _ = true then _ else _); first | refine w_it (by first | rfl | decide +kernel) ?_ | refine w_if0 (by first | rfl | decide +kernel) ?_) | ((with_reducible show rcv "list" (.ref _) _ ∧ _); refine w_rcvL (by walk_at "gq") ?_) | ((with_reducible show bTuple [.ref _] _ _); refine w_tupL (by walk_at "gq") ?_) | ((with_reducible show bLen [.ref _] _ _); refine w_lenL (by walk_at "gq") ?_) | ((with_reducible show bTru (.ref _) _ _); refine w_truL (by walk_at "gq") ?_) | ((with_reducible show ∃ _ _, DV.ref _ = _ ∧ Ls _ _ _ ∧ _); refine wx_lst (by walk_at "gq") ?_) | ((with_reducible show ∃ _ _, [DV.ref _] = _ ∧ Ls _ _ _ ∧ _); refine wx_lstA (by walk_at "gq") ?_))
local macro_rules | `(tactic| walk_at "dd") => `(tactic| repeat (walk_at "d1"))
local macro_rules | `(tactic| walk_at "gq") => `(tactic| first | assumption | exact dupd_same | exact sub_get (by assumption) (by walk_at "gq") | exact upd_get (by assumption) (by walk_at "gq") (by walk_at "gn") | exact subx_get (by assumption) (by walk_at "gq") (by walk_at "gn") | (refine (dupd_ne ?_).trans ?_; (focus walk_at "gn"); walk_at "gq"))
local macro_rules | `(tactic| walk_at "gs") => `(tactic| first | assumption | exact Sub.refl _ | exact sub_tr (by assumption) (by walk_at "gs") | exact sub_up (by assumption) (by walk_at "gs") (by walk_at "g0") | exact sub_ux (by assumption) (by walk_at "gs") (by walk_at "g0") | (refine Sub.new ?_ ?_; (focus walk_at "gs"); walk_at "g0"))
local macro_rules | `(tactic| walk_at "gk") => `(tactic| first | assumption | exact db_sub (by assumption) (by walk_at "gk") | exact db_upd (by assumption) (by walk_at "gk") ⟨_, by walk_at "gq"⟩ | exact db_updD (by assumption) (by walk_at "gk") ⟨_, by walk_at "gq"⟩)
local macro_rules | `(tactic| walk_at "gu") => `(tactic| first | assumption | exact Upd.refl _ _ | exact upd_in (by assumption) (by walk_at "gu"))
local macro_rules | `(tactic| walk_at "gx") => `(tactic| first | assumption | exact SubX.refl _ _ | exact subx_sub (by assumption) (by walk_at "gx") | exact subx_upd (by assumption) (by walk_at "gx") | exact subx_tr (by assumption) (by walk_at "gx"))
local macro_rules | `(tactic| walk_at "gn") => `(tactic| first | assumption | exact Ne.symm (by assumption) | exact ne_ns (by assumption) ⟨_, by walk_at "gq"⟩ | exact ne_sn (by assumption) ⟨_, by walk_at "gq"⟩)
local macro_rules | `(tactic| walk_at "g0") => `(tactic| first | assumption | exact nn_ (by assumption) (by walk_at "gs"))
/-! ### names of told words -/
def hasP (x : List Nat) : Bool := [112, 108].isPrefixOf x || ([113].isPrefixOf x || ([105, 102, 115].isPrefixOf x || [100, 111, 119].isPrefixOf x))
def seven : List Str := ["do", "if", "each", "dip", "plus", "part", "put"]
def stems : List (List Nat) := [[112, 108], [112, 108, 117], [113], [105, 102, 115], [100, 111, 119]]
theorem pre_app {p x : List Nat} (c : List Nat) (h : p.isPrefixOf x = true) : p.isPrefixOf (x ++ c) = true := by
  rw [List.isPrefixOf_iff_prefix] at h ⊢
  exact h.trans (List.prefix_append x c)
theorem hasP_app {x : List Nat} (c : List Nat) (h : hasP x = true) : hasP (x ++ c) = true := by
  unfold hasP at h ⊢
  simp only [Bool.or_eq_true] at h ⊢
  rcases h with h | h | h | h
  · exact .inl (pre_app c h)
  · exact .inr (.inl (pre_app c h))
  · exact .inr (.inr (.inl (pre_app c h)))
  · exact .inr (.inr (.inr (pre_app c h)))
/-- a name: small letters, a stem ahead or eight of them -/
structure Gd (x : List Nat) : Prop where
  az : ∀ c ∈ x, c ∈ Cm.az
  ln : x.length ≤ 8
  st : x.length = 8 ∨ hasP x = true
/-- how many z stand behind -/
def tz (x : List Nat) : Nat := (x.reverse.takeWhile (fun c => decide (c = 122))).length
theorem tz_snoc (x : List Nat) (c : Nat) : tz (x ++ [c]) = if c = 122 then tz x + 1 else 0 := by
  unfold tz
  rw [List.reverse_append]
  show (List.takeWhile _ (c :: x.reverse)).length = _
  rw [List.takeWhile_cons]
  by_cases h : c = 122
  · rw [if_pos h, if_pos (decide_eq_true h), List.length_cons]
  · rw [if_neg h, if_neg (by rw [decide_eq_false h]; exact Bool.false_ne_true)]; rfl
theorem tw_take (p : Nat → Bool) : ∀ (l : List Nat) (n : Nat), ((l.take n).takeWhile p).length ≤ (l.takeWhile p).length
  | [], n => by rw [List.take_nil]; exact Nat.le_refl _
  | a :: r, 0 => Nat.zero_le _
  | a :: r, n + 1 => by
    rw [List.take_succ_cons, List.takeWhile_cons, List.takeWhile_cons]
    split
    · rw [List.length_cons, List.length_cons]; have := tw_take p r n; omega
    · exact Nat.le_refl _
theorem tz_drop (x : List Nat) (n : Nat) : tz (x.drop n) ≤ tz x := by
  unfold tz
  rw [List.reverse_drop]
  exact tw_take _ _ _
/-- the last eight signs -/
def c8 (x : List Nat) : List Nat := x.drop (x.length - 8)
theorem cut8 (x : List Nat) : cutS (S x) (some (-8)) none = S (c8 x) := by
  unfold cutS c8
  have e : HT.sIx (S x).length 0 (some (-8)) = x.length - 8 := by
    show (if (-8 : Int) < 0 then ((-8 : Int) + ((S x).length : Int)).toNat else min (-8 : Int).toNat (S x).length) = _
    rw [if_pos (by decide), S_len]
    omega
  rw [e, HT.sIx_none, S_len]
  show S ((x.drop (x.length - 8)).take (x.length - (x.length - 8))) = S (x.drop (x.length - 8))
  rw [List.take_of_length_le (by rw [List.length_drop]; exact Nat.le_refl _)]
theorem c8_snoc (x : List Nat) (c : Nat) : c8 (x ++ [c]) = x.drop (x.length + 1 - 8) ++ [c] := by
  unfold c8
  rw [List.length_append, List.length_singleton, List.drop_append_of_le_length (by omega)]
theorem Gd.next {x : List Nat} {c : Nat} (h : Gd x) (hc : c ∈ Cm.az) : Gd (c8 (x ++ [c])) := by
  have l := h.ln
  rw [c8_snoc]
  refine ⟨fun d hd => ?_, ?_, ?_⟩
  · rcases List.mem_append.mp hd with z | z
    · exact h.az d (List.mem_of_mem_drop z)
    · rw [List.mem_singleton.mp z]; exact hc
  · rw [List.length_append, List.length_drop, List.length_singleton]; omega
  · by_cases e : x.length = 8
    · left; rw [List.length_append, List.length_drop, List.length_singleton]; omega
    · right
      rw [show x.length + 1 - 8 = 0 from by omega, List.drop_zero]
      exact hasP_app [c] (h.st.resolve_left e)
theorem tz_next (x : List Nat) (c : Nat) : tz (c8 (x ++ [c])) ≤ if c = 122 then tz x + 1 else 0 := by
  unfold c8
  exact Nat.le_trans (tz_drop _ _) (Nat.le_of_eq (tz_snoc x c))
theorem last_c8 (x : List Nat) (c : Nat) : (c8 (x ++ [c])).getLast? = some c := by
  rw [c8_snoc, List.getLast?_append]; rfl
theorem bkl_seven : ∀ z ∈ BKL, z ∈ seven ∨ (z.cps.toList.length ≠ 8 ∧ hasP z.cps.toList = false) := by decide +kernel
theorem Gd.notab {x : List Nat} (h : Gd x) (h7 : S x ∉ seven) : S x ∉ BKL := fun hm => by
  have ex : (S x).cps.toList = x := by simp [S]
  rcases bkl_seven _ hm with z | ⟨z1, z2⟩
  · exact h7 z
  · rw [ex] at z1 z2
    rcases h.st with e | e
    · exact z1 e
    · rw [e] at z2; cases z2
theorem az_45 : 45 ∉ Cm.az := by decide
theorem az_small : ∀ c ∈ Cm.az, c < 1114112 := by decide
theorem z8_tz : tz (("zzzzzzzz" : Str)).cps.toList = 8 := by decide +kernel
/-- a list without repeats within another one -/
theorem nodup_le : ∀ {l m : List Nat}, l.Nodup → (∀ c ∈ l, c ∈ m) → l.length ≤ m.length
  | [], _, _, _ => Nat.zero_le _
  | a :: r, m, nd, h => by
    obtain ⟨n1, n2⟩ := List.nodup_cons.mp nd
    have ha := h a (List.mem_cons_self ..)
    have := nodup_le (l := r) (m := m.erase a) n2 fun c hc => (List.mem_erase_of_ne (fun z => n1 (by rw [← z]; exact hc))).mpr (h c (List.mem_cons_of_mem _ hc))
    rw [List.length_erase_of_mem ha] at this
    have p := List.length_pos_of_mem ha
    rw [List.length_cons]; omega
def lastOf (z : Str) : Option Nat := (TL.tl z).getLast?
/-- the letters of a round -/
def azr (r : Nat) : List Nat := (Cm.az ++ Cm.az).drop r
theorem azr_ok : ∀ r, r < 26 → ((azr r).take 26).Nodup ∧ (azr r).length = 52 - r ∧ (∀ j, j < 52 → (azr r)[j + 1]? = some 122 → (azr r)[j]? ≠ some 122) ∧ ∀ c ∈ azr r, c ∈ Cm.az := by decide +kernel
/-- the word within round k, behind j letters -/
structure Rn (k : Nat) (names : List Str) (ys : List Nat) (j : Nat) (x : List Nat) : Prop where
  g : Gd x
  t : tz x ≤ k
  c : S x ∉ names ∨ (S x ∈ names ∧ 1 ≤ k ∧ (∀ c ∈ ys.take j, ∃ z ∈ names, lastOf z = some c) ∧ (j = 0 → tz x ≤ k - 1) ∧ ∀ i, j = i + 1 → x.getLast? = ys[i]?)
theorem Rn.start {k : Nat} {names : List Str} {ys : List Nat} {x : List Nat} (g : Gd x) (t : tz x ≤ k - 1) (h0 : k = 0 → S x ∉ names) : Rn k names ys 0 x := by
  refine ⟨g, by omega, ?_⟩
  by_cases h : S x ∈ names
  · by_cases hk : k = 0
    · exact absurd h (h0 hk)
    · exact .inr ⟨h, by omega, (fun c hc => nomatch hc), fun _ => t, fun i e => nomatch e⟩
  · exact .inl h
theorem Rn.out {k j : Nat} {names : List Str} {ys : List Nat} {x : List Nat} (r : Rn k names ys j x) (h : S x ∉ names) : Rn k names ys (j + 1) x := ⟨r.g, r.t, .inl h⟩
theorem Rn.in_ {k j c : Nat} {names : List Str} {ys : List Nat} {x : List Nat} (r : Rn k names ys j x) (h : S x ∈ names) (hc : ys[j]? = some c) (haz : c ∈ Cm.az) (hz : ∀ i, ys[i + 1]? = some 122 → ys[i]? ≠ some 122) : Rn k names ys (j + 1) (c8 (x ++ [c])) := by
  obtain ⟨_, k1, hl, ht, hx⟩ := r.c.resolve_left (fun z => z h)
  have tzn := tz_next x c
  have tk : tz (c8 (x ++ [c])) ≤ k := by
    by_cases e : c = 122
    · rw [if_pos e] at tzn
      cases j with
      | zero => have := ht rfl; omega
      | succ i =>
        have hne := hz i (by rw [hc, e])
        have hlast := hx i rfl
        have : tz x = 0 := by
          cases hg : x.getLast? with
          | none => rw [List.getLast?_eq_none_iff.mp hg]; rfl
          | some d =>
            obtain ⟨xs, rfl⟩ := List.getLast?_eq_some_iff.mp hg
            rw [tz_snoc, if_neg (fun z => hne (by rw [← hlast, hg, z]))]
        omega
    · rw [if_neg e] at tzn; omega
  refine ⟨r.g.next haz, tk, ?_⟩
  by_cases hm : S (c8 (x ++ [c])) ∈ names
  · refine .inr ⟨hm, k1, fun d hd => ?_, (fun z => nomatch z), fun i e => ?_⟩
    · rw [List.take_add_one, hc] at hd
      rcases List.mem_append.mp hd with z | z
      · exact hl d z
      · have : d = c := List.mem_singleton.mp z
        refine ⟨_, hm, ?_⟩
        unfold lastOf
        rw [show TL.tl (S (c8 (x ++ [c]))) = c8 (x ++ [c]) from tl_S' _, this]
        exact last_c8 x c
    · cases e
      rw [last_c8, hc]
  · exact .inl hm
theorem Rn.end_ {k j : Nat} {names : List Str} {ys : List Nat} {x : List Nat} (r : Rn k names ys j x) (hj : 26 ≤ j) (nd : (ys.take 26).Nodup) (hy : 26 ≤ ys.length) (hn : names.length ≤ 25) : S x ∉ names := by
  rcases r.c with h | ⟨_, _, h, _⟩
  · exact h
  · exfalso
    have := nodup_le (l := ys.take 26) (m := names.filterMap lastOf) nd fun c hc => by
      obtain ⟨z, hz, e⟩ := h c (by
        have : (ys.take 26) = (ys.take j).take 26 := by rw [List.take_take, Nat.min_eq_left hj]
        rw [this] at hc
        exact List.mem_of_mem_take hc)
      exact List.mem_filterMap.mpr ⟨z, hz, e⟩
    have l2 := List.length_filterMap_le lastOf names
    rw [List.length_take] at this
    omega
/-- an entry's name -/
def BkN (z : Str) : Prop := ∃ x, z = S x ∧ Gd x ∧ tz x ≤ 7 ∧ S x ∉ seven
/-- the names of a book, unlike one another -/
structure BkI (bk : List (Str × List Wo)) : Prop where
  nm : ∀ e ∈ bk, BkN e.1
  gd : ∀ e ∈ bk, gdWs e.2 ∧ szWs e.2 ≤ 100 ∧ dpWs e.2 ≤ 10
  df : bk.Pairwise fun a b => a.1 ≠ b.1
  rw : ∀ e ∈ bk, e.2.length ≤ 1000
theorem BkI.nil : BkI [] := ⟨(fun _ h => nomatch h), (fun _ h => nomatch h), .nil, (fun _ h => nomatch h)⟩
theorem BkI.snoc {bk : List (Str × List Wo)} {x : List Nat} {ws : List Wo} (h : BkI bk) (g : Gd x) (t : tz x ≤ 7) (n : S x ∉ bk.map (·.1) ++ seven) (l : ws.length ≤ 1000) (gw : gdWs ws ∧ szWs ws ≤ 100 ∧ dpWs ws ≤ 10) : BkI (bk ++ [(S x, ws)]) := by
  refine ⟨fun e he => ?_, fun e he => ?_, ?_, fun e he => ?_⟩
  · rcases List.mem_append.mp he with he | he
    · exact h.nm e he
    · rw [List.mem_singleton.mp he]; exact ⟨x, rfl, g, t, fun z => n (List.mem_append_right _ z)⟩
  · rcases List.mem_append.mp he with he | he
    · exact h.gd e he
    · rw [List.mem_singleton.mp he]; exact gw
  · refine List.pairwise_append.mpr ⟨h.df, List.pairwise_singleton _ _, fun a ha b hb => ?_⟩
    rw [List.mem_singleton.mp hb]
    exact fun z => n (List.mem_append_left _ (List.mem_map.mpr ⟨a, ha, z⟩))
  · rcases List.mem_append.mp he with he | he
    · exact h.rw e he
    · rw [List.mem_singleton.mp he]; exact l
theorem BkN.ok {z : Str} (h : BkN z) : NmOk z ∧ z ≠ "zzzzzzzz" := by
  obtain ⟨x, rfl, g, t, h7⟩ := h
  refine ⟨⟨g.notab h7, ?_, by rw [S_len]; have := g.ln; omega, strOk_of fun c hc => az_small c (g.az c (by rwa [show (S x).cps.toList = x from by simp [S]] at hc))⟩, fun e => ?_⟩
  · rw [show TL.tl (S x) = x from tl_S' x]
    exact fun hm => az_45 (g.az _ hm)
  · have z := z8_tz
    rw [← e, show (S x).cps.toList = x from by simp [S]] at z
    omega
theorem stems_ok : ∀ x ∈ stems, Gd x ∧ tz x = 0 ∧ S x ∉ seven := by
  have : ∀ x ∈ stems, (∀ c ∈ x, c ∈ Cm.az) ∧ x.length ≤ 8 ∧ hasP x = true ∧ tz x = 0 ∧ S x ∉ seven := by decide +kernel
  exact fun x hx => let ⟨a, b, c, d, e⟩ := this x hx; ⟨⟨a, b, .inr c⟩, d, e⟩
theorem BkI.bok {bk : Bok} (h : BkI bk) : BokOk 100 bk := ⟨fun x hx => (h.gd x hx).1, fun x hx => (h.gd x hx).2, fun x hx => (h.nm x hx).ok.1⟩
section
variable {P : Program} {w : World} {K : Frag} {mg : Str → Option Value} {base : Heap}
def SP_bk : DSp := fun ds G R => ∃ d, ds = [.ref d] ∧ HasDb G d ∧ ∀ bk, BkI bk → bk.length ≤ 5 → R (.tup (eBk bk)) G
end
end K14
set_option maxHeartbeats 1000000
namespace K14
open PySem PySem.W L2 SX Cm DD
local macro_rules | `(tactic| walk_at "d1") => `(tactic| first | (with_reducible refine w_go ?_) | ((with_reducible show dVar _ _ _ _); refine w_var rfl ?_) | (with_reducible refine w_exI ?_) | (with_reducible refine w_exB ?_) | (with_reducible refine w_exT ?_) | (with_reducible refine w_exS ?_) | (with_reducible refine w_parE ?_) | (with_reducible refine ly1 ?_) | (with_reducible refine ly2 ?_) | (with_reducible refine lt1' ?_) | (with_reducible refine lt2' ?_) | (with_reducible refine wx_enumT ?_) | (with_reducible refine w_callX ?_) | (with_reducible refine w_methX ?_) | (with_reducible refine w_raise ?_) | (with_reducible refine w_try ?_) | (with_reducible refine w_xSet ?_) | (with_reducible refine w_xExpr ?_) | (with_reducible refine w_xLst ?_) | (with_reducible refine w_xTup ?_) | (with_reducible refine w_xCons ?_) | (with_reducible refine w_xNil ?_) | (with_reducible refine w_xE ?_) | (with_reducible refine w_xCall ?_) | (with_reducible refine w_call0 ?_) | (with_reducible refine w_asgL ?_) | (with_reducible refine w_tupPd ?_) | (with_reducible refine wi_zip ?_) | (with_reducible refine w_delT ?_) | (with_reducible refine w_dc ?_) | (with_reducible refine w_revL ?_) | (with_reducible refine wi_revT ?_) | (with_reducible refine w_lstZip ?_) | (with_reducible refine w_chain ?_) | (with_reducible refine w_orT ?_) | (with_reducible refine w_try0 ?_) | (with_reducible refine w_xAsg ?_) | (with_reducible refine wi_zipTL ?_) | (with_reducible refine wi_zipSL ?_) | ((with_reducible show gT _ _ _ _ _ _); refine g_T ?_ rfl) | ((with_reducible show ∃ p, DV.ref _ = _ ∧ (∃ kvs, _) ∧ _); refine wx_get (by walk_at "gq") ?_) | ((with_reducible show ∃ kvs z, _ = _ ∧ _ = some (DO.dct _) ∧ _); refine wx_get2 (by walk_at "gq") ?_) | ((with_reducible show ∃ p kvs z, _ = _ ∧ _ = _ ∧ _ = some (DO.dct _) ∧ _); refine wx_in (by walk_at "gq") ?_) | ((with_reducible show List.length _ = _ ∧ _); refine w_len ?_ rfl) | ((with_reducible show List.length _ ≤ sizeLine ∧ _); refine w_sz ?_ (szl rfl)) | ((with_reducible show bIx _ (.int _) _ _); first | refine w_ix0 ?_ | refine w_ix1 ?_ | refine w_ix2 ?_ | refine w_ix3 ?_) | ((with_reducible show bIsi [_, _] _ _); first | refine w_isi (by decide) (a := "tuple") rfl rfl ?_ | refine w_isi (by decide) (a := "str") rfl rfl ?_ | refine w_isi (by decide) (a := "int") rfl rfl ?_ | refine w_isi (by decide) (a := "bool") rfl rfl ?_ | refine w_isi (by decide) (a := "NoneType") rfl rfl ?_) | ((with_reducible show ∃ ds, _ = DV.tup ds ∧ _); refine w_exT ?_) | ((with_reducible show ∃ z, _ = DV.str z ∧ _); refine w_exS ?_) | ((with_reducible show ∃ ds, [_] = [DV.tup ds] ∧ _); refine wx_enumT ?_) | ((with_reducible show bSl _ _ _ _ _); refine w_slT ?_) | ((with_reducible show bTuple [_] _ _); refine w_tupT ?_) | ((with_reducible show bLen [_] _ _); refine w_lenT ?_) | ((with_reducible show bTru _ _ _); first | refine w_truT ?_ | refine w_truN ?_ | refine w_truB ?_ | refine w_truI ?_) | ((with_reducible show bEq _ _ _ _ _); first | refine w_eqSS ?_ | refine w_eqII ?_ | refine w_neSS ?_ | refine w_neII ?_ | refine w_eqT0 ?_) | ((with_reducible show bInt _ _ (.int _) (.int _) _ _); refine w_int (by first | decide | exact ⟨by decide, by decide, by decide⟩ | exact .inl ⟨by decide, by decide⟩ | exact .inr ⟨by decide, by decide⟩) ?_) | ((with_reducible show if _ = true then _ else _); first | refine w_it (by first | rfl | decide +kernel) ?_ | refine w_if0 (by first | rfl | decide +kernel) ?_) | ((with_reducible show rcv "list" (.ref _) _ ∧ _); refine w_rcvL (by walk_at "gq") ?_) | ((with_reducible show bTuple [.ref _] _ _); refine w_tupL (by walk_at "gq") ?_) | ((with_reducible show bLen [.ref _] _ _); refine w_lenL (by walk_at "gq") ?_) | ((with_reducible show bTru (.ref _) _ _); refine w_truL (by walk_at "gq") ?_) | ((with_reducible show ∃ _ _, DV.ref _ = _ ∧ Ls _ _ _ ∧ _); refine wx_lst (by walk_at "gq") ?_) | ((with_reducible show ∃ _ _, [DV.ref _] = _ ∧ Ls _ _ _ ∧ _); refine wx_lstA (by walk_at "gq") ?_))
local macro_rules | `(tactic| walk_at "dd") => `(tactic| repeat (walk_at "d1"))
local macro_rules | `(tactic| walk_at "gq") => `(tactic| first | assumption | exact dupd_same | exact sub_get (by assumption) (by walk_at "gq") | exact upd_get (by assumption) (by walk_at "gq") (by walk_at "gn") | exact subx_get (by assumption) (by walk_at "gq") (by walk_at "gn") | (refine (dupd_ne ?_).trans ?_; (focus walk_at "gn"); walk_at "gq"))
local macro_rules | `(tactic| walk_at "gs") => `(tactic| first | assumption | exact Sub.refl _ | exact sub_tr (by assumption) (by walk_at "gs") | exact sub_up (by assumption) (by walk_at "gs") (by walk_at "g0") | exact sub_ux (by assumption) (by walk_at "gs") (by walk_at "g0") | (refine Sub.new ?_ ?_; (focus walk_at "gs"); walk_at "g0"))
local macro_rules | `(tactic| walk_at "gk") => `(tactic| first | assumption | exact db_sub (by assumption) (by walk_at "gk") | exact db_upd (by assumption) (by walk_at "gk") ⟨_, by walk_at "gq"⟩ | exact db_updD (by assumption) (by walk_at "gk") ⟨_, by walk_at "gq"⟩)
local macro_rules | `(tactic| walk_at "gu") => `(tactic| first | assumption | exact Upd.refl _ _ | exact upd_in (by assumption) (by walk_at "gu"))
local macro_rules | `(tactic| walk_at "gx") => `(tactic| first | assumption | exact SubX.refl _ _ | exact subx_sub (by assumption) (by walk_at "gx") | exact subx_upd (by assumption) (by walk_at "gx") | exact subx_tr (by assumption) (by walk_at "gx"))
local macro_rules | `(tactic| walk_at "gn") => `(tactic| first | assumption | exact Ne.symm (by assumption) | exact ne_ns (by assumption) ⟨_, by walk_at "gq"⟩ | exact ne_sn (by assumption) ⟨_, by walk_at "gq"⟩)
local macro_rules | `(tactic| walk_at "g0") => `(tactic| first | assumption | exact nn_ (by assumption) (by walk_at "gs"))
theorem bases_S : ([("pl" : Str), "plu", "q", "ifs", "dow"] : List Str) = stems.map S := by decide +kernel
theorem az_S : ("abcdefghijklmnopqrstuvwxyz" : Str) = S Cm.az := by decide +kernel
theorem az2_S : (⟨(S Cm.az).cps ++ (S Cm.az).cps⟩ : Str) = S (Cm.az ++ Cm.az) := by decide +kernel
theorem cutS_azr (r : Nat) : cutS (S (Cm.az ++ Cm.az)) (some (r : Int)) none = S (azr r) := by
  unfold cutS azr
  rw [HT.sIx_nat, HT.sIx_none, S_len]
  show S (((Cm.az ++ Cm.az).drop (min r 52)).take (52 - min r 52)) = _
  by_cases h : r ≤ 52
  · rw [Nat.min_eq_left h, List.take_of_length_le (by rw [List.length_drop]; show 52 - r ≤ 52 - r; omega)]
  · rw [Nat.min_eq_right (by omega), List.drop_of_length_le (by show 52 ≤ 52; omega), List.drop_of_length_le (by show 52 ≤ r; omega), List.take_nil]
theorem signs_S' (x : List Nat) : signs (S x) = x.map fun c => DV.str ⟨#[c]⟩ := by
  unfold signs; rw [show (S x).cps.toList = x from by simp [S]]
theorem inD_str (z : Str) : ∀ zs : List Str, inD (.str z) (zs.map DV.str) = decide (z ∈ zs)
  | [] => rfl
  | y :: r => by
    have ih := inD_str z r
    unfold inD at ih ⊢
    show ((y == z) || inV (.str z) ((r.map DV.str).map toV)) = _
    rw [show toV (.str z) = V.str z from rfl] at ih
    rw [ih]
    by_cases h : y = z
    · rw [h, beq_self_eq_true, Bool.true_or, decide_eq_true (List.mem_cons_self ..)]
    · rw [beq_eq_false_iff_ne.mpr h, Bool.false_or]
      by_cases h2 : z ∈ r
      · rw [decide_eq_true h2, decide_eq_true (List.mem_cons_of_mem _ h2)]
      · rw [decide_eq_false h2, decide_eq_false (fun h3 => (List.mem_cons.mp h3).elim (fun h3 => h h3.symm) h2)]
theorem flat_strs (zs : List Str) : (zs.map DV.str).all flatD = true := by rw [List.all_map]; exact List.all_eq_true.mpr fun _ _ => rfl
section
variable {P : Program} {w : World} {K : Frag} {mg : Str → Option Value} {base : Heap}
abbrev N_L_book : List Str := ["_law_deck_here", "_law_letters", "_law_book_here", "_law_word", "_law_k", "_law_name", "_law_told", "_law_row", "_law_names", "_law_y", "_law_j"]
abbrev A_L_book : List Str := ["_law_deck_here"]
theorem sc_L_book : FnScope N_L_book A_L_book (defScope s_L_book) := ⟨rfl, rfl, rfl, by decide +kernel, rfl, by decide +kernel, by decide +kernel⟩
theorem h_L_book (a : At K mg "_law_book" s_L_book A_L_book) (B : BI mg) (c_L_draw : Has P w K mg base 2 "_law_draw" A_L_draw SP_drawB) (c_L_any_word : Has P w K mg base 12 "_law_any_word" A_L_any_word (SP_word 2)) : Has P w K mg base 13 "_law_book" A_L_book SP_bk := by
  refine at_mk a sc_L_book fun f cdv A outer s H E hr ds G R hl h => ?_
  refine ⟨_, (dss_cons (ds_set (i := 1) sc_L_book.nd rfl (.inl rfl) de_str)
    (dss_cons (ds_set (i := 2) sc_L_book.nd rfl (.inl rfl) (de_lst da_nil))
    (dss_cons (ds_set (i := 3) sc_L_book.nd rfl (.inl rfl) (de_ix (de_lst (da_cons de_str (da_cons de_str (da_cons de_str (da_cons de_str (da_cons de_str da_nil)))))) (de_call c_L_draw (hr.mono (by omega)) rfl (da_cons (dv 0) (da_cons de_int da_nil)))))
    (dss_cons (ds_for PassesOwn.never rfl (di_range B.range rfl (da_cons (de_op od_add (de_call c_L_draw (hr.mono (by omega)) rfl (da_cons (dv 0) (da_cons de_int da_nil))) (de_op od_mul de_int (de_op od_fdiv (de_call c_L_draw (hr.mono (by omega)) rfl (da_cons (dv 0) (da_cons de_int da_nil))) de_int))) da_nil)) (dg_name (i := 4) sc_L_book.nd rfl (.inl rfl)) (dss_cons (ds_set (i := 8) sc_L_book.nd rfl (.inl rfl) (de_op od_add (de_lc (own := [("_law_name", 5), ("_law_told", 6), ("_law_row", 7)]) (lt3 (i := 5) (j := 6) (k := 7) (by decide) (by decide) (by decide)) rfl sc_L_book.nd (di_list (dv 2)) (blkOk_by (own := [("_law_name", 5), ("_law_told", 6), ("_law_row", 7)]) (N := N_L_book) (sc := defScope s_L_book) (by decide +kernel)) (fun _ _ _ _ _ => pg_tup rfl (pgs_cons (pg_name (i := 5) sc_L_book.nd rfl (Or.inl rfl)) (pgs_cons (pg_name (i := 6) sc_L_book.nd rfl (Or.inl rfl)) (pgs_cons (pg_name (i := 7) sc_L_book.nd rfl (Or.inl rfl)) pgs_nil)))) (fun _ _ _ _ _ => dts_nil) (fun _ _ _ _ _ => (dv 5))) (de_lst (da_cons de_str (da_cons de_str (da_cons de_str (da_cons de_str (da_cons de_str (da_cons de_str (da_cons de_str da_nil))))))))))
      (dss_cons (ds_for PassesOwn.never rfl (di_str (de_slice (de_op od_twc (dv 1) de_int) (do_some (de_call c_L_draw (hr.mono (by omega)) rfl (da_cons (dv 0) (da_cons de_int da_nil)))) do_none)) (dg_name (i := 9) sc_L_book.nd rfl (.inl rfl)) (dss_one (ds_set (i := 3) sc_L_book.nd rfl (.inl rfl) (de_ix (de_lst (da_cons (dv 3) (da_cons (de_slice (de_op od_add (dv 3) (dv 9)) (do_some (de_neg de_int)) do_none) da_nil))) (de_callTy cd_int B.int rfl (by decide +kernel) (da_cons (de_cmp od_in (dv 3) (dv 8) rfl) da_nil))))))
      (dss_cons (ds_setLc (i := 7) (own := [("_law_j", 10)]) (lt1 (i := 10) (by decide)) rfl sc_L_book.nd rfl rfl (sw_true rfl rfl rfl (by decide +kernel)) (di_range B.range rfl (da_cons (de_call c_L_draw (hr.mono (by omega)) rfl (da_cons (dv 0) (da_cons de_int da_nil))) da_nil)) (blkOk_by (own := [("_law_j", 10)]) (N := N_L_book) (sc := defScope s_L_book) (by decide +kernel)) (fun _ _ _ _ _ => pg_name (i := 10) sc_L_book.nd rfl (Or.inl rfl)) (fun _ _ _ _ _ => dts_nil) (fun _ _ _ _ _ => (de_call c_L_any_word (hr.mono (by omega)) rfl (da_cons (dv 0) (da_cons de_int da_nil)))))
      (dss_cons (ds_if (dt_w (dw_and (dt_cmp (od_neNil hr.units) (dv 8) (de_lst da_nil) (nomark _)) (dw_and (dt_cmp (od_eq hr.units) (de_call c_L_draw (hr.mono (by omega)) rfl (da_cons (dv 0) (da_cons de_int da_nil))) de_int (nomark _)) (dw_and1 (dt_cmp (od_neNil hr.units) (dv 2) (de_lst da_nil) (nomark _)))))) (dss_one (ds_expr (de_bm PySem.F.plainAttrs_list PySem.F.slot_list_append PySem.F.type_list_append md_append (dv 7) (da_cons (de_ix (de_ix (dv 2) (de_neg de_int)) de_int) da_nil)))) dss_nil)
      (dss_one (ds_expr (de_bm PySem.F.plainAttrs_list PySem.F.slot_list_append PySem.F.type_list_append md_append (dv 2) (da_cons (de_tup (da_cons (dv 3) (da_cons de_non (da_cons (de_callTy cd_tuple B.tup rfl (by decide +kernel) (da_cons (dv 7) da_nil)) da_nil)))) da_nil)))))))))
    (dss_one (ds_ret (de_callTy cd_tuple B.tup rfl (by decide +kernel) (da_cons (dv 2) da_nil)))))))), ?_⟩
  obtain ⟨d, rfl, hk, q⟩ := h
  walk_at "dd"
  intro pL nL
  refine abs_new nL fun G1 s1 h1 => ?_
  walk_at "dd"
  intro p2 n2
  refine abs_new n2 fun G2 s2 h2 => ?_
  walk_at "dd"
  refine ⟨d, 5, rfl, by walk_at "gk", by decide, by decide, fun r a1 b1 => ?_⟩
  have hb : [DV.str "pl", .str "plu", .str "q", .str "ifs", .str "dow"] = stems.map fun x => DV.str (S x) := by
    have e := congrArg (List.map DV.str) bases_S
    rw [List.map_map] at e; exact e
  obtain ⟨x0v, hx0, hat⟩ := pick (xs := [DV.str "pl", .str "plu", .str "q", .str "ifs", .str "dow"]) (n := 5) a1 b1 rfl
  have hx0' := hx0
  rw [hb] at hx0'
  obtain ⟨x0, hx0m, rfl⟩ := List.mem_map.mp hx0'
  obtain ⟨g0, t0, n70⟩ := stems_ok x0 hx0m
  refine w_ixL h2 hat ?_
  walk_at "dd"
  refine ⟨d, 4, rfl, by walk_at "gk", by decide, by decide, fun ra a2 b2 => ?_⟩
  walk_at "dd"
  refine ⟨d, 8, rfl, by walk_at "gk", by decide, by decide, fun rb a3 b3 => ?_⟩
  walk_at "dd"
  refine w_int (wide_div (by decide) (b := 3) (by omega) (by decide) (by decide)) ?_
  walk_at "dd"
  obtain ⟨m0, em0, m00, m05⟩ : ∃ m : Int, 2 * (rb / 7) = m ∧ 0 ≤ m ∧ m ≤ 2 := ⟨_, rfl, by omega, by omega⟩
  rw [em0]
  walk_at "dd"
  refine wx_rng (by omega) (by omega) ?_
  rw [az_S]
  have hk3 : HasDb G2 d := by walk_at "gk"
  have hL3 : G2 pL = some (.lst (eBk [])) := by walk_at "gq"
  have s03 : DD.Sub G G2 := by walk_at "gs"
  have nb : (ra + m0).toNat ≤ 5 := by omega
  generalize (ra + m0).toNat = nn at nb
  clear h1 h2 hat hx0 hx0'
  refine for_by (fun i δ G' => ∃ x4 x7 x8 x9 bk x, δ = [some (.ref d), some (.str (S Cm.az)), some (.ref pL), some (.str (S x)), x4, none, none, x7, x8, x9, none] ∧ G' pL = some (.lst (eBk bk)) ∧ bk.length = i ∧ BkI bk ∧ Gd x ∧ tz x ≤ i - 1 ∧ (i = 0 → S x ∉ seven) ∧ DD.Sub G G' ∧ HasDb G' d) (fun _ _ _ _ => trivial) ⟨_, _, _, _, [], x0, rfl, hL3, rfl, .nil, g0, by omega, fun _ => n70, s03, hk3⟩ ?_ ?_
  · rintro i y δ G4 hy ⟨x4, x7, x8, x9, bk, x, rfl, hL, lb, hB, gx, tx, x7n, s4, hk4⟩
    have hi : i < nn := by have := (List.getElem?_eq_some_iff.mp hy).1; rwa [rng_len] at this
    rw [rng_get hi] at hy
    cases hy
    walk_at "dd"
    refine lcs_pure (fun d => match d with | .tup (n :: _) => some n | _ => none) (fun G' s => .inl (s _ _ hL)) (by unfold eBk; rw [List.length_map]; omega) ?_ ?_
    · intro d' hd G' k1 k0 s' h1' h0'
      unfold eBk at hd
      obtain ⟨e, he, rfl⟩ := List.mem_map.mp hd
      refine ⟨_, _, _, rfl, ?_⟩
      walk_at "dd"
      exact h1' _ rfl
    intro p5 G5 n5 s5 h5
    have e5 : (eBk bk).filterMap (fun d => match d with | .tup (n :: _) => some n | _ => none) = (bk.map (·.1)).map DV.str := by
      unfold eBk
      rw [List.filterMap_map, List.map_map]
      exact List.filterMap_eq_map ▸ rfl
    rw [e5] at h5
    walk_at "dd"
    intro p6 n6
    refine abs_new n6 fun G6 s6 h6 => ?_
    have h6 : G6 p6 = some (.lst (seven.map DV.str)) := h6
    refine w_addL (s6 _ _ h5) h6 (mid (by rw [List.length_map, List.length_map]; show bk.length + 7 ≤ 1000000; omega)) ?_
    intro p7 n7
    refine abs_new n7 fun G7 s7 h7 => ?_
    rw [← List.map_append] at h7
    have s47 : DD.Sub G4 G7 := by walk_at "gs"
    have hk7 : HasDb G7 d := by walk_at "gk"
    have hn14 : (bk.map (·.1) ++ seven).length ≤ 25 := by rw [List.length_append, List.length_map]; show bk.length + 7 ≤ 25; omega
    have hx7 : i = 0 → S x ∉ bk.map (·.1) ++ seven := fun z hm => by
      have : bk = [] := List.eq_nil_of_length_eq_zero (by omega)
      subst this
      exact x7n z hm
    have hns : ∀ z, S z ∉ bk.map (·.1) ++ seven → S z ∉ seven := fun z h hm => h (List.mem_append_right _ hm)
    clear h5 h6
    walk_at "dd"
    refine w_twc (by decide +kernel) (by decide +kernel) ?_
    rw [az2_S]
    walk_at "dd"
    refine ⟨d, 26, rfl, hk7, by decide, by decide, fun r0 a4 b4 => ?_⟩
    obtain ⟨r0, rfl⟩ := Int.eq_ofNat_of_zero_le a4
    obtain ⟨nd, yl, yz, yaz⟩ := azr_ok r0 (by omega)
    walk_at "dd"
    refine w_slS (mid (show (S (Cm.az ++ Cm.az)).length ≤ 1000000 by decide +kernel)) ?_
    have ec : cutS (S (Cm.az ++ Cm.az)) (some (r0 : Int)) none = S (azr r0) := cutS_azr r0
    rw [ec]
    walk_at "dd"
    rw [signs_S']
    generalize azr r0 = ys at nd yl yz yaz
    generalize hnm : bk.map (·.1) ++ seven = names at h7 hn14 hx7 hns
    refine for_by (fun j δ G' => ∃ x' x9', δ = [some (.ref d), some (.str (S Cm.az)), some (.ref pL), some (.str (S x')), some (.int (0 + (i : Int))), none, none, x7, some (.ref p7), x9', none] ∧ Rn i names ys j x' ∧ DD.Sub G7 G') (fun _ _ _ _ => trivial) ⟨_, _, rfl, .start gx tx hx7, Sub.refl _⟩ ?_ ?_
    · rintro j y δ G8 hy ⟨x', x9', rfl, rn, s8⟩
      rw [List.getElem?_map] at hy
      obtain ⟨c, hc, rfl⟩ := Option.map_eq_some_iff.mp hy
      walk_at "dd"
      have lx := rn.g.ln
      refine w_addS (mid (show (S x').length + 1 ≤ 1000000 by rw [S_len]; omega)) ?_
      rw [show S x' ++ (⟨#[c]⟩ : Str) = S (x' ++ [c]) from (S_append x' [c]).symm]
      walk_at "dd"
      refine w_slS (mid (show (S (x' ++ [c])).length ≤ 1000000 by rw [S_len, List.length_append]; show x'.length + 1 ≤ 1000000; omega)) ?_
      rw [cut8]
      walk_at "dd"
      intro p9 n9
      refine abs_new n9 fun G9 s9 h9 => ?_
      have h9 : G9 p9 = some (.lst [.str (S x'), .str (S (c8 (x' ++ [c])))]) := h9
      walk_at "dd"
      refine w_inL (by walk_at "gq") (flat_strs _) ?_
      rw [inD_str]
      walk_at "dd"
      refine w_ixL h9 (int2 _) ?_
      walk_at "dd"
      have si : ∀ b : Bool, (if b = true then DV.str (S (c8 (x' ++ [c]))) else .str (S x')) = .str (S (if b = true then c8 (x' ++ [c]) else x')) := fun b => by cases b <;> rfl
      show ∃ x1 x2, _ = _ ∧ _
      by_cases hm : S x' ∈ names
      · refine ⟨c8 (x' ++ [c]), some (.str ⟨#[c]⟩), ?_, rn.in_ hm hc (yaz c (List.mem_of_getElem? hc)) (fun i h => yz i (by have := (List.getElem?_eq_some_iff.mp h).1; omega) h), by walk_at "gs"⟩
        rw [show ng false (decide (S x' ∈ names)) = true from decide_eq_true hm]; rfl
      · refine ⟨x', some (.str ⟨#[c]⟩), ?_, rn.out hm, by walk_at "gs"⟩
        rw [show ng false (decide (S x' ∈ names)) = false from decide_eq_false hm]; rfl
    · rintro δ G8 ⟨x', x9', rfl, rn, s8⟩
      rw [List.length_map] at rn
      have hx' := rn.end_ (by omega) nd (by omega) hn14
      walk_at "dd"
      have hne : (!(names.map DV.str).isEmpty) = true := by rw [← hnm, List.map_append]; cases bk.map (·.1) <;> rfl
      have s48 : DD.Sub G G8 := by walk_at "gs"
      have hk8 : HasDb G8 d := by walk_at "gk"
      have hL8 : G8 pL = some (.lst (eBk bk)) := s8 _ _ (s47 _ _ hL)
      have h78 : G8 p7 = some (.lst (names.map DV.str)) := s8 _ _ h7
      clear s8
      refine ⟨d, 4, rfl, hk8, by decide, by decide, fun r1 a5 b5 => ?_⟩
      walk_at "dd"
      refine wx_rng (by omega) (by omega) ?_
      refine lcs_each (fun _ y => ∃ w, y = eW w ∧ DW 1 w) (fun _ _ => trivial) (by rw [rng_len]; omega) ?_ ?_
      · intro j y hy G' k1 k0 s' e1
        walk_at "dd"
        exact ⟨d, 1, rfl, by decide, rfl, by walk_at "gk", fun t ht => e1 _ ⟨t, rfl, ht⟩⟩
      intro p10 G10 acc n10 s10 h10 la he
      rw [rng_len] at la
      obtain ⟨ws, rfl, hws⟩ := acc_of he
      rw [List.length_map] at la
      rw [← eWs_map] at h10
      have lw : ws.length ≤ 3 := by omega
      have hgw : gdWs ws ∧ szWs ws ≤ 93 ∧ dpWs ws ≤ 1 := by
        obtain ⟨z1, z2⟩ := szWs_le (m := 3) hws lw
        exact ⟨gdWs_iff.mpr fun w hw => (hws w hw).2.2, by have : BT 1 = 30 := rfl; omega, z2⟩
      clear he
      walk_at "dd"
      intro p11 n11
      refine abs_new n11 fun G11 s11 h11 => ?_
      refine w_neNil (by walk_at "gq") h11 ?_
      rw [hne]
      walk_at "dd"
      refine ⟨d, 3, rfl, by walk_at "gk", by decide, by decide, fun r2 a6 b6 => ?_⟩
      walk_at "dd"
      refine w_iteD (fun _ => ?_) (fun _ => ?_)
      · walk_at "dd"
        intro p12 n12
        refine abs_new n12 fun G12 s12 h12 => ?_
        have hL12 : G12 pL = some (.lst (eBk bk)) := by walk_at "gq"
        have h12' : G12 p10 = some (.lst (eWs ws)) := by walk_at "gq"
        refine w_neNil hL12 h12 ?_
        rcases List.eq_nil_or_concat bk with hb0 | ⟨ini, e, hb0⟩
        · rw [hb0]
          walk_at "dd"
          walk_at "dd"
          refine w_app (by walk_at "gq") (midlt (by rw [show (eBk bk).length = bk.length from List.length_map ..]; omega)) ?_
          refine abs_upd (by walk_at "gq") fun G13 u13 h13 => ?_
          walk_at "dd"
          refine ⟨_, _, _, _, bk ++ [(S x', ws)], x', rfl, ?_, by rw [List.length_append, lb]; rfl, hB.snoc rn.g (by have := rn.t; omega) (by rw [hnm]; exact hx') (by show ws.length ≤ 1000; omega) ⟨hgw.1, by omega, by omega⟩, rn.g, by have := rn.t; omega, fun z => absurd z (by omega), by walk_at "gs", by walk_at "gk"⟩
          rw [h13]; unfold eBk; rw [List.map_append]; rfl
        · rw [List.concat_eq_append] at hb0
          have hlast : atI (eBk bk) (-1) = some (.tup [.str e.1, .non, .tup (eWs e.2)]) := by
            rw [hb0]; unfold eBk; rw [List.map_append]; exact atI_end
          have hnb : (!(eBk bk).isEmpty) = true := by rw [hb0]; unfold eBk; rw [List.map_append]; cases ini <;> rfl
          rw [hnb]
          walk_at "dd"
          refine w_ixL hL12 hlast ?_
          walk_at "dd"
          refine w_app h12' (midlt (by rw [eWs_len]; omega)) ?_
          refine abs_upd h12' fun G14 u14 h14 => ?_
          have h14 : G14 p10 = some (.lst (eWs ws ++ eWs [.txt e.1])) := h14
          have cat : ∀ a b : List Wo, eWs a ++ eWs b = eWs (a ++ b) := fun a b => by rw [eWs_map, eWs_map, eWs_map, List.map_append]
          rw [cat] at h14
          have hne2 : pL ≠ p10 := by walk_at "gn"
          walk_at "dd"
          refine w_app (by walk_at "gq") (midlt (by rw [show (eBk bk).length = bk.length from List.length_map ..]; omega)) ?_
          refine abs_upd (by walk_at "gq") fun G13 u13 h13 => ?_
          walk_at "dd"
          refine ⟨_, _, _, _, bk ++ [(S x', ws ++ [.txt e.1])], x', rfl, ?_, by rw [List.length_append, lb]; rfl, hB.snoc rn.g (by have := rn.t; omega) (by rw [hnm]; exact hx') (by show (ws ++ [Wo.txt e.1]).length ≤ 1000; rw [List.length_append]; show ws.length + 1 ≤ 1000; omega) ⟨gdWs_app.mpr (show gdWs ws ∧ gdWs [Wo.txt e.1] from ⟨hgw.1, (show WD e.1 from .inr (.inr (hB.nm e (by rw [hb0]; exact List.mem_append_right _ (List.mem_singleton.mpr rfl))).ok.1)), trivial⟩), by rw [szWs_app]; show szWs ws + (1 + 0) ≤ 100; omega, by rw [dpWs_app]; show max (dpWs ws) (max 0 0) ≤ 10; omega⟩, rn.g, by have := rn.t; omega, fun z => absurd z (by omega), by walk_at "gs", by walk_at "gk"⟩
          rw [h13]; unfold eBk; rw [List.map_append]; rfl
      · walk_at "dd"
        walk_at "dd"
        refine w_app (by walk_at "gq") (midlt (by rw [show (eBk bk).length = bk.length from List.length_map ..]; omega)) ?_
        refine abs_upd (by walk_at "gq") fun G13 u13 h13 => ?_
        walk_at "dd"
        refine ⟨_, _, _, _, bk ++ [(S x', ws)], x', rfl, ?_, by rw [List.length_append, lb]; rfl, hB.snoc rn.g (by have := rn.t; omega) (by rw [hnm]; exact hx') (by show ws.length ≤ 1000; omega) ⟨hgw.1, by omega, by omega⟩, rn.g, by have := rn.t; omega, fun z => absurd z (by omega), by walk_at "gs", by walk_at "gk"⟩
        rw [h13]; unfold eBk; rw [List.map_append]; rfl
  · rintro δ G4 ⟨x4, x7, x8, x9, bk, x, rfl, hL, lb, hB, gx, tx, x7n, s4, hk4⟩
    rw [rng_len] at lb
    walk_at "dd"
    exact ⟨G, s4, q bk hB (by omega)⟩
end
end K14
/-! lists read from the front; dicts of texts -/
namespace DD
open PySem PySem.W L2 SX Cm
theorem SubX.of {G G' : DG} {p : Addr} (s : Sub G G') : SubX G p G' := fun a o _ e => s a o e
/-! dicts of texts -/
def toD (m : List (Str × Str)) : List (Key × DV) := m.map fun x => (keyD x.1, DV.str x.2)
def putS (m : List (Str × Str)) (k v : Str) : List (Str × Str) := if (m.any fun x => decide (x.1 = k)) = true then m.map (fun x => if x.1 = k then (k, v) else x) else m ++ [(k, v)]
theorem keyD_iff (a b : Str) : keyD a = keyD b ↔ a = b := ⟨fun h => by injection h, fun h => by rw [h]⟩
theorem put_toD (m : List (Str × Str)) (k v : Str) : putD (toD m) (keyD k) (.str v) = toD (putS m k v) := by
  have ea : ((toD m).any fun kv => decide (kv.1 = keyD k)) = m.any fun x => decide (x.1 = k) := by
    unfold toD
    rw [List.any_map]
    congr 1
    funext x
    exact decq (keyD_iff x.1 k)
  unfold putD putS
  rw [ea]
  by_cases h : (m.any fun x => decide (x.1 = k)) = true
  · rw [if_pos h, if_pos h]
    unfold toD
    rw [List.map_map, List.map_map]
    refine List.map_congr_left fun x _ => ?_
    show (if keyD x.1 = keyD k then (keyD x.1, DV.str v) else (keyD x.1, DV.str x.2)) = (keyD (if x.1 = k then (k, v) else x).1, DV.str (if x.1 = k then (k, v) else x).2)
    by_cases e : x.1 = k
    · rw [if_pos ((keyD_iff _ _).mpr e), if_pos e, e]
    · rw [if_neg (fun z => e ((keyD_iff _ _).mp z)), if_neg e]
  · rw [if_neg h, if_neg h]
    unfold toD
    rw [List.map_append]; rfl
theorem val_toD (z : Str) : ∀ m : List (Str × Str), valD (toD m) (keyD z) = (m.lookup z).map DV.str
  | [] => rfl
  | (a, b) :: r => by
    have ih := val_toD z r
    unfold valD toD at ih ⊢
    rw [List.map_cons, List.find?_cons, look_cons]
    by_cases e : z = a
    · subst e
      rw [if_pos rfl, show decide (keyD z = keyD z) = true from decide_eq_true rfl]; rfl
    · rw [if_neg e, show decide ((keyD a, DV.str b).1 = keyD z) = false from decide_eq_false fun q => e ((keyD_iff _ _).mp q).symm]
      exact ih
end DD
/-! list.index of a text in a list of texts; displays of dicts with texts as keys -/
namespace DD
open PySem PySem.W L2 SX Cm
section
variable {X : Cx}
/-! displays -/
def dPairs : List (TD × TD) → DSt → DG → (List (DV × DV) → DG → Prop) → Prop
  | [], _, G, Q => Q [] G
  | (tk, tv) :: r, δ, G, Q => tk δ G fun x G1 => tv δ G1 fun y G2 => dPairs r δ G2 fun ps G3 => Q ((x, y) :: ps) G3
inductive PR (K : Frag) (H : Hp) : List (V × V) → List (DV × DV) → Prop
  | nil : PR K H [] []
  | cons {v u : V} {x y : DV} {vs : List (V × V)} {ps : List (DV × DV)} : RV K H v x → RV K H u y → PR K H vs ps → PR K H ((v, u) :: vs) ((x, y) :: ps)
theorem lift_pairs {K : Frag} {σ : St} : ∀ (trs : List (TD × TD)) {δ : DSt} {G : DG} {H : Hp} {Qd : List (DV × DV) → DG → Prop} {Qh : List (V × V) → Hp → Prop}, Sl K H σ δ → Wd K H G → dPairs trs δ G Qd →
    (∀ ps G' H' vs, Qd ps G' → TKs K H H' → Wd K H' G' → PR K H' vs ps → Qh vs H') → tPairs (trs.map fun t => (up K t.1, up K t.2)) σ H Qh
  | [], δ, G, H, _, _, sl, w, h, f => f [] G H [] h (TKs.refl H) w .nil
  | (tk, tv) :: r, δ, G, H, _, _, sl, w, h, f => ⟨δ, G, _, sl, w, h, fun x G1 vx H1 h1 t1 w1 r1 => ⟨δ, G1, _, sl.mono t1, w1, h1, fun y G2 vy H2 h2 t2 w2 r2 =>
    lift_pairs r (sl.mono (t1.trans t2)) w2 h2 fun ps G' H' vs q t w' pr => f ((x, y) :: ps) G' H' ((vx, vy) :: vs) q ((t1.trans t2).trans t) w' (.cons (r1.mono (t2.trans t)) (r2.mono t) pr)⟩⟩
theorem pr_keys {K : Frag} {H : Hp} : ∀ {kvs : List (Str × DV)} {vs : List (V × V)}, PR K H vs (kvs.map fun kv => (DV.str kv.1, kv.2)) → ∃ vk : List (Key × V), vs = vk.map (fun kv => (kV kv.1, kv.2)) ∧ vk.length = kvs.length ∧
    ∀ {us : List (Key × V)} {ds : List (Key × DV)}, KRV K H us ds → KRV K H (mergeK us vk) (kvs.foldl (fun m kv => putD m (keyD kv.1) kv.2) ds)
  | [], _, .nil => ⟨[], rfl, rfl, fun h => h⟩
  | kv :: r, _, .cons (v := v) (u := u) h1 h2 t => by
    obtain ⟨vk, e, l, g⟩ := pr_keys t
    cases h1
    exact ⟨(keyD kv.1, u) :: vk, by rw [e]; rfl, by rw [List.length_cons, List.length_cons, l], fun h => g (h.put (keyD kv.1) h2)⟩
def dDisp (trs : List (TD × TD)) : TD := fun δ G Q => ∀ p, G p = none → dPairs trs δ (dupd G p (.dct [])) fun ps G2 => G2 p = some (.dct []) ∧ ∃ kvs : List (Str × DV), ps = kvs.map (fun kv => (DV.str kv.1, kv.2)) ∧ kvs.length ≤ 15 ∧ Q (.ref p) (dupd G2 p (.dct (kvs.foldl (fun m kv => putD m (keyD kv.1) kv.2) [])))
structure DPs (X : Cx) (pos : Pos) (keys : List (Option Expr)) (values : List Expr) (trs : List (TD × TD)) : Prop where
  run : PPs X pos keys values (trs.map fun t => (up X.K t.1, up X.K t.2))
theorem dps_nil {pos : Pos} : DPs X pos [] [] [] := ⟨pps_nil⟩
theorem dps_cons {pos : Pos} {k v : Expr} {ks : List (Option Expr)} {vs : List Expr} {tk tv : TD} {trs : List (TD × TD)} (hk : DE X k tk) (hv : DE X v tv) (hr : DPs X pos ks vs trs) : DPs X pos (some k :: ks) (v :: vs) ((tk, tv) :: trs) := ⟨pps_cons hk hv hr.run⟩
theorem de_disp {pos : Pos} {keys : List (Option Expr)} {values : List Expr} {trs : List (TD × TD)} (h : DPs X pos keys values trs) (hall : keys.all (·.isSome) = true := by rfl) (hl : keys.length = values.length := by rfl) (h0 : keys ≠ [] := by exact fun z => nomatch z)
    (h15 : keys.length ≤ 15 := by decide) : DE X (.Dict keys values pos) (dDisp trs) := by
  refine PE_mono (pe_disp h.run hall hl h0 h15) fun σ H Q ⟨δ, G, R, sl, w, q, f⟩ => fun p np => ?_
  have s := same_new np (.dK [])
  have w1 : Wd X.K (upd H p (.dK [])) (dupd G p (.dct [])) := w.new np fun O => ⟨[], upd_same, .nil⟩
  refine lift_pairs trs (sl.mono (TKs.of s)) w1 (q p (w.free np)) fun ps G' H' vs ⟨eG, kvs, ep, hl, q2⟩ t w' pr => ?_
  subst ep
  obtain ⟨us, hu, kr⟩ := wd_dct w' eG
  cases kr
  obtain ⟨vk, ev, ln, mg⟩ := pr_keys pr
  have t2 : TKs X.K H' (upd H' p (.dK (mergeK [] vk))) := tks_dct hu
  exact ⟨hu, vk, ev, by omega, f _ _ _ _ q2 (((TKs.of s).trans t).trans t2) (w'.put ⟨_, eG, fun L φ z => by cases z⟩ t2 fun O => ⟨_, upd_same, (mg .nil).mono t2⟩) (.ref p)⟩
end
section
variable {δ : DSt} {G : DG} {Q : DK} {QP : List (DV × DV) → DG → Prop}
theorem w_disp {trs : List (TD × TD)} (h : ∀ p, G p = none → dPairs trs δ (dupd G p (.dct [])) fun ps G2 => G2 p = some (.dct []) ∧ ∃ kvs : List (Str × DV), ps = kvs.map (fun kv => (DV.str kv.1, kv.2)) ∧ kvs.length ≤ 15 ∧ Q (.ref p) (dupd G2 p (.dct (kvs.foldl (fun m kv => putD m (keyD kv.1) kv.2) [])))) : dDisp trs δ G Q := h
theorem w_pn (h : QP [] G) : dPairs [] δ G QP := h
theorem w_pc {tk tv : TD} {r : List (TD × TD)} (h : tk δ G fun x G1 => tv δ G1 fun y G2 => dPairs r δ G2 fun ps G3 => QP ((x, y) :: ps) G3) : dPairs ((tk, tv) :: r) δ G QP := h
end
end DD
set_option maxHeartbeats 1000000
namespace K14
open PySem PySem.W L2 SX Cm DD
local macro_rules | `(tactic| walk_at "d1") => `(tactic| first | (with_reducible refine w_go ?_) | ((with_reducible show dVar _ _ _ _); refine w_var rfl ?_) | (with_reducible refine w_exI ?_) | (with_reducible refine w_exB ?_) | (with_reducible refine w_exT ?_) | (with_reducible refine w_exS ?_) | (with_reducible refine w_parE ?_) | (with_reducible refine ly1 ?_) | (with_reducible refine ly2 ?_) | (with_reducible refine lt1' ?_) | (with_reducible refine lt2' ?_) | (with_reducible refine wx_enumT ?_) | (with_reducible refine w_callX ?_) | (with_reducible refine w_methX ?_) | (with_reducible refine w_raise ?_) | (with_reducible refine w_try ?_) | (with_reducible refine w_xSet ?_) | (with_reducible refine w_xExpr ?_) | (with_reducible refine w_xLst ?_) | (with_reducible refine w_xTup ?_) | (with_reducible refine w_xCons ?_) | (with_reducible refine w_xNil ?_) | (with_reducible refine w_xE ?_) | (with_reducible refine w_xCall ?_) | (with_reducible refine w_call0 ?_) | (with_reducible refine w_asgL ?_) | (with_reducible refine w_tupPd ?_) | (with_reducible refine wi_zip ?_) | (with_reducible refine w_delT ?_) | (with_reducible refine w_dc ?_) | (with_reducible refine w_revL ?_) | (with_reducible refine wi_revT ?_) | (with_reducible refine w_lstZip ?_) | (with_reducible refine w_chain ?_) | (with_reducible refine w_orT ?_) | (with_reducible refine w_try0 ?_) | (with_reducible refine w_xAsg ?_) | (with_reducible refine wi_zipTL ?_) | (with_reducible refine wi_zipSL ?_) | ((with_reducible show gT _ _ _ _ _ _); refine g_T ?_ rfl) | ((with_reducible show ∃ p, DV.ref _ = _ ∧ (∃ kvs, _) ∧ _); refine wx_get (by walk_at "gq") ?_) | ((with_reducible show ∃ kvs z, _ = _ ∧ _ = some (DO.dct _) ∧ _); refine wx_get2 (by walk_at "gq") ?_) | ((with_reducible show ∃ p kvs z, _ = _ ∧ _ = _ ∧ _ = some (DO.dct _) ∧ _); refine wx_in (by walk_at "gq") ?_) | ((with_reducible show List.length _ = _ ∧ _); refine w_len ?_ rfl) | ((with_reducible show List.length _ ≤ sizeLine ∧ _); refine w_sz ?_ (szl rfl)) | ((with_reducible show bIx _ (.int _) _ _); first | refine w_ix0 ?_ | refine w_ix1 ?_ | refine w_ix2 ?_ | refine w_ix3 ?_) | ((with_reducible show bIsi [_, _] _ _); first | refine w_isi (by decide) (a := "tuple") rfl rfl ?_ | refine w_isi (by decide) (a := "str") rfl rfl ?_ | refine w_isi (by decide) (a := "int") rfl rfl ?_ | refine w_isi (by decide) (a := "bool") rfl rfl ?_ | refine w_isi (by decide) (a := "NoneType") rfl rfl ?_) | ((with_reducible show ∃ ds, _ = DV.tup ds ∧ _); refine w_exT ?_) | ((with_reducible show ∃ z, _ = DV.str z ∧ _); refine w_exS ?_) | ((with_reducible show ∃ ds, [_] = [DV.tup ds] ∧ _); refine wx_enumT ?_) | ((with_reducible show bSl _ _ _ _ _); refine w_slT ?_) | ((with_reducible show bTuple [_] _ _); refine w_tupT ?_) | ((with_reducible show bLen [_] _ _); refine w_lenT ?_) | ((with_reducible show bTru _ _ _); first | refine w_truT ?_ | refine w_truN ?_ | refine w_truB ?_ | refine w_truI ?_) | ((with_reducible show bEq _ _ _ _ _); first | refine w_eqSS ?_ | refine w_eqII ?_ | refine w_neSS ?_ | refine w_neII ?_ | refine w_eqT0 ?_) | ((with_reducible show bInt _ _ (.int _) (.int _) _ _); refine w_int (by first | decide | exact ⟨by decide, by decide, by decide⟩ | exact .inl ⟨by decide, by decide⟩ | exact .inr ⟨by decide, by decide⟩) ?_) | ((with_reducible show if _ = true then _ else _); first | refine w_it (by first | rfl | decide +kernel) ?_ | refine w_if0 (by first | rfl | decide +kernel) ?_) | ((with_reducible show rcv "list" (.ref _) _ ∧ _); refine w_rcvL (by walk_at "gq") ?_) | ((with_reducible show bTuple [.ref _] _ _); refine w_tupL (by walk_at "gq") ?_) | ((with_reducible show bLen [.ref _] _ _); refine w_lenL (by walk_at "gq") ?_) | ((with_reducible show bTru (.ref _) _ _); refine w_truL (by walk_at "gq") ?_) | ((with_reducible show ∃ _ _, DV.ref _ = _ ∧ Ls _ _ _ ∧ _); refine wx_lst (by walk_at "gq") ?_) | ((with_reducible show ∃ _ _, [DV.ref _] = _ ∧ Ls _ _ _ ∧ _); refine wx_lstA (by walk_at "gq") ?_))
local macro_rules | `(tactic| walk_at "dd") => `(tactic| repeat (walk_at "d1"))
local macro_rules | `(tactic| walk_at "gq") => `(tactic| first | assumption | exact dupd_same | exact sub_get (by assumption) (by walk_at "gq") | exact upd_get (by assumption) (by walk_at "gq") (by walk_at "gn") | exact subx_get (by assumption) (by walk_at "gq") (by walk_at "gn") | (refine (dupd_ne ?_).trans ?_; (focus walk_at "gn"); walk_at "gq"))
local macro_rules | `(tactic| walk_at "gs") => `(tactic| first | assumption | exact Sub.refl _ | exact sub_tr (by assumption) (by walk_at "gs") | exact sub_up (by assumption) (by walk_at "gs") (by walk_at "g0") | exact sub_ux (by assumption) (by walk_at "gs") (by walk_at "g0") | (refine Sub.new ?_ ?_; (focus walk_at "gs"); walk_at "g0"))
local macro_rules | `(tactic| walk_at "gk") => `(tactic| first | assumption | exact db_sub (by assumption) (by walk_at "gk") | exact db_upd (by assumption) (by walk_at "gk") ⟨_, by walk_at "gq"⟩ | exact db_updD (by assumption) (by walk_at "gk") ⟨_, by walk_at "gq"⟩)
local macro_rules | `(tactic| walk_at "gu") => `(tactic| first | assumption | exact Upd.refl _ _ | exact upd_in (by assumption) (by walk_at "gu"))
local macro_rules | `(tactic| walk_at "gx") => `(tactic| first | assumption | exact SubX.refl _ _ | exact subx_sub (by assumption) (by walk_at "gx") | exact subx_upd (by assumption) (by walk_at "gx") | exact subx_tr (by assumption) (by walk_at "gx"))
local macro_rules | `(tactic| walk_at "gn") => `(tactic| first | assumption | exact Ne.symm (by assumption) | exact ne_ns (by assumption) ⟨_, by walk_at "gq"⟩ | exact ne_sn (by assumption) ⟨_, by walk_at "gq"⟩)
local macro_rules | `(tactic| walk_at "g0") => `(tactic| first | assumption | exact nn_ (by assumption) (by walk_at "gs"))
def kd7 : List (Str × Str) := [((("do" : Str)), (("r" : Str))), ((("dip" : Str)), (("xr" : Str))), ((("if" : Str)), (("nrr" : Str))), ((("while" : Str)), (("rr" : Str))), ((("repeat" : Str)), (("nr" : Str))), ((("join" : Str)), (("rr" : Str))), ((("wrap" : Str)), (("x" : Str)))]
def kd3 : List (Str × Str) := [((("put" : Str)), (("lx" : Str))), ((("part" : Str)), (("lrr" : Str))), ((("each" : Str)), (("lr" : Str)))]
/-- the kinds of things that a basic word asks, as the law writes them -/
def kds (z : Str) : Str := (kd7.lookup z).getD ((kd3.lookup z).getD "nn")
def sgSo : So → Str
  | .num => "n" | .row => "r" | .lst => "l" | .any => "x"
theorem kds_bas (b : Bas) : signs (kds (nmBas b)) = (srtB b).map fun s => DV.str (sgSo s) := by
  have h : ∀ b, (kds (nmBas b)).cps.toList.map (fun c => (⟨#[c]⟩ : Str)) = (srtB b).map sgSo := fun b => by cases b <;> decide +kernel
  have h2 := congrArg (List.map DV.str) (h b)
  rw [List.map_map, List.map_map] at h2
  exact h2
theorem kds_len (b : Bas) : (kds (nmBas b)).length = (srtB b).length := by cases b <;> decide +kernel
theorem lookup_none {l : List (Str × Str)} {z : Str} (h : ∀ p ∈ l, p.1 ≠ z) : l.lookup z = none := by
  induction l with
  | nil => rfl
  | cons p r ih =>
    obtain ⟨a, b⟩ := p
    have e : (z == a) = false := beq_eq_false_iff_ne.mpr fun e => h (a, b) (List.mem_cons_self ..) e.symm
    rw [List.lookup_cons, e]
    exact ih fun q hq => h q (List.mem_cons_of_mem _ hq)
theorem kd7_bkl : ∀ p ∈ kd7, p.1 ∈ BKL := by decide +kernel
theorem kd3_bkl : ∀ p ∈ kd3, p.1 ∈ BKL := by decide +kernel
theorem kds_no {z : Str} (h : z ∉ BKL) : kds z = "nn" := by
  unfold kds
  rw [lookup_none (z := z) (l := kd7) fun p hp e => h (by rw [← e]; exact kd7_bkl p hp), lookup_none (z := z) (l := kd3) fun p hp e => h (by rw [← e]; exact kd3_bkl p hp)]; rfl
theorem deed_len {b : Bas} {ts : List Th} {r : List Th × List Wo} (h : deedB b ts = some r) : ts.length = (srtB b).length := by
  unfold deedB at h
  split at h
  all_goals first
    | cases h; done
    | rfl
section
variable {P : Program} {w : World} {K : Frag} {mg : Str → Option Value} {base : Heap}
def SP_kn : DSp := fun ds G R => ∃ z, ds = [.str z] ∧ R (.str (kds z)) G
def SP_ft : DSp := fun ds G R => ∃ s t, ds = [.str (sgSo s), eT t] ∧ R (.bl (fitB s t)) G
def SP_rk : DSp := fun ds G R => ∃ b x y n, ds = [.str (nmBas b), .int x, .int y] ∧ deedB b [.num x, .num y] = some ([.num n], []) ∧ NumOk x ∧ NumOk y ∧ R (.int n) G
def rowB : List Bas := [.do_, .dip, .if_, .while_, .repeat_]
def thgB : List Bas := [.join, .wrap, .put, .part, .each]
def SP_ded (bs : List Bas) : DSp := fun ds G R => ∃ b p ts l a, ds = [.str (nmBas b), .ref p] ∧ b ∈ bs ∧ G p = some (.lst (eTs ts)) ∧ deedB b ts = some (l, a) ∧ gdTs ts ∧ szTs ts ≤ 400000 ∧ ∀ q1 q2 G', DD.Sub G G' → G' q1 = some (.lst (eTs l)) → G' q2 = some (.lst (eWs a)) → R (.tup [.ref q1, .ref q2]) G'
abbrev N_L_kinds : List Str := ["_law_word", "_law_kinds_here", "_law_more"]
abbrev A_L_kinds : List Str := ["_law_word"]
theorem sc_L_kinds : FnScope N_L_kinds A_L_kinds (defScope s_L_kinds) := ⟨rfl, rfl, rfl, by decide +kernel, rfl, by decide +kernel, by decide +kernel⟩
theorem h_L_kinds (a : At K mg "_law_kinds" s_L_kinds A_L_kinds) (B : BI mg) : Has P w K mg base 1 "_law_kinds" A_L_kinds SP_kn := by
  refine at_mk a sc_L_kinds fun f cdv A outer s H E hr ds G R hl h => ?_
  refine ⟨_, (dss_cons (ds_set (i := 1) sc_L_kinds.nd rfl (.inl rfl) (de_disp (dps_cons de_str de_str (dps_cons de_str de_str (dps_cons de_str de_str (dps_cons de_str de_str (dps_cons de_str de_str (dps_cons de_str de_str (dps_cons de_str de_str dps_nil)))))))))
    (dss_cons (ds_set (i := 2) sc_L_kinds.nd rfl (.inl rfl) (de_disp (dps_cons de_str de_str (dps_cons de_str de_str (dps_cons de_str de_str dps_nil)))))
    (dss_one (ds_ret (de_dget2 (DD.hu_of hr) (dv 1) (dv 0) (de_dget2 (DD.hu_of hr) (dv 2) (dv 0) de_str)))))), ?_⟩
  obtain ⟨z, rfl, q⟩ := h
  walk_at "dd"
  refine w_disp ?_
  intro p1 np1
  refine abs_new np1 fun G1 s1 h1 => ?_
  refine w_pc ?_
  walk_at "dd"
  refine w_pc ?_
  walk_at "dd"
  refine w_pc ?_
  walk_at "dd"
  refine w_pc ?_
  walk_at "dd"
  refine w_pc ?_
  walk_at "dd"
  refine w_pc ?_
  walk_at "dd"
  refine w_pc ?_
  walk_at "dd"
  refine w_pn ?_
  refine ⟨h1, [("do", .str "r"), ("dip", .str "xr"), ("if", .str "nrr"), ("while", .str "rr"), ("repeat", .str "nr"), ("join", .str "rr"), ("wrap", .str "x")], rfl, (show 7 ≤ 15 by decide), ?_⟩
  have e1 : ([("do", .str "r"), ("dip", .str "xr"), ("if", .str "nrr"), ("while", .str "rr"), ("repeat", .str "nr"), ("join", .str "rr"), ("wrap", .str "x")] : List (Str × DV)).foldl (fun m kv => putD m (keyD kv.1) kv.2) [] = toD kd7 := by
    simp only [List.foldl_cons, List.foldl_nil]
    rw [show ([] : List (Key × DV)) = toD [] from rfl, put_toD, put_toD, put_toD, put_toD, put_toD, put_toD, put_toD]
    exact congrArg toD (by decide +kernel)
  rw [e1]
  refine abs_upd h1 fun G1' u1 h1' => ?_
  walk_at "dd"
  refine w_disp ?_
  intro p2 np2
  refine abs_new np2 fun G2 s2 h2 => ?_
  refine w_pc ?_
  walk_at "dd"
  refine w_pc ?_
  walk_at "dd"
  refine w_pc ?_
  walk_at "dd"
  refine w_pn ?_
  refine ⟨h2, [("put", .str "lx"), ("part", .str "lrr"), ("each", .str "lr")], rfl, (show 3 ≤ 15 by decide), ?_⟩
  have e2 : ([("put", .str "lx"), ("part", .str "lrr"), ("each", .str "lr")] : List (Str × DV)).foldl (fun m kv => putD m (keyD kv.1) kv.2) [] = toD kd3 := by
    simp only [List.foldl_cons, List.foldl_nil]
    rw [show ([] : List (Key × DV)) = toD [] from rfl, put_toD, put_toD, put_toD]
    exact congrArg toD (by decide +kernel)
  rw [e2]
  refine abs_upd h2 fun G2' u2 h2' => ?_
  walk_at "dd"
  rw [val_toD, val_toD]
  have e : ((kd7.lookup z).map DV.str).getD (((kd3.lookup z).map DV.str).getD (.str "nn")) = .str (kds z) := by
    unfold kds
    cases kd7.lookup z with
    | some x => rfl
    | none =>
      cases kd3.lookup z with
      | some x => rfl
      | none => rfl
  rw [e]
  exact ⟨G, by walk_at "gs", q⟩
abbrev N_L_fit : List Str := ["_law_kind", "_law_thing_here"]
abbrev A_L_fit : List Str := ["_law_kind", "_law_thing_here"]
theorem sc_L_fit : FnScope N_L_fit A_L_fit (defScope s_L_fit) := ⟨rfl, rfl, rfl, by decide +kernel, rfl, by decide +kernel, by decide +kernel⟩
theorem h_L_fit (a : At K mg "_law_fit" s_L_fit A_L_fit) (B : BI mg) : Has P w K mg base 1 "_law_fit" A_L_fit SP_ft := by
  refine at_mk a sc_L_fit fun f cdv A outer s H E hr ds G R hl h => ?_
  refine ⟨_, (dss_one (ds_ret (de_or (de_cmp (od_eq hr.units) (dv 0) de_str (nomark _)) (de_one (de_cmp (od_eq hr.units) (de_ix (de_ix (dv 1) de_int) de_int) (dv 0) (nomark _)))))), ?_⟩
  obtain ⟨s0, t, rfl, q⟩ := h
  cases s0 with
  | any =>
    walk_at "dd"
    exact Less.of q
  | num =>
    cases t with
    | num v =>
      rw [show eT (.num v) = .tup [.str "number", .int v] from rfl]
      walk_at "dd"
      refine w_ixS (z := ("number" : Str)) (by decide +kernel) (c := 110) (atI_nat (j := 0) (by decide +kernel)) ?_
      walk_at "dd"
      rw [show decide ((⟨#[110]⟩ : Str) = sgSo .num) = true from by decide +kernel]
      exact Less.of q
    | row v =>
      rw [show eT (.row v) = .tup [.str "row", .tup (eWs v)] from rfl]
      walk_at "dd"
      refine w_ixS (z := ("row" : Str)) (by decide +kernel) (c := 114) (atI_nat (j := 0) (by decide +kernel)) ?_
      walk_at "dd"
      rw [show decide ((⟨#[114]⟩ : Str) = sgSo .num) = false from by decide +kernel]
      exact Less.of q
    | lst v =>
      rw [show eT (.lst v) = .tup [.str "list", .tup (eTs v)] from rfl]
      walk_at "dd"
      refine w_ixS (z := ("list" : Str)) (by decide +kernel) (c := 108) (atI_nat (j := 0) (by decide +kernel)) ?_
      walk_at "dd"
      rw [show decide ((⟨#[108]⟩ : Str) = sgSo .num) = false from by decide +kernel]
      exact Less.of q
  | row =>
    cases t with
    | num v =>
      rw [show eT (.num v) = .tup [.str "number", .int v] from rfl]
      walk_at "dd"
      refine w_ixS (z := ("number" : Str)) (by decide +kernel) (c := 110) (atI_nat (j := 0) (by decide +kernel)) ?_
      walk_at "dd"
      rw [show decide ((⟨#[110]⟩ : Str) = sgSo .row) = false from by decide +kernel]
      exact Less.of q
    | row v =>
      rw [show eT (.row v) = .tup [.str "row", .tup (eWs v)] from rfl]
      walk_at "dd"
      refine w_ixS (z := ("row" : Str)) (by decide +kernel) (c := 114) (atI_nat (j := 0) (by decide +kernel)) ?_
      walk_at "dd"
      rw [show decide ((⟨#[114]⟩ : Str) = sgSo .row) = true from by decide +kernel]
      exact Less.of q
    | lst v =>
      rw [show eT (.lst v) = .tup [.str "list", .tup (eTs v)] from rfl]
      walk_at "dd"
      refine w_ixS (z := ("list" : Str)) (by decide +kernel) (c := 108) (atI_nat (j := 0) (by decide +kernel)) ?_
      walk_at "dd"
      rw [show decide ((⟨#[108]⟩ : Str) = sgSo .row) = false from by decide +kernel]
      exact Less.of q
  | lst =>
    cases t with
    | num v =>
      rw [show eT (.num v) = .tup [.str "number", .int v] from rfl]
      walk_at "dd"
      refine w_ixS (z := ("number" : Str)) (by decide +kernel) (c := 110) (atI_nat (j := 0) (by decide +kernel)) ?_
      walk_at "dd"
      rw [show decide ((⟨#[110]⟩ : Str) = sgSo .lst) = false from by decide +kernel]
      exact Less.of q
    | row v =>
      rw [show eT (.row v) = .tup [.str "row", .tup (eWs v)] from rfl]
      walk_at "dd"
      refine w_ixS (z := ("row" : Str)) (by decide +kernel) (c := 114) (atI_nat (j := 0) (by decide +kernel)) ?_
      walk_at "dd"
      rw [show decide ((⟨#[114]⟩ : Str) = sgSo .lst) = false from by decide +kernel]
      exact Less.of q
    | lst v =>
      rw [show eT (.lst v) = .tup [.str "list", .tup (eTs v)] from rfl]
      walk_at "dd"
      refine w_ixS (z := ("list" : Str)) (by decide +kernel) (c := 108) (atI_nat (j := 0) (by decide +kernel)) ?_
      walk_at "dd"
      rw [show decide ((⟨#[108]⟩ : Str) = sgSo .lst) = true from by decide +kernel]
      exact Less.of q
abbrev N_L_reckoned : List Str := ["_law_word", "_law_m", "_law_n"]
abbrev A_L_reckoned : List Str := ["_law_word", "_law_m", "_law_n"]
theorem sc_L_reckoned : FnScope N_L_reckoned A_L_reckoned (defScope s_L_reckoned) := ⟨rfl, rfl, rfl, by decide +kernel, rfl, by decide +kernel, by decide +kernel⟩
theorem h_L_reckoned (a : At K mg "_law_reckoned" s_L_reckoned A_L_reckoned) (B : BI mg) : Has P w K mg base 1 "_law_reckoned" A_L_reckoned SP_rk := by
  refine at_mk a sc_L_reckoned fun f cdv A outer s H E hr ds G R hl h => ?_
  refine ⟨_, (dss_cons (ds_if (dt_cmp (od_eq hr.units) (dv 0) de_str (nomark _)) (dss_one (ds_ret (de_op od_mod (de_op od_add (dv 1) (dv 2)) (de_op od_pow de_int de_int)))) dss_nil)
    (dss_cons (ds_if (dt_cmp (od_eq hr.units) (dv 0) de_str (nomark _)) (dss_one (ds_ret (de_op od_mod (de_op od_sub (dv 1) (dv 2)) (de_op od_pow de_int de_int)))) dss_nil)
    (dss_cons (ds_if (dt_cmp (od_eq hr.units) (dv 0) de_str (nomark _)) (dss_one (ds_ret (de_op od_mod (de_op od_mul (dv 1) (dv 2)) (de_op od_pow de_int de_int)))) dss_nil)
    (dss_one (ds_ret (de_callTy cd_int B.int rfl (by decide +kernel) (da_cons (de_ix (de_lst (da_cons (de_cmp od_lt (dv 1) (dv 2) (nomark _)) (da_cons (de_cmp (od_eq hr.units) (dv 1) (dv 2) (nomark _)) da_nil))) (de_callTy cd_int B.int rfl (by decide +kernel) (da_cons (de_cmp (od_eq hr.units) (dv 0) de_str (nomark _)) da_nil))) da_nil))))))), ?_⟩
  obtain ⟨b0, x, y, n, rfl, ho, gx, gy, q⟩ := h
  cases b0 with
  | plus =>
    cases ho
    walk_at "dd"
    exact Less.of q
  | minus =>
    cases ho
    walk_at "dd"
    exact Less.of q
  | times =>
    cases ho
    walk_at "dd"
    refine w_int (.inl ⟨by omega, by omega⟩) ?_
    walk_at "dd"
    exact Less.of q
  | less =>
    cases ho
    walk_at "dd"
    intro p1 n1
    refine abs_new n1 fun G1 s1 h1 => ?_
    walk_at "dd"
    refine w_ixL h1 (i := 0) (atI_nat (j := 0) rfl) ?_
    walk_at "dd"
    refine ⟨G, s1, ?_⟩
    by_cases hc : x < y
    · rw [decide_eq_true hc]
      rw [if_pos hc] at q
      exact q
    · rw [decide_eq_false hc]
      rw [if_neg hc] at q
      exact q
  | same =>
    cases ho
    walk_at "dd"
    intro p1 n1
    refine abs_new n1 fun G1 s1 h1 => ?_
    walk_at "dd"
    refine w_ixL h1 (i := 1) (atI_nat (j := 1) rfl) ?_
    walk_at "dd"
    refine ⟨G, s1, ?_⟩
    by_cases hc : x = y
    · rw [decide_eq_true hc]
      rw [if_pos hc] at q
      exact q
    · rw [decide_eq_false hc]
      rw [if_neg hc] at q
      exact q
  | do_ => cases ho
  | dip => cases ho
  | if_ => cases ho
  | while_ => cases ho
  | repeat_ => cases ho
  | join => cases ho
  | wrap => cases ho
  | put => cases ho
  | part => cases ho
  | each => cases ho
abbrev N_L_row_deed : List Str := ["_law_word", "_law_things", "_law_again"]
abbrev A_L_row_deed : List Str := ["_law_word", "_law_things"]
theorem sc_L_row_deed : FnScope N_L_row_deed A_L_row_deed (defScope s_L_row_deed) := ⟨rfl, rfl, rfl, by decide +kernel, rfl, by decide +kernel, by decide +kernel⟩
theorem h_L_row_deed (a : At K mg "_law_row_deed" s_L_row_deed A_L_row_deed) (B : BI mg) : Has P w K mg base 1 "_law_row_deed" A_L_row_deed (SP_ded rowB) := by
  refine at_mk a sc_L_row_deed fun f cdv A outer s H E hr ds G R hl h => ?_
  refine ⟨_, (dss_cons (ds_if (dt_cmp (od_eq hr.units) (dv 0) de_str (nomark _)) (dss_one (ds_ret (de_tup (da_cons (de_lst da_nil) (da_cons (de_callTy cd_list B.lst rfl (by decide +kernel) (da_cons (de_ix (de_ix (dv 1) de_int) de_int) da_nil)) da_nil))))) dss_nil)
    (dss_cons (ds_if (dt_cmp (od_eq hr.units) (dv 0) de_str (nomark _)) (dss_one (ds_ret (de_tup (da_cons (de_lst da_nil) (da_cons (de_op od_add (de_callTy cd_list B.lst rfl (by decide +kernel) (da_cons (de_ix (de_ix (dv 1) de_int) de_int) da_nil)) (de_lst (da_cons (de_tup (da_cons de_str (da_cons (de_ix (dv 1) de_int) da_nil))) da_nil))) da_nil))))) dss_nil)
    (dss_cons (ds_if (dt_cmp (od_eq hr.units) (dv 0) de_str (nomark _)) (dss_one (ds_ret (de_tup (da_cons (de_lst da_nil) (da_cons (de_callTy cd_list B.lst rfl (by decide +kernel) (da_cons (de_ix (de_ix (dv 1) (de_op od_add de_int (de_callTy cd_int B.int rfl (by decide +kernel) (da_cons (de_cmp (od_eq hr.units) (de_ix (de_ix (dv 1) de_int) de_int) de_int (nomark _)) da_nil)))) de_int) da_nil)) da_nil))))) dss_nil)
    (dss_cons (ds_if (dt_cmp (od_eq hr.units) (dv 0) de_str (nomark _)) (dss_cons (ds_set (i := 2) sc_L_row_deed.nd rfl (.inl rfl) (de_op od_add (de_ix (de_ix (dv 1) de_int) de_int) (de_tup (da_cons (de_tup (da_cons de_str (da_cons (de_ix (dv 1) de_int) da_nil))) (da_cons (de_tup (da_cons de_str (da_cons (de_ix (dv 1) de_int) da_nil))) (da_cons de_str da_nil))))))
      (dss_one (ds_ret (de_tup (da_cons (de_lst da_nil) (da_cons (de_op od_add (de_callTy cd_list B.lst rfl (by decide +kernel) (da_cons (de_ix (de_ix (dv 1) de_int) de_int) da_nil)) (de_lst (da_cons (de_tup (da_cons de_str (da_cons (de_tup (da_cons de_str (da_cons (dv 2) da_nil))) da_nil))) (da_cons (de_tup (da_cons de_str (da_cons (de_tup (da_cons de_str (da_cons (de_tup da_nil) da_nil))) da_nil))) (da_cons de_str da_nil))))) da_nil)))))) dss_nil)
    (dss_cons (ds_if (dt_cmp (od_eq hr.units) (de_ix (de_ix (dv 1) de_int) de_int) de_int (nomark _)) (dss_one (ds_ret (de_tup (da_cons (de_lst da_nil) (da_cons (de_lst da_nil) da_nil))))) dss_nil)
    (dss_one (ds_ret (de_tup (da_cons (de_lst da_nil) (da_cons (de_op od_add (de_callTy cd_list B.lst rfl (by decide +kernel) (da_cons (de_ix (de_ix (dv 1) de_int) de_int) da_nil)) (de_lst (da_cons (de_tup (da_cons de_str (da_cons (de_tup (da_cons de_str (da_cons (de_op od_sub (de_ix (de_ix (dv 1) de_int) de_int) de_int) da_nil))) da_nil))) (da_cons (de_tup (da_cons de_str (da_cons (de_ix (dv 1) de_int) da_nil))) (da_cons de_str da_nil))))) da_nil)))))))))), ?_⟩
  obtain ⟨b0, p, ts, l, a, rfl, hb, hp, ho, gd, zs, q⟩ := h
  have hl' := deed_len ho
  simp only [rowB, List.mem_cons, List.not_mem_nil, or_false] at hb
  rcases hb with rfl | rfl | rfl | rfl | rfl
  · obtain ⟨x0, rfl⟩ : ∃ x0, ts = [x0] := by
      match ts, hl' with
      | [a0], _ => exact ⟨a0, rfl⟩
    obtain ⟨v0, rfl⟩ : ∃ v, x0 = .row v := by
      cases x0 with
      | row v => exact ⟨v, rfl⟩
      | num v => exact absurd ho (by  exact fun h => nomatch h)
      | lst v => exact absurd ho (by  exact fun h => nomatch h)
    have hp : G p = some (.lst [.tup [.str "row", .tup (eWs v0)]]) := hp
    have lw0 := szWs_len v0
    have zs' : ((1 + szWs v0) + 0) ≤ 400000 := zs
    walk_at "dd"
    intro p1 n1
    refine abs_new n1 fun G1 s1 h1 => ?_
    walk_at "dd"
    refine w_ixL (i := 0) (by walk_at "gq") (atI_nat (j := 0) rfl) ?_
    walk_at "dd"
    refine w_lstT fun p2 n2 => ?_
    refine abs_new n2 fun G2 s2 h2 => ?_
    walk_at "dd"
    cases ho
    exact Less.of (q p1 p2 _ (by walk_at "gs") (by skip; walk_at "gq") (by skip; walk_at "gq"))
  · obtain ⟨x0, x1, rfl⟩ : ∃ x0 x1, ts = [x0, x1] := by
      match ts, hl' with
      | [a0, a1], _ => exact ⟨a0, a1, rfl⟩
    obtain ⟨v1, rfl⟩ : ∃ v, x1 = .row v := by
      cases x1 with
      | row v => exact ⟨v, rfl⟩
      | num v => exact absurd ho (by  exact fun h => nomatch h)
      | lst v => exact absurd ho (by  exact fun h => nomatch h)
    have hp : G p = some (.lst [eT x0, .tup [.str "row", .tup (eWs v1)]]) := hp
    have lw1 := szWs_len v1
    have zs' : (szT x0 + ((1 + szWs v1) + 0)) ≤ 400000 := zs
    walk_at "dd"
    intro p1 n1
    refine abs_new n1 fun G1 s1 h1 => ?_
    walk_at "dd"
    refine w_ixL (i := 1) (by walk_at "gq") (atI_nat (j := 1) rfl) ?_
    walk_at "dd"
    refine w_lstT fun p2 n2 => ?_
    refine abs_new n2 fun G2 s2 h2 => ?_
    walk_at "dd"
    refine w_ixL (i := 0) (by walk_at "gq") (atI_nat (j := 0) rfl) ?_
    walk_at "dd"
    intro p3 n3
    refine abs_new n3 fun G3 s3 h3 => ?_
    walk_at "dd"
    refine w_addL (by walk_at "gq") h3 (mid (by rw [eWs_len]; show v1.length + 1 ≤ 1000000; omega)) ?_
    intro p4 n4
    refine abs_new n4 fun G4 s4 h4 => ?_
    walk_at "dd"
    cases ho
    exact Less.of (q p1 p4 _ (by walk_at "gs") (by skip; walk_at "gq") (by rw [eWs_map, List.map_append, ← eWs_map]; walk_at "gq"))
  · obtain ⟨x0, x1, x2, rfl⟩ : ∃ x0 x1 x2, ts = [x0, x1, x2] := by
      match ts, hl' with
      | [a0, a1, a2], _ => exact ⟨a0, a1, a2, rfl⟩
    obtain ⟨v0, rfl⟩ : ∃ v, x0 = .num v := by
      cases x0 with
      | num v => exact ⟨v, rfl⟩
      | row v => exact absurd ho (by cases x1 <;> cases x2 <;>  exact fun h => nomatch h)
      | lst v => exact absurd ho (by cases x1 <;> cases x2 <;>  exact fun h => nomatch h)
    obtain ⟨v1, rfl⟩ : ∃ v, x1 = .row v := by
      cases x1 with
      | row v => exact ⟨v, rfl⟩
      | num v => exact absurd ho (by cases x2 <;>  exact fun h => nomatch h)
      | lst v => exact absurd ho (by cases x2 <;>  exact fun h => nomatch h)
    obtain ⟨v2, rfl⟩ : ∃ v, x2 = .row v := by
      cases x2 with
      | row v => exact ⟨v, rfl⟩
      | num v => exact absurd ho (by  exact fun h => nomatch h)
      | lst v => exact absurd ho (by  exact fun h => nomatch h)
    have hp : G p = some (.lst [.tup [.str "number", .int v0], .tup [.str "row", .tup (eWs v1)], .tup [.str "row", .tup (eWs v2)]]) := hp
    have lw1 := szWs_len v1
    have lw2 := szWs_len v2
    have zs' : (1 + ((1 + szWs v1) + ((1 + szWs v2) + 0))) ≤ 400000 := zs
    by_cases h0 : v0 = 0
    · walk_at "dd"
      intro p1 n1
      refine abs_new n1 fun G1 s1 h1 => ?_
      walk_at "dd"
      refine w_ixL (i := 0) (by walk_at "gq") (atI_nat (j := 0) rfl) ?_
      walk_at "dd"
      rw [decide_eq_true h0]
      walk_at "dd"
      refine w_ixL (i := 2) (by walk_at "gq") (atI_nat (j := 2) rfl) ?_
      walk_at "dd"
      refine w_lstT fun p2 n2 => ?_
      refine abs_new n2 fun G2 s2 h2 => ?_
      walk_at "dd"
      cases ho
      rw [if_pos h0] at q
      exact Less.of (q p1 p2 _ (by walk_at "gs") (by skip; walk_at "gq") (by skip; walk_at "gq"))
    · walk_at "dd"
      intro p1 n1
      refine abs_new n1 fun G1 s1 h1 => ?_
      walk_at "dd"
      refine w_ixL (i := 0) (by walk_at "gq") (atI_nat (j := 0) rfl) ?_
      walk_at "dd"
      rw [decide_eq_false h0]
      walk_at "dd"
      refine w_ixL (i := 1) (by walk_at "gq") (atI_nat (j := 1) rfl) ?_
      walk_at "dd"
      refine w_lstT fun p2 n2 => ?_
      refine abs_new n2 fun G2 s2 h2 => ?_
      walk_at "dd"
      cases ho
      rw [if_neg h0] at q
      exact Less.of (q p1 p2 _ (by walk_at "gs") (by skip; walk_at "gq") (by skip; walk_at "gq"))
  · obtain ⟨x0, x1, rfl⟩ : ∃ x0 x1, ts = [x0, x1] := by
      match ts, hl' with
      | [a0, a1], _ => exact ⟨a0, a1, rfl⟩
    obtain ⟨v0, rfl⟩ : ∃ v, x0 = .row v := by
      cases x0 with
      | row v => exact ⟨v, rfl⟩
      | num v => exact absurd ho (by cases x1 <;>  exact fun h => nomatch h)
      | lst v => exact absurd ho (by cases x1 <;>  exact fun h => nomatch h)
    obtain ⟨v1, rfl⟩ : ∃ v, x1 = .row v := by
      cases x1 with
      | row v => exact ⟨v, rfl⟩
      | num v => exact absurd ho (by  exact fun h => nomatch h)
      | lst v => exact absurd ho (by  exact fun h => nomatch h)
    have hp : G p = some (.lst [.tup [.str "row", .tup (eWs v0)], .tup [.str "row", .tup (eWs v1)]]) := hp
    have lw0 := szWs_len v0
    have lw1 := szWs_len v1
    have zs' : ((1 + szWs v0) + ((1 + szWs v1) + 0)) ≤ 400000 := zs
    walk_at "dd"
    refine w_ixL (i := 1) (by walk_at "gq") (atI_nat (j := 1) rfl) ?_
    walk_at "dd"
    refine w_ixL (i := 0) (by walk_at "gq") (atI_nat (j := 0) rfl) ?_
    walk_at "dd"
    refine w_ixL (i := 1) (by walk_at "gq") (atI_nat (j := 1) rfl) ?_
    walk_at "dd"
    refine w_addT (mid (by rw [eWs_len]; show v1.length + 3 ≤ 1000000; omega)) ?_
    walk_at "dd"
    intro p1 n1
    refine abs_new n1 fun G1 s1 h1 => ?_
    walk_at "dd"
    refine w_ixL (i := 0) (by walk_at "gq") (atI_nat (j := 0) rfl) ?_
    walk_at "dd"
    refine w_lstT fun p2 n2 => ?_
    refine abs_new n2 fun G2 s2 h2 => ?_
    walk_at "dd"
    intro p3 n3
    refine abs_new n3 fun G3 s3 h3 => ?_
    walk_at "dd"
    refine w_addL (by walk_at "gq") h3 (mid (by rw [eWs_len]; show v0.length + 3 ≤ 1000000; omega)) ?_
    intro p4 n4
    refine abs_new n4 fun G4 s4 h4 => ?_
    walk_at "dd"
    cases ho
    have e5 : eWs (v1 ++ [.push (.row v0), .push (.row v1), .txt "while"]) = eWs v1 ++ [.tup [.str "push", .tup [.str "row", .tup (eWs v0)]], .tup [.str "push", .tup [.str "row", .tup (eWs v1)]], .str "while"] := by rw [eWs_map, List.map_append, ← eWs_map]; rfl
    have e4 : eWs (v0 ++ [.push (.row (v1 ++ [.push (.row v0), .push (.row v1), .txt "while"])), .push (.row []), .txt "if"]) = eWs v0 ++ [.tup [.str "push", .tup [.str "row", .tup (eWs v1 ++ [.tup [.str "push", .tup [.str "row", .tup (eWs v0)]], .tup [.str "push", .tup [.str "row", .tup (eWs v1)]], .str "while"])]], .tup [.str "push", .tup [.str "row", .tup []]], .str "if"] := by
      rw [← e5, eWs_map, List.map_append, ← eWs_map]; rfl
    exact Less.of (q p1 p4 _ (by walk_at "gs") (by skip; walk_at "gq") (by rw [e4]; walk_at "gq"))
  · obtain ⟨x0, x1, rfl⟩ : ∃ x0 x1, ts = [x0, x1] := by
      match ts, hl' with
      | [a0, a1], _ => exact ⟨a0, a1, rfl⟩
    obtain ⟨v0, rfl⟩ : ∃ v, x0 = .num v := by
      cases x0 with
      | num v => exact ⟨v, rfl⟩
      | row v => exact absurd ho (by cases x1 <;>  exact fun h => nomatch h)
      | lst v => exact absurd ho (by cases x1 <;>  exact fun h => nomatch h)
    obtain ⟨v1, rfl⟩ : ∃ v, x1 = .row v := by
      cases x1 with
      | row v => exact ⟨v, rfl⟩
      | num v => exact absurd ho (by  exact fun h => nomatch h)
      | lst v => exact absurd ho (by  exact fun h => nomatch h)
    have hp : G p = some (.lst [.tup [.str "number", .int v0], .tup [.str "row", .tup (eWs v1)]]) := hp
    have lw1 := szWs_len v1
    have zs' : (1 + ((1 + szWs v1) + 0)) ≤ 400000 := zs
    by_cases h0 : v0 = 0
    · walk_at "dd"
      refine w_ixL (i := 0) (by walk_at "gq") (atI_nat (j := 0) rfl) ?_
      walk_at "dd"
      refine w_it (decide_eq_true h0) ?_
      walk_at "dd"
      intro p1 n1
      refine abs_new n1 fun G1 s1 h1 => ?_
      walk_at "dd"
      intro p2 n2
      refine abs_new n2 fun G2 s2 h2 => ?_
      walk_at "dd"
      cases ho
      rw [if_pos h0] at q
      exact Less.of (q p1 p2 _ (by walk_at "gs") (by skip; walk_at "gq") (by skip; walk_at "gq"))
    · walk_at "dd"
      refine w_ixL (i := 0) (by walk_at "gq") (atI_nat (j := 0) rfl) ?_
      walk_at "dd"
      refine w_if0 (decide_eq_false h0) ?_
      walk_at "dd"
      intro p1 n1
      refine abs_new n1 fun G1 s1 h1 => ?_
      walk_at "dd"
      refine w_ixL (i := 1) (by walk_at "gq") (atI_nat (j := 1) rfl) ?_
      walk_at "dd"
      refine w_lstT fun p2 n2 => ?_
      refine abs_new n2 fun G2 s2 h2 => ?_
      walk_at "dd"
      refine w_ixL (i := 0) (by walk_at "gq") (atI_nat (j := 0) rfl) ?_
      walk_at "dd"
      refine w_ixL (i := 1) (by walk_at "gq") (atI_nat (j := 1) rfl) ?_
      walk_at "dd"
      intro p3 n3
      refine abs_new n3 fun G3 s3 h3 => ?_
      walk_at "dd"
      refine w_addL (by walk_at "gq") h3 (mid (by rw [eWs_len]; show v1.length + 3 ≤ 1000000; omega)) ?_
      intro p4 n4
      refine abs_new n4 fun G4 s4 h4 => ?_
      walk_at "dd"
      cases ho
      rw [if_neg h0] at q
      exact Less.of (q p1 p4 _ (by walk_at "gs") (by skip; walk_at "gq") (by rw [eWs_map, List.map_append, ← eWs_map]; walk_at "gq"))
abbrev N_L_thing_deed : List Str := ["_law_word", "_law_things", "_law_rest"]
abbrev A_L_thing_deed : List Str := ["_law_word", "_law_things"]
theorem sc_L_thing_deed : FnScope N_L_thing_deed A_L_thing_deed (defScope s_L_thing_deed) := ⟨rfl, rfl, rfl, by decide +kernel, rfl, by decide +kernel, by decide +kernel⟩
theorem h_L_thing_deed (a : At K mg "_law_thing_deed" s_L_thing_deed A_L_thing_deed) (B : BI mg) : Has P w K mg base 1 "_law_thing_deed" A_L_thing_deed (SP_ded thgB) := by
  refine at_mk a sc_L_thing_deed fun f cdv A outer s H E hr ds G R hl h => ?_
  refine ⟨_, (dss_cons (ds_if (dt_cmp (od_eq hr.units) (dv 0) de_str (nomark _)) (dss_one (ds_ret (de_tup (da_cons (de_lst (da_cons (de_tup (da_cons de_str (da_cons (de_op od_add (de_ix (de_ix (dv 1) de_int) de_int) (de_ix (de_ix (dv 1) de_int) de_int)) da_nil))) da_nil)) (da_cons (de_lst da_nil) da_nil))))) dss_nil)
    (dss_cons (ds_if (dt_cmp (od_eq hr.units) (dv 0) de_str (nomark _)) (dss_one (ds_ret (de_tup (da_cons (de_lst (da_cons (de_tup (da_cons de_str (da_cons (de_tup (da_cons (de_tup (da_cons de_str (da_cons (de_ix (dv 1) de_int) da_nil))) da_nil)) da_nil))) da_nil)) (da_cons (de_lst da_nil) da_nil))))) dss_nil)
    (dss_cons (ds_if (dt_cmp (od_eq hr.units) (dv 0) de_str (nomark _)) (dss_one (ds_ret (de_tup (da_cons (de_lst (da_cons (de_tup (da_cons de_str (da_cons (de_op od_add (de_ix (de_ix (dv 1) de_int) de_int) (de_tup (da_cons (de_ix (dv 1) de_int) da_nil))) da_nil))) da_nil)) (da_cons (de_lst da_nil) da_nil))))) dss_nil)
    (dss_cons (ds_if (dt_cmp (od_eq hr.units) (de_ix (de_ix (dv 1) de_int) de_int) (de_tup da_nil) (nomark _)) (dss_one (ds_ret (de_tup (da_cons (de_lst da_nil) (da_cons (de_if (dt_cmp (od_eq hr.units) (dv 0) de_str (nomark _)) (de_callTy cd_list B.lst rfl (by decide +kernel) (da_cons (de_ix (de_ix (dv 1) de_int) de_int) da_nil)) (de_lst da_nil)) da_nil))))) dss_nil)
    (dss_cons (ds_set (i := 2) sc_L_thing_deed.nd rfl (.inl rfl) (de_tup (da_cons de_str (da_cons (de_slice (de_ix (de_ix (dv 1) de_int) de_int) (do_some de_int) do_none) da_nil))))
    (dss_cons (ds_if (dt_cmp (od_eq hr.units) (dv 0) de_str (nomark _)) (dss_one (ds_ret (de_tup (da_cons (de_lst (da_cons (de_ix (de_ix (de_ix (dv 1) de_int) de_int) de_int) (da_cons (dv 2) da_nil))) (da_cons (de_callTy cd_list B.lst rfl (by decide +kernel) (da_cons (de_ix (de_ix (dv 1) de_int) de_int) da_nil)) da_nil))))) dss_nil)
    (dss_one (ds_ret (de_tup (da_cons (de_lst (da_cons (de_ix (de_ix (de_ix (dv 1) de_int) de_int) de_int) da_nil)) (da_cons (de_op od_add (de_callTy cd_list B.lst rfl (by decide +kernel) (da_cons (de_ix (de_ix (dv 1) de_int) de_int) da_nil)) (de_lst (da_cons (de_tup (da_cons de_str (da_cons (dv 2) da_nil))) (da_cons (de_tup (da_cons de_str (da_cons (de_ix (dv 1) de_int) da_nil))) (da_cons de_str da_nil))))) da_nil))))))))))), ?_⟩
  obtain ⟨b0, p, ts, l, a, rfl, hb, hp, ho, gd, zs, q⟩ := h
  have hl' := deed_len ho
  simp only [thgB, List.mem_cons, List.not_mem_nil, or_false] at hb
  rcases hb with rfl | rfl | rfl | rfl | rfl
  · obtain ⟨x0, x1, rfl⟩ : ∃ x0 x1, ts = [x0, x1] := by
      match ts, hl' with
      | [a0, a1], _ => exact ⟨a0, a1, rfl⟩
    obtain ⟨v0, rfl⟩ : ∃ v, x0 = .row v := by
      cases x0 with
      | row v => exact ⟨v, rfl⟩
      | num v => exact absurd ho (by cases x1 <;>  exact fun h => nomatch h)
      | lst v => exact absurd ho (by cases x1 <;>  exact fun h => nomatch h)
    obtain ⟨v1, rfl⟩ : ∃ v, x1 = .row v := by
      cases x1 with
      | row v => exact ⟨v, rfl⟩
      | num v => exact absurd ho (by  exact fun h => nomatch h)
      | lst v => exact absurd ho (by  exact fun h => nomatch h)
    have hp : G p = some (.lst [.tup [.str "row", .tup (eWs v0)], .tup [.str "row", .tup (eWs v1)]]) := hp
    have lw0 := szWs_len v0
    have lw1 := szWs_len v1
    have zs' : ((1 + szWs v0) + ((1 + szWs v1) + 0)) ≤ 400000 := zs
    walk_at "dd"
    refine w_ixL (i := 0) (by walk_at "gq") (atI_nat (j := 0) rfl) ?_
    walk_at "dd"
    refine w_ixL (i := 1) (by walk_at "gq") (atI_nat (j := 1) rfl) ?_
    walk_at "dd"
    refine w_addT (mid (by rw [eWs_len, eWs_len]; omega)) ?_
    walk_at "dd"
    intro p1 n1
    refine abs_new n1 fun G1 s1 h1 => ?_
    walk_at "dd"
    intro p2 n2
    refine abs_new n2 fun G2 s2 h2 => ?_
    walk_at "dd"
    cases ho
    have e4 : eTs [.row (v0 ++ v1)] = [.tup [.str "row", .tup (eWs v0 ++ eWs v1)]] := by show [DV.tup [.str "row", .tup (eWs (v0 ++ v1))]] = _; rw [eWs_map, eWs_map, eWs_map, List.map_append]
    exact Less.of (q p1 p2 _ (by walk_at "gs") (by rw [e4]; walk_at "gq") (by skip; walk_at "gq"))
  · obtain ⟨x0, rfl⟩ : ∃ x0, ts = [x0] := by
      match ts, hl' with
      | [a0], _ => exact ⟨a0, rfl⟩
    have hp : G p = some (.lst [eT x0]) := hp
    have zs' : (szT x0 + 0) ≤ 400000 := zs
    walk_at "dd"
    refine w_ixL (i := 0) (by walk_at "gq") (atI_nat (j := 0) rfl) ?_
    walk_at "dd"
    intro p1 n1
    refine abs_new n1 fun G1 s1 h1 => ?_
    walk_at "dd"
    intro p2 n2
    refine abs_new n2 fun G2 s2 h2 => ?_
    walk_at "dd"
    cases ho
    exact Less.of (q p1 p2 _ (by walk_at "gs") (by skip; walk_at "gq") (by skip; walk_at "gq"))
  · obtain ⟨x0, x1, rfl⟩ : ∃ x0 x1, ts = [x0, x1] := by
      match ts, hl' with
      | [a0, a1], _ => exact ⟨a0, a1, rfl⟩
    obtain ⟨v0, rfl⟩ : ∃ v, x0 = .lst v := by
      cases x0 with
      | lst v => exact ⟨v, rfl⟩
      | num v => exact absurd ho (by  exact fun h => nomatch h)
      | row v => exact absurd ho (by  exact fun h => nomatch h)
    have hp : G p = some (.lst [.tup [.str "list", .tup (eTs v0)], eT x1]) := hp
    have lt0 := szTs_len v0
    have zs' : ((1 + szTs v0) + (szT x1 + 0)) ≤ 400000 := zs
    walk_at "dd"
    refine w_ixL (i := 0) (by walk_at "gq") (atI_nat (j := 0) rfl) ?_
    walk_at "dd"
    refine w_ixL (i := 1) (by walk_at "gq") (atI_nat (j := 1) rfl) ?_
    walk_at "dd"
    refine w_addT (mid (by rw [eTs_len]; show v0.length + 1 ≤ 1000000; omega)) ?_
    walk_at "dd"
    intro p1 n1
    refine abs_new n1 fun G1 s1 h1 => ?_
    walk_at "dd"
    intro p2 n2
    refine abs_new n2 fun G2 s2 h2 => ?_
    walk_at "dd"
    cases ho
    have e4 : eTs [.lst (v0 ++ [x1])] = [.tup [.str "list", .tup (eTs v0 ++ [eT x1])]] := by show [DV.tup [.str "list", .tup (eTs (v0 ++ [x1]))]] = _; rw [eTs_map, eTs_map, List.map_append]; rfl
    exact Less.of (q p1 p2 _ (by walk_at "gs") (by rw [e4]; walk_at "gq") (by skip; walk_at "gq"))
  · obtain ⟨x0, x1, x2, rfl⟩ : ∃ x0 x1 x2, ts = [x0, x1, x2] := by
      match ts, hl' with
      | [a0, a1, a2], _ => exact ⟨a0, a1, a2, rfl⟩
    obtain ⟨v0, rfl⟩ : ∃ v, x0 = .lst v := by
      cases x0 with
      | lst v => exact ⟨v, rfl⟩
      | num v => exact absurd ho (by cases x1 <;> cases x2 <;>  exact fun h => nomatch h)
      | row v => exact absurd ho (by cases x1 <;> cases x2 <;>  exact fun h => nomatch h)
    obtain ⟨v1, rfl⟩ : ∃ v, x1 = .row v := by
      cases x1 with
      | row v => exact ⟨v, rfl⟩
      | num v => exact absurd ho (by cases x2 <;>  exact fun h => nomatch h)
      | lst v => exact absurd ho (by cases x2 <;>  exact fun h => nomatch h)
    obtain ⟨v2, rfl⟩ : ∃ v, x2 = .row v := by
      cases x2 with
      | row v => exact ⟨v, rfl⟩
      | num v => exact absurd ho (by  exact fun h => nomatch h)
      | lst v => exact absurd ho (by  exact fun h => nomatch h)
    have hp : G p = some (.lst [.tup [.str "list", .tup (eTs v0)], .tup [.str "row", .tup (eWs v1)], .tup [.str "row", .tup (eWs v2)]]) := hp
    have lt0 := szTs_len v0
    have lw1 := szWs_len v1
    have lw2 := szWs_len v2
    have zs' : ((1 + szTs v0) + ((1 + szWs v1) + ((1 + szWs v2) + 0))) ≤ 400000 := zs
    rcases v0 with _ | ⟨y0, v0⟩
    · have hp : G p = some (.lst [.tup [.str "list", .tup ([])], .tup [.str "row", .tup (eWs v1)], .tup [.str "row", .tup (eWs v2)]]) := hp
      walk_at "dd"
      refine w_ixL (i := 0) (by walk_at "gq") (atI_nat (j := 0) rfl) ?_
      walk_at "dd"
      intro p1 n1
      refine abs_new n1 fun G1 s1 h1 => ?_
      walk_at "dd"
      refine w_ixL (i := 2) (by walk_at "gq") (atI_nat (j := 2) rfl) ?_
      walk_at "dd"
      refine w_lstT fun p2 n2 => ?_
      refine abs_new n2 fun G2 s2 h2 => ?_
      walk_at "dd"
      cases ho
      exact Less.of (q p1 p2 _ (by walk_at "gs") (by skip; walk_at "gq") (by skip; walk_at "gq"))
    · have hp : G p = some (.lst [.tup [.str "list", .tup (eT y0 :: eTs v0)], .tup [.str "row", .tup (eWs v1)], .tup [.str "row", .tup (eWs v2)]]) := hp
      walk_at "dd"
      refine w_ixL (i := 0) (by walk_at "gq") (atI_nat (j := 0) rfl) ?_
      walk_at "dd"
      refine w_ixL (i := 0) (by walk_at "gq") (atI_nat (j := 0) rfl) ?_
      walk_at "dd"
      rw [show cutD (eT y0 :: eTs v0) (some 1) none = eTs v0 from cutD_from (eTs (y0 :: v0)) 1]
      walk_at "dd"
      refine w_ixL (i := 0) (by walk_at "gq") (atI_nat (j := 0) rfl) ?_
      walk_at "dd"
      intro p1 n1
      refine abs_new n1 fun G1 s1 h1 => ?_
      walk_at "dd"
      refine w_ixL (i := 1) (by walk_at "gq") (atI_nat (j := 1) rfl) ?_
      walk_at "dd"
      refine w_lstT fun p2 n2 => ?_
      refine abs_new n2 fun G2 s2 h2 => ?_
      walk_at "dd"
      cases ho
      exact Less.of (q p1 p2 _ (by walk_at "gs") (by skip; walk_at "gq") (by skip; walk_at "gq"))
  · obtain ⟨x0, x1, rfl⟩ : ∃ x0 x1, ts = [x0, x1] := by
      match ts, hl' with
      | [a0, a1], _ => exact ⟨a0, a1, rfl⟩
    obtain ⟨v0, rfl⟩ : ∃ v, x0 = .lst v := by
      cases x0 with
      | lst v => exact ⟨v, rfl⟩
      | num v => exact absurd ho (by cases x1 <;>  exact fun h => nomatch h)
      | row v => exact absurd ho (by cases x1 <;>  exact fun h => nomatch h)
    obtain ⟨v1, rfl⟩ : ∃ v, x1 = .row v := by
      cases x1 with
      | row v => exact ⟨v, rfl⟩
      | num v => exact absurd ho (by  exact fun h => nomatch h)
      | lst v => exact absurd ho (by  exact fun h => nomatch h)
    have hp : G p = some (.lst [.tup [.str "list", .tup (eTs v0)], .tup [.str "row", .tup (eWs v1)]]) := hp
    have lt0 := szTs_len v0
    have lw1 := szWs_len v1
    have zs' : ((1 + szTs v0) + ((1 + szWs v1) + 0)) ≤ 400000 := zs
    rcases v0 with _ | ⟨y0, v0⟩
    · have hp : G p = some (.lst [.tup [.str "list", .tup ([])], .tup [.str "row", .tup (eWs v1)]]) := hp
      walk_at "dd"
      refine w_ixL (i := 0) (by walk_at "gq") (atI_nat (j := 0) rfl) ?_
      walk_at "dd"
      intro p1 n1
      refine abs_new n1 fun G1 s1 h1 => ?_
      walk_at "dd"
      intro p2 n2
      refine abs_new n2 fun G2 s2 h2 => ?_
      walk_at "dd"
      cases ho
      exact Less.of (q p1 p2 _ (by walk_at "gs") (by skip; walk_at "gq") (by skip; walk_at "gq"))
    · have hp : G p = some (.lst [.tup [.str "list", .tup (eT y0 :: eTs v0)], .tup [.str "row", .tup (eWs v1)]]) := hp
      walk_at "dd"
      refine w_ixL (i := 0) (by walk_at "gq") (atI_nat (j := 0) rfl) ?_
      walk_at "dd"
      refine w_ixL (i := 0) (by walk_at "gq") (atI_nat (j := 0) rfl) ?_
      walk_at "dd"
      rw [show cutD (eT y0 :: eTs v0) (some 1) none = eTs v0 from cutD_from (eTs (y0 :: v0)) 1]
      walk_at "dd"
      refine w_ixL (i := 0) (by walk_at "gq") (atI_nat (j := 0) rfl) ?_
      walk_at "dd"
      intro p1 n1
      refine abs_new n1 fun G1 s1 h1 => ?_
      walk_at "dd"
      refine w_ixL (i := 1) (by walk_at "gq") (atI_nat (j := 1) rfl) ?_
      walk_at "dd"
      refine w_lstT fun p2 n2 => ?_
      refine abs_new n2 fun G2 s2 h2 => ?_
      walk_at "dd"
      refine w_ixL (i := 1) (by walk_at "gq") (atI_nat (j := 1) rfl) ?_
      walk_at "dd"
      intro p3 n3
      refine abs_new n3 fun G3 s3 h3 => ?_
      walk_at "dd"
      refine w_addL (by walk_at "gq") h3 (mid (by rw [eWs_len]; show v1.length + 3 ≤ 1000000; omega)) ?_
      intro p4 n4
      refine abs_new n4 fun G4 s4 h4 => ?_
      walk_at "dd"
      cases ho
      exact Less.of (q p1 p4 _ (by walk_at "gs") (by skip; walk_at "gq") (by rw [eWs_map, List.map_append, ← eWs_map]; walk_at "gq"))
end
end K14
set_option maxHeartbeats 1000000
namespace K14
open PySem PySem.W L2 SX Cm DD
local macro_rules | `(tactic| walk_at "d1") => `(tactic| first | (with_reducible refine w_go ?_) | ((with_reducible show dVar _ _ _ _); refine w_var rfl ?_) | (with_reducible refine w_exI ?_) | (with_reducible refine w_exB ?_) | (with_reducible refine w_exT ?_) | (with_reducible refine w_exS ?_) | (with_reducible refine w_parE ?_) | (with_reducible refine ly1 ?_) | (with_reducible refine ly2 ?_) | (with_reducible refine lt1' ?_) | (with_reducible refine lt2' ?_) | (with_reducible refine wx_enumT ?_) | (with_reducible refine w_callX ?_) | (with_reducible refine w_methX ?_) | (with_reducible refine w_raise ?_) | (with_reducible refine w_try ?_) | (with_reducible refine w_xSet ?_) | (with_reducible refine w_xExpr ?_) | (with_reducible refine w_xLst ?_) | (with_reducible refine w_xTup ?_) | (with_reducible refine w_xCons ?_) | (with_reducible refine w_xNil ?_) | (with_reducible refine w_xE ?_) | (with_reducible refine w_xCall ?_) | (with_reducible refine w_call0 ?_) | (with_reducible refine w_asgL ?_) | (with_reducible refine w_tupPd ?_) | (with_reducible refine wi_zip ?_) | (with_reducible refine w_delT ?_) | (with_reducible refine w_dc ?_) | (with_reducible refine w_revL ?_) | (with_reducible refine wi_revT ?_) | (with_reducible refine w_lstZip ?_) | (with_reducible refine w_chain ?_) | (with_reducible refine w_orT ?_) | (with_reducible refine w_try0 ?_) | (with_reducible refine w_xAsg ?_) | (with_reducible refine wi_zipTL ?_) | (with_reducible refine wi_zipSL ?_) | ((with_reducible show gT _ _ _ _ _ _); refine g_T ?_ rfl) | ((with_reducible show ∃ p, DV.ref _ = _ ∧ (∃ kvs, _) ∧ _); refine wx_get (by walk_at "gq") ?_) | ((with_reducible show ∃ kvs z, _ = _ ∧ _ = some (DO.dct _) ∧ _); refine wx_get2 (by walk_at "gq") ?_) | ((with_reducible show ∃ p kvs z, _ = _ ∧ _ = _ ∧ _ = some (DO.dct _) ∧ _); refine wx_in (by walk_at "gq") ?_) | ((with_reducible show List.length _ = _ ∧ _); refine w_len ?_ rfl) | ((with_reducible show List.length _ ≤ sizeLine ∧ _); refine w_sz ?_ (szl rfl)) | ((with_reducible show bIx _ (.int _) _ _); first | refine w_ix0 ?_ | refine w_ix1 ?_ | refine w_ix2 ?_ | refine w_ix3 ?_) | ((with_reducible show bIsi [_, _] _ _); first | refine w_isi (by decide) (a := "tuple") rfl rfl ?_ | refine w_isi (by decide) (a := "str") rfl rfl ?_ | refine w_isi (by decide) (a := "int") rfl rfl ?_ | refine w_isi (by decide) (a := "bool") rfl rfl ?_ | refine w_isi (by decide) (a := "NoneType") rfl rfl ?_) | ((with_reducible show ∃ ds, _ = DV.tup ds ∧ _); refine w_exT ?_) | ((with_reducible show ∃ z, _ = DV.str z ∧ _); refine w_exS ?_) | ((with_reducible show ∃ ds, [_] = [DV.tup ds] ∧ _); refine wx_enumT ?_) | ((with_reducible show bSl _ _ _ _ _); refine w_slT ?_) | ((with_reducible show bTuple [_] _ _); refine w_tupT ?_) | ((with_reducible show bLen [_] _ _); refine w_lenT ?_) | ((with_reducible show bTru _ _ _); first | refine w_truT ?_ | refine w_truN ?_ | refine w_truB ?_ | refine w_truI ?_) | ((with_reducible show bEq _ _ _ _ _); first | refine w_eqSS ?_ | refine w_eqII ?_ | refine w_neSS ?_ | refine w_neII ?_ | refine w_eqT0 ?_) | ((with_reducible show bInt _ _ (.int _) (.int _) _ _); refine w_int (by first | decide | exact ⟨by decide, by decide, by decide⟩ | exact .inl ⟨by decide, by decide⟩ | exact .inr ⟨by decide, by decide⟩) ?_) | ((with_reducible show if _ = true then _ else _); first | refine w_it (by first | rfl | decide +kernel) ?_ | refine w_if0 (by first | rfl | decide +kernel) ?_) | ((with_reducible show rcv "list" (.ref _) _ ∧ _); refine w_rcvL (by walk_at "gq") ?_) | ((with_reducible show bTuple [.ref _] _ _); refine w_tupL (by walk_at "gq") ?_) | ((with_reducible show bLen [.ref _] _ _); refine w_lenL (by walk_at "gq") ?_) | ((with_reducible show bTru (.ref _) _ _); refine w_truL (by walk_at "gq") ?_) | ((with_reducible show ∃ _ _, DV.ref _ = _ ∧ Ls _ _ _ ∧ _); refine wx_lst (by walk_at "gq") ?_) | ((with_reducible show ∃ _ _, [DV.ref _] = _ ∧ Ls _ _ _ ∧ _); refine wx_lstA (by walk_at "gq") ?_))
local macro_rules | `(tactic| walk_at "dd") => `(tactic| repeat (walk_at "d1"))
local macro_rules | `(tactic| walk_at "gq") => `(tactic| first | assumption | exact dupd_same | exact sub_get (by assumption) (by walk_at "gq") | exact upd_get (by assumption) (by walk_at "gq") (by walk_at "gn") | exact subx_get (by assumption) (by walk_at "gq") (by walk_at "gn") | (refine (dupd_ne ?_).trans ?_; (focus walk_at "gn"); walk_at "gq"))
local macro_rules | `(tactic| walk_at "gs") => `(tactic| first | assumption | exact Sub.refl _ | exact sub_tr (by assumption) (by walk_at "gs") | exact sub_up (by assumption) (by walk_at "gs") (by walk_at "g0") | exact sub_ux (by assumption) (by walk_at "gs") (by walk_at "g0") | (refine Sub.new ?_ ?_; (focus walk_at "gs"); walk_at "g0"))
local macro_rules | `(tactic| walk_at "gk") => `(tactic| first | assumption | exact db_sub (by assumption) (by walk_at "gk") | exact db_upd (by assumption) (by walk_at "gk") ⟨_, by walk_at "gq"⟩ | exact db_updD (by assumption) (by walk_at "gk") ⟨_, by walk_at "gq"⟩)
local macro_rules | `(tactic| walk_at "gu") => `(tactic| first | assumption | exact Upd.refl _ _ | exact upd_in (by assumption) (by walk_at "gu"))
local macro_rules | `(tactic| walk_at "gx") => `(tactic| first | assumption | exact SubX.refl _ _ | exact subx_sub (by assumption) (by walk_at "gx") | exact subx_upd (by assumption) (by walk_at "gx") | exact subx_tr (by assumption) (by walk_at "gx"))
local macro_rules | `(tactic| walk_at "gn") => `(tactic| first | assumption | exact Ne.symm (by assumption) | exact ne_ns (by assumption) ⟨_, by walk_at "gq"⟩ | exact ne_sn (by assumption) ⟨_, by walk_at "gq"⟩)
local macro_rules | `(tactic| walk_at "g0") => `(tactic| first | assumption | exact nn_ (by assumption) (by walk_at "gs"))
abbrev SS (x : List Nat) : Str := S x
theorem bk_split : Txt.split "plus minus times less same do dip if while repeat join wrap put part each" " " = BKL := by decide +kernel
theorem inD_bls : ∀ bs : List Bool, inD (.bl false) (bs.map .bl) = !(bs.all id)
  | [] => rfl
  | c :: r => by
    have ih := inD_bls r
    unfold inD at ih ⊢
    have ih : inV (V.bl false) ((r.map DV.bl).map toV) = !(r.all id) := ih
    show (eqV (V.bl c) (V.bl false) || inV (V.bl false) ((r.map DV.bl).map toV)) = !(c && r.all id)
    rw [ih]
    cases c <;> rfl
theorem flat_bls : ∀ bs : List Bool, (bs.map DV.bl).all flatD = true
  | [] => rfl
  | z :: r => by rw [List.map_cons, List.all_cons, flat_bls r]; rfl
def numB : List Bas := [.plus, .minus, .times, .less, .same]
theorem bas_three (b : Bas) : b ∈ numB ∨ b ∈ rowB ∨ b ∈ thgB := by cases b <;> decide
theorem kds_num : ∀ b ∈ numB, kds (nmBas b) = "nn" := by decide +kernel
theorem kds_row : ∀ b ∈ rowB, kds (nmBas b) ≠ "nn" ∧ nmBas b ∈ [(("do" : Str)), "dip", "if", "while", "repeat"] := by decide +kernel
theorem kds_thg : ∀ b ∈ thgB, kds (nmBas b) ≠ "nn" ∧ nmBas b ∉ [(("do" : Str)), "dip", "if", "while", "repeat"] := by decide +kernel
theorem num_shape {b : Bas} {ts : List Th} {l : List Th} {a : List Wo} (hb : b ∈ numB) (h : deedB b ts = some (l, a)) : ∃ x y n, ts = [.num x, .num y] ∧ l = [.num n] ∧ a = [] := by
  have hl := deed_len h
  simp only [numB, List.mem_cons, List.not_mem_nil, or_false] at hb
  rcases hb with rfl | rfl | rfl | rfl | rfl
  all_goals
    match ts, hl with
    | [x, y], _ =>
      cases x <;> cases y <;> first
        | (cases h; done)
        | (cases h; exact ⟨_, _, _, rfl, rfl, rfl⟩)
theorem atTh_drop {S : List Th} {j p n : Nat} (hj : j + n = S.length) (hp : p < n) : S[j + p]? = some (atTh (S.drop j) p) := by
  rw [← atTh_get (fs := S.drop j) (by rw [List.length_drop]; omega), List.getElem?_drop]
theorem rowTold_none {m : Nat} {bk : Bok} (hb : BokOk m bk) {z : Str} (h : z ∈ BKL) : rowTold bk z = none := by
  cases e : rowTold bk z with
  | none => rfl
  | some r =>
    obtain ⟨x, hx, e2, _⟩ := rowTold_mem e
    exact absurd h (by rw [← e2]; exact (hb.nm x hx).nb)
section
variable {P : Program} {w : World} {K : Frag} {mg : Str → Option Value} {base : Heap}
def SP_stp : DSp := fun ds G R => ∃ p q S T bk m, ds = [.ref p, .ref q, .tup (eBk bk)] ∧ G p = some (.lst (eTs S)) ∧ G q = some (.lst (eWs T)) ∧ T ≠ [] ∧ SOk (S, T) ∧ BokOk m bk ∧ m ≤ 100000 ∧
  (stepF bk S T = none → R .non G) ∧ (∀ S' T', stepF bk S T = some (S', T') → ∀ q1 q2 G', DD.Sub G G' → G' q1 = some (.lst (eTs S')) → G' q2 = some (.lst (eWs T')) → R (.tup [.ref q1, .ref q2]) G')
abbrev N_L_step : List Str := ["_law_stack", "_law_todo", "_law_book_here", "_law_word", "_law_taken", "_law_left", "_law_at", "_law_sign", "_law_name", "_law_told", "_law_row", "_law_basic", "_law_kinds_here", "_law_things", "_law_kind", "_law_thing_here", "_law_ahead"]
abbrev A_L_step : List Str := ["_law_stack", "_law_todo", "_law_book_here"]
theorem sc_L_step : FnScope N_L_step A_L_step (defScope s_L_step) := ⟨rfl, rfl, rfl, by decide +kernel, rfl, by decide +kernel, by decide +kernel⟩
theorem h_L_step (a : At K mg "_law_step" s_L_step A_L_step) (B : BI mg) (c_L_kinds : Has P w K mg base 1 "_law_kinds" A_L_kinds SP_kn) (c_L_fit : Has P w K mg base 1 "_law_fit" A_L_fit SP_ft) (c_L_reckoned : Has P w K mg base 1 "_law_reckoned" A_L_reckoned SP_rk) (c_L_row_deed : Has P w K mg base 1 "_law_row_deed" A_L_row_deed (SP_ded rowB)) (c_L_thing_deed : Has P w K mg base 1 "_law_thing_deed" A_L_thing_deed (SP_ded thgB)) : Has P w K mg base 2 "_law_step" A_L_step SP_stp := by
  refine at_mk a sc_L_step fun f cdv A outer s H E hr ds G R hl h => ?_
  refine ⟨_, (dss_cons (ds_set (i := 3) sc_L_step.nd rfl (.inl rfl) (de_ix (dv 1) de_int))
    (dss_cons (ds_if (dt_e (de_callB cd_isi B.isi rfl (by decide +kernel) (da_cons (dv 3) (da_cons (de_ty (n := "tuple") B.tup rfl (by decide +kernel)) da_nil)))) (dss_one (ds_ret (de_tup (da_cons (de_op od_add (dv 0) (de_lst (da_cons (de_ix (dv 3) de_int) da_nil))) (da_cons (de_slice (dv 1) (do_some de_int) do_none) da_nil))))) dss_nil)
    (dss_cons (ds_if (dt_cmp od_in de_str (dv 3) rfl) (dss_cons (ds_asg (de_bm PySem.F.plainAttrs_str PySem.F.slot_str_split PySem.F.type_str_split md_split (dv 3) (da_cons de_str da_nil)) (dg_lst rfl (dgs_cons (dg_name (i := 4) sc_L_step.nd rfl (.inl rfl)) (dgs_cons (dg_name (i := 5) sc_L_step.nd rfl (.inl rfl)) dgs_nil))))
      (dss_cons (ds_set (i := 6) sc_L_step.nd rfl (.inr rfl) (de_op od_sub (de_callB cd_len B.len rfl (by decide +kernel) (da_cons (dv 0) da_nil)) (de_callB cd_len B.len rfl (by decide +kernel) (da_cons (dv 4) da_nil))))
      (dss_cons (ds_if (dt_cmp od_lt (dv 6) de_int (nomark _)) (dss_one (ds_ret de_non)) dss_nil)
      (dss_one (ds_ret (de_tup (da_cons (de_op od_add (de_slice (dv 0) do_none (do_some (dv 6))) (de_lc (own := [("_law_sign", 7)]) (lt1 (i := 7) (by decide)) rfl sc_L_step.nd (di_str (dv 5)) (blkOk_by (own := [("_law_sign", 7)]) (N := N_L_step) (sc := defScope s_L_step) (by decide +kernel)) (fun _ _ _ _ _ => pg_name (i := 7) sc_L_step.nd rfl (Or.inl rfl)) (fun _ _ _ _ _ => dts_nil) (fun _ _ _ _ _ => (de_ix (dv 0) (de_op od_add (dv 6) (de_bm PySem.F.plainAttrs_str PySem.F.slot_str_index PySem.F.type_str_index md_sindex de_str (da_cons (dv 7) da_nil))))))) (da_cons (de_slice (dv 1) (do_some de_int) do_none) da_nil)))))))) dss_nil)
    (dss_cons (ds_for PassesOwn.never rfl (di_tup (dv 2)) (dg_tup rfl (dgs_cons (dg_name (i := 8) sc_L_step.nd rfl (.inl rfl)) (dgs_cons (dg_name (i := 9) sc_L_step.nd rfl (.inl rfl)) (dgs_cons (dg_name (i := 10) sc_L_step.nd rfl (.inl rfl)) dgs_nil)))) (dss_one (ds_if (dt_cmp (od_eq hr.units) (dv 8) (dv 3) (nomark _)) (dss_one (ds_ret (de_tup (da_cons (dv 0) (da_cons (de_op od_add (de_callTy cd_list B.lst rfl (by decide +kernel) (da_cons (dv 10) da_nil)) (de_slice (dv 1) (do_some de_int) do_none)) da_nil))))) dss_nil)))
    (dss_cons (ds_set (i := 11) sc_L_step.nd rfl (.inl rfl) (de_bm PySem.F.plainAttrs_str PySem.F.slot_str_split PySem.F.type_str_split md_split de_str (da_cons de_str da_nil)))
    (dss_cons (ds_set (i := 12) sc_L_step.nd rfl (.inl rfl) (de_call c_L_kinds (hr.mono (by omega)) rfl (da_cons (dv 3) da_nil)))
    (dss_cons (ds_set (i := 13) sc_L_step.nd rfl (.inl rfl) (de_slice (dv 0) (do_some (de_op od_sub (de_callB cd_len B.len rfl (by decide +kernel) (da_cons (dv 0) da_nil)) (de_callB cd_len B.len rfl (by decide +kernel) (da_cons (dv 12) da_nil)))) do_none))
    (dss_cons (ds_if (dt_w (dw_or (dt_cmp od_notin (dv 3) (dv 11) rfl) (dw_or1 (dt_cmp od_lt (de_callB cd_len B.len rfl (by decide +kernel) (da_cons (dv 0) da_nil)) (de_callB cd_len B.len rfl (by decide +kernel) (da_cons (dv 12) da_nil)) (nomark _))))) (dss_one (ds_ret de_non)) dss_nil)
    (dss_cons (ds_if (dt_cmp od_in de_bl (de_lc (own := [("_law_kind", 14), ("_law_thing_here", 15)]) (lt2 (i := 14) (j := 15) (by decide) (by decide)) rfl sc_L_step.nd (di_zipSL B.zip rfl (da_cons (dv 12) (da_cons (dv 13) da_nil))) (blkOk_by (own := [("_law_kind", 14), ("_law_thing_here", 15)]) (N := N_L_step) (sc := defScope s_L_step) (by decide +kernel)) (fun _ _ _ _ _ => pg_tup rfl (pgs_cons (pg_name (i := 14) sc_L_step.nd rfl (Or.inl rfl)) (pgs_cons (pg_name (i := 15) sc_L_step.nd rfl (Or.inl rfl)) pgs_nil))) (fun _ _ _ _ _ => dts_nil) (fun _ _ _ _ _ => (de_call c_L_fit (hr.mono (by omega)) rfl (da_cons (dv 14) (da_cons (dv 15) da_nil))))) rfl) (dss_one (ds_ret de_non)) dss_nil)
    (dss_cut (ds_if (dt_cmp (od_eq hr.units) (dv 12) de_str (nomark _)) (dss_one (ds_par (i := 5) (j := 16) (by rfl) sc_L_step.nd rfl rfl (by decide) rfl rfl (da_cons (de_lst (da_cons (de_tup (da_cons de_str (da_cons (de_call c_L_reckoned (hr.mono (by omega)) rfl (da_cons (dv 3) (da_cons (de_ix (de_ix (dv 13) de_int) de_int) (da_cons (de_ix (de_ix (dv 13) de_int) de_int) da_nil)))) da_nil))) da_nil)) (da_cons (de_lst da_nil) da_nil)) (by rfl))) (dss_one (ds_if (dt_cmp od_in (dv 3) (de_tup (da_cons de_str (da_cons de_str (da_cons de_str (da_cons de_str (da_cons de_str da_nil)))))) rfl) (dss_one (ds_asg (de_call c_L_row_deed (hr.mono (by omega)) rfl (da_cons (dv 3) (da_cons (dv 13) da_nil))) (dg_tup rfl (dgs_cons (dg_name (i := 5) sc_L_step.nd rfl (.inl rfl)) (dgs_cons (dg_name (i := 16) sc_L_step.nd rfl (.inl rfl)) dgs_nil))))) (dss_one (ds_asg (de_call c_L_thing_deed (hr.mono (by omega)) rfl (da_cons (dv 3) (da_cons (dv 13) da_nil))) (dg_tup rfl (dgs_cons (dg_name (i := 5) sc_L_step.nd rfl (.inl rfl)) (dgs_cons (dg_name (i := 16) sc_L_step.nd rfl (.inl rfl)) dgs_nil))))))))
    (dss_one (ds_ret (de_tup (da_cons (de_op od_add (de_slice (dv 0) do_none (do_some (de_op od_sub (de_callB cd_len B.len rfl (by decide +kernel) (da_cons (dv 0) da_nil)) (de_callB cd_len B.len rfl (by decide +kernel) (da_cons (dv 12) da_nil))))) (dv 5)) (da_cons (de_op od_add (dv 16) (de_slice (dv 1) (do_some de_int) do_none)) da_nil))))))))))))))), ?_⟩
  obtain ⟨p, r, S, T, bk, m, rfl, hp, hr', hT, ok, bok, hm, q0, q1⟩ := h
  cases T with
  | nil => exact absurd rfl hT
  | cons wd T =>
  have hr' : G r = some (.lst (eW wd :: eWs T)) := hr'
  have zS : szTs S ≤ 20000 := ok.zS
  have zT : szW wd + szWs T ≤ 20000 := ok.zT
  have lS := szTs_len S
  have lT := szWs_len T
  have gS : gdTs S := ok.gS
  have gw : gdW wd := ok.gT.1
  have cW : cutD (eW wd :: eWs T) (some 1) none = eWs T := cutD_from (eW wd :: eWs T) 1
  walk_at "dd"
  refine w_ixL hr' (atI_nat (j := 0) rfl) ?_
  walk_at "dd"
  cases wd with
  | push t =>
    rw [show eW (.push t) = .tup [.str "push", eT t] from rfl] at hr' cW ⊢
    walk_at "dd"
    intro p1 n1
    refine abs_new n1 fun G1 s1 h1 => ?_
    refine w_addL (s1 _ _ hp) h1 (mid (by rw [eTs_len]; show S.length + 1 ≤ 1000000; omega)) ?_
    intro p2 n2
    refine abs_new n2 fun G2 s2 h2 => ?_
    walk_at "dd"
    refine w_slL (by walk_at "gq") fun p3 n3 => ?_
    refine abs_new n3 fun G3 s3 h3 => ?_
    walk_at "dd"
    rw [cW] at h3
    refine Less.of (q1 (S ++ [t]) T ?_ p2 p3 G3 (by walk_at "gs") ?_ h3)
    · show some (S.take (S.length - 0) ++ [t], [] ++ T) = _
      rw [Nat.sub_zero, List.take_length]; rfl
    · rw [s3 _ _ h2, eTs_map, eTs_map, List.map_append]; rfl
  | txt z =>
  rw [show eW (.txt z) = .str z from rfl] at hr' cW ⊢
  walk_at "dd"
  refine w_inS (c := 45) ?_
  by_cases h45 : 45 ∈ TL.tl z
  · -- a shuffle
    obtain ⟨n, ps, rfl, hs⟩ : ∃ n ps, z = shT n ps ∧ ShOk n ps := by
      rcases (gw : WD z) with h | h | h
      · exact absurd h45 (bkl_45 z h)
      · exact h
      · exact absurd h45 h.no
    have st : stepF bk S (.txt (shT n ps) :: T) = if S.length < n then none else some (S.take (S.length - n) ++ ps.map (atTh (S.drop (S.length - n))), [] ++ T) := by
      show (effW bk S (.txt (shT n ps))).map _ = _
      rw [effW_sh]
      split <;> rfl
    rw [st] at q0 q1
    rw [show ng false (decide (45 ∈ (shT n ps).cps.toList)) = true from DD.sh_45 n ps]
    walk_at "dd"
    refine w_split rfl (mid (by have := sh_len hs; omega)) ?_
    rw [sh_split]
    intro p1 n1
    refine abs_new n1 fun G1 s1 h1 => ?_
    have h1 : G1 p1 = some (.lst [.str (SS (shL n)), .str (SS (shP ps))]) := h1
    refine g_L h1 ?_
    walk_at "dd"
    have ln : (SS (shL n)).length = n := by rw [S_len]; unfold shL; rw [List.length_map, List.length_range]
    refine w_lenS (z := SS (shL n)) (mid (by rw [ln]; have := hs.hn; omega)) ?_
    walk_at "dd"
    rw [ln, eTs_len]
    by_cases hl : S.length < n
    · refine w_it (decide_eq_true (by omega)) ?_
      walk_at "dd"
      exact ⟨G, by walk_at "gs", q0 (if_pos hl)⟩
    refine w_if0 (decide_eq_false (by omega)) ?_
    walk_at "dd"
    rw [if_neg hl] at q1
    rw [show ((S.length : Int) - (n : Nat)) = ((S.length - n : Nat) : Int) from by omega]
    refine w_slL (s1 _ _ hp) fun p2 n2 => ?_
    refine abs_new n2 fun G2 s2 h2 => ?_
    rw [cutD_to, eTs_map, ← List.map_take, ← eTs_map] at h2
    walk_at "dd"
    rw [signs_S]
    refine lcs_pure (fun d => some (eT (atTh (S.drop (S.length - n)) (signD d - 97)))) (fun _ _ => trivial) (by rw [List.length_map, shP, List.length_map]; have := hs.hl; omega) ?_ ?_
    · intro d hd G' k1 k0 s' e1 e0
      obtain ⟨c', hc', rfl⟩ := List.mem_map.mp hd
      obtain ⟨pk, hpk, rfl⟩ := List.mem_map.mp hc'
      have hpn := hs.hp pk hpk
      have hp2 := s' _ _ (s2 _ _ (s1 _ _ hp))
      walk_at "dd"
      refine w_sindex (sh_index pk (Nat.lt_of_lt_of_le hpn hs.hn)) ?_
      walk_at "dd"
      refine w_ixL (d := eT (atTh (S.drop (S.length - n)) pk)) hp2 (by
        rw [show ((S.length - n : Nat) : Int) + (pk : Nat) = ((S.length - n + pk : Nat) : Int) from by omega]
        exact atI_nat (by rw [eTs_map, List.getElem?_map, atTh_drop (n := n) (by omega) hpn]; rfl)) ?_
      refine e1 _ ?_
      show some (eT (atTh (S.drop (S.length - n)) ((97 + pk) - 97))) = _
      rw [Nat.add_sub_cancel_left]
    intro p3 G3 n3 s3 h3
    have e3 : ((shP ps).map fun c => DV.str ⟨#[c]⟩).filterMap (fun d => some (eT (atTh (S.drop (S.length - n)) (signD d - 97)))) = eTs (ps.map (atTh (S.drop (S.length - n)))) := by
      rw [fm_signs (fun c => eT (atTh (S.drop (S.length - n)) (c - 97))), shP, List.map_map, eTs_map, List.map_map]
      refine List.map_congr_left fun p _ => ?_
      show eT (atTh (S.drop (S.length - n)) ((97 + p) - 97)) = eT (atTh (S.drop (S.length - n)) p)
      rw [Nat.add_sub_cancel_left]
    rw [e3] at h3
    refine w_addL (s3 _ _ h2) h3 (mid (by rw [eTs_len, eTs_len, List.length_take, List.length_map]; have := hs.hl; omega)) ?_
    intro p4 n4
    refine abs_new n4 fun G4 s4 h4 => ?_
    walk_at "dd"
    refine w_slL (by walk_at "gq") fun p5 n5 => ?_
    refine abs_new n5 fun G5 s5 h5 => ?_
    walk_at "dd"
    rw [cW] at h5
    refine Less.of (q1 _ _ rfl p4 p5 G5 (by walk_at "gs") ?_ h5)
    rw [s5 _ _ h4, eTs_map, eTs_map, eTs_map, List.map_append]
  -- no shuffle
  have h3 : z ∈ BKL ∨ NmOk z := by
    rcases (gw : WD z) with h | ⟨n, ps, rfl, hs⟩ | h
    · exact .inl h
    · exact absurd (sh45 n ps) h45
    · exact .inr h
  have sN : ∀ w, rowTold bk z = some w → stepF bk S (.txt z :: T) = some (S, w ++ T) := fun w hw => by
    rcases h3 with h | h
    · rw [rowTold_none bok h] at hw; cases hw
    · show (effW bk S (.txt z)).map _ = _
      rw [effW_nm bk S h, hw]
      show some (S.take (S.length - 0) ++ [], w ++ T) = _
      rw [Nat.sub_zero, List.take_length, List.append_nil]
  rw [show ng false (decide (45 ∈ z.cps.toList)) = false from decide_eq_false h45]
  walk_at "dd"
  refine for_by (fun i δ G' => ∃ x8 x9 x10, δ = [some (.ref p), some (.ref r), some (.tup (eBk bk)), some (.str z), none, none, none, none, x8, x9, x10, none, none, none, none, none, none] ∧ G' = G ∧ rowTold bk z = rowTold (bk.drop i) z) (fun _ _ _ _ => trivial) ⟨_, _, _, rfl, rfl, rfl⟩ ?_ ?_
  · rintro i y δ G' hy ⟨x8, x9, x10, rfl, rfl, hno⟩
    unfold eBk at hy
    rw [List.getElem?_map] at hy
    obtain ⟨x, hx, rfl⟩ := Option.map_eq_some_iff.mp hy
    have hd : bk.drop i = x :: bk.drop (i + 1) := by
      have hi := (List.getElem?_eq_some_iff.mp hx).1
      rw [List.drop_eq_getElem_cons hi]
      have e : bk[i] = x := by rw [List.getElem?_eq_getElem hi] at hx; exact Option.some.inj hx
      rw [e]
    obtain ⟨n0, r0⟩ := x
    rw [hd] at hno
    have hno : rowTold bk z = if n0 = z then some r0 else rowTold (bk.drop (i + 1)) z := hno
    have hz0 := (bok.sz _ (List.mem_of_getElem? hx)).1
    have hz0 : szWs r0 ≤ m := hz0
    have l0 := szWs_len r0
    walk_at "dd"
    by_cases e : n0 = z
    · refine w_it (decide_eq_true e) ?_
      walk_at "dd"
      rw [if_pos e] at hno
      refine w_lstT fun p1 n1 => ?_
      refine abs_new n1 fun G1 s1 h1 => ?_
      walk_at "dd"
      refine w_slL (by walk_at "gq") fun p2 n2 => ?_
      refine abs_new n2 fun G2 s2 h2 => ?_
      rw [cW] at h2
      refine w_addL (s2 _ _ h1) h2 (mid (by rw [eWs_len, eWs_len]; show r0.length + T.length ≤ 1000000; omega)) ?_
      intro p3' n3
      refine abs_new n3 fun G3 s3 h3 => ?_
      walk_at "dd"
      refine Less.of (q1 S (r0 ++ T) (sN r0 hno) p p3' G3 (by walk_at "gs") (by walk_at "gq") ?_)
      rw [h3, eWs_map, eWs_map, eWs_map, List.map_append]
    · refine w_if0 (decide_eq_false e) ?_
      walk_at "dd"
      rw [if_neg e] at hno
      exact ⟨_, _, _, rfl, rfl, hno⟩
  rintro δ G' ⟨x8, x9, x10, rfl, eG, hno⟩
  have eG := eG.symm
  subst eG
  have hno : rowTold bk z = none := by
    unfold eBk at hno
    rw [List.length_map, List.drop_length] at hno
    exact hno
  walk_at "dd"
  refine w_split rfl (mid (by decide +kernel)) ?_
  rw [bk_split]
  intro p1 n1
  refine abs_new n1 fun G1 s1 h1 => ?_
  walk_at "dd"
  refine ⟨z, rfl, ?_⟩
  walk_at "dd"
  have lk : (kds z).length ≤ 3 := by
    rcases h3 with h | h
    · obtain ⟨b0, rfl⟩ := bkl_inv h
      rw [kds_len]; exact (srtB_len b0).2
    · rw [kds_no h.nb]; decide +kernel
  refine w_lenS (z := kds z) (mid (by omega)) ?_
  walk_at "dd"
  refine w_slL (s1 _ _ hp) fun p2 n2 => ?_
  refine abs_new n2 fun G2 s2 h2 => ?_
  walk_at "dd"
  refine w_inL (s2 _ _ h1) (flat_strs _) ?_
  rw [inD_strs]
  rcases h3 with hz | hz
  rotate_left
  · rw [show ng true (decide (z ∈ BKL)) = true from by rw [decide_eq_false hz.nb]; rfl]
    walk_at "dd"
    refine ⟨G, by walk_at "gs", q0 ?_⟩
    show (effW bk S (.txt z)).map _ = none
    rw [effW_nm bk S hz, hno]; rfl
  obtain ⟨b0, rfl⟩ := bkl_inv hz
  rw [show ng true (decide (nmBas b0 ∈ BKL)) = false from by rw [decide_eq_true hz]; rfl]
  have st : stepF bk S (.txt (nmBas b0) :: T) = if S.length < (srtB b0).length then none else (deedB b0 (S.drop (S.length - (srtB b0).length))).map fun e => (S.take (S.length - (srtB b0).length) ++ e.1, e.2 ++ T) := by
    show (effW bk S (.txt (nmBas b0))).map _ = _
    rw [effW_bas]
    split
    · rfl
    · cases deedB b0 (S.drop (S.length - (srtB b0).length)) <;> rfl
  rw [st] at q0 q1
  have l3 := srtB_len b0
  rw [kds_len, eTs_len] at h2
  walk_at "dd"
  refine w_lenS (z := kds (nmBas b0)) (mid (by omega)) ?_
  walk_at "dd"
  rw [kds_len, eTs_len]
  by_cases hl : S.length < (srtB b0).length
  · refine w_it (decide_eq_true (by omega)) ?_
    walk_at "dd"
    exact ⟨G, by walk_at "gs", q0 (if_pos hl)⟩
  refine w_if0 (decide_eq_false (by omega)) ?_
  walk_at "dd"
  rw [if_neg hl] at q0 q1
  rw [show ((S.length : Int) - ((srtB b0).length : Nat)) = ((S.length - (srtB b0).length : Nat) : Int) from by omega, cutD_from, eTs_map, ← List.map_drop, ← eTs_map] at h2
  have hl0 : (S.drop (S.length - (srtB b0).length)).length = (srtB b0).length := by rw [List.length_drop]; omega
  obtain ⟨c1, c2, c3⟩ := szTs_cut S (S.length - (srtB b0).length)
  have gdp := gdTs_drop (S.length - (srtB b0).length) gS
  have s02 : DD.Sub G G2 := s1.trans s2
  generalize htp : S.drop (S.length - (srtB b0).length) = tp at h2 q0 q1 hl0 c1 gdp
  have sg : (signs (kds (nmBas b0))).length = (srtB b0).length := by rw [kds_bas, List.length_map]
  refine ⟨_, p2, _, rfl, .inl h2, by rw [sg, eTs_len, hl0], ?_⟩
  rw [kds_bas]
  have lz : (zipD ((srtB b0).map fun s => DV.str (sgSo s)) (eTs tp)).length = (srtB b0).length := by
    rw [zipD_len, List.length_map, eTs_len]; omega
  refine lcs_each (fun i y => ∀ s t, (srtB b0)[i]? = some s → tp[i]? = some t → y = .bl (fitB s t)) (fun G' s => .inl (s _ _ h2)) (by rw [lz]; omega) ?_ ?_
  · intro i d hd G' k1 k0 s' e1
    obtain ⟨x, y, hx, hy, rfl⟩ := zipD_inv hd
    rw [List.getElem?_map] at hx
    obtain ⟨s, hs, rfl⟩ := Option.map_eq_some_iff.mp hx
    rw [eTs_map, List.getElem?_map] at hy
    obtain ⟨t, ht, rfl⟩ := Option.map_eq_some_iff.mp hy
    walk_at "dd"
    refine ⟨s, t, rfl, e1 _ fun s2 t2 h1 h2 => ?_⟩
    rw [hs] at h1; rw [ht] at h2; cases h1; cases h2; rfl
  intro p3 G3 acc n3 s3 h3 la he
  rw [lz] at la
  have hacc : acc = (((srtB b0).zip tp).map fun p => fitB p.1 p.2).map DV.bl := by
    rw [List.map_map]
    refine List.ext_getElem? fun i => ?_
    rw [List.getElem?_map]
    by_cases hi : i < acc.length
    · have e1 : (srtB b0)[i]? = some ((srtB b0)[i]'(by omega)) := List.getElem?_eq_getElem _
      have e2 : tp[i]? = some (tp[i]'(by omega)) := List.getElem?_eq_getElem _
      rw [show ((srtB b0).zip tp)[i]? = some (_, _) from List.getElem?_zip_eq_some.mpr ⟨e1, e2⟩, List.getElem?_eq_getElem hi, he i _ (List.getElem?_eq_getElem hi) _ _ e1 e2]; rfl
    · rw [List.getElem?_eq_none (by omega), List.getElem?_eq_none (by rw [List.length_zip]; omega)]; rfl
  rw [hacc] at h3
  refine ⟨_, .inl h3, rfl, flat_bls _, ?_⟩
  rw [inD_bls, List.all_map, show (List.all ((srtB b0).zip tp) (id ∘ fun p => fitB p.1 p.2)) = fits (srtB b0) tp from rfl]
  rcases deed_know b0 tp hl0 with ⟨⟨⟨l, a⟩, ht⟩, hf⟩ | ⟨hno2, hf⟩
  rotate_left
  · rw [hf]
    walk_at "dd"
    refine ⟨G, by walk_at "gs", q0 (by rw [hno2]; rfl)⟩
  rw [hf]
  rw [ht] at q1
  have s23 : DD.Sub G G3 := s02.trans s3
  have h2' : G3 p2 = some (.lst (eTs tp)) := s3 _ _ h2
  have hp3 : G3 p = some (.lst (eTs S)) := s23 _ _ hp
  have hr3 := s23 _ _ hr'
  clear h3 he hacc h1 h2 n1 n2 n3 s1 s2 s3 hno sN
  walk_at "dd"
  refine w_cut (fun δ' G' => ∃ p5 p16, δ' = [some (.ref p), some (.ref r), some (.tup (eBk bk)), some (.str (nmBas b0)), none, some (.ref p5), none, none, x8, x9, x10, some (.ref p1), some (.str (kds (nmBas b0))), some (.ref p2), none, none, some (.ref p16)] ∧ DD.Sub G3 G' ∧ G' p5 = some (.lst (eTs l)) ∧ G' p16 = some (.lst (eWs a))) ?_ ?_
  · walk_at "dd"
    rcases bas_three b0 with hb | hb | hb
    · rw [decide_eq_true (kds_num b0 hb)]
      obtain ⟨x, y, n, rfl, rfl, rfl⟩ := num_shape hb ht
      have h2' : G3 p2 = some (.lst [.tup [.str "number", .int x], .tup [.str "number", .int y]]) := h2'
      walk_at "dd"
      refine w_ixL h2' (atI_nat (j := 0) rfl) ?_
      walk_at "dd"
      refine w_ixL h2' (i := 1) (atI_nat (j := 1) rfl) ?_
      walk_at "dd"
      refine ⟨b0, x, y, n, rfl, ht, gdp.1, gdp.2.1, ?_⟩
      walk_at "dd"
      intro p4 n4
      refine abs_new n4 fun G4 s4 h4 => ?_
      walk_at "dd"
      intro p5 n5
      refine abs_new n5 fun G5 s5 h5 => ?_
      walk_at "dd"
      exact ⟨p4, p5, rfl, by walk_at "gs", s5 _ _ h4, h5⟩
    · obtain ⟨k1, k2⟩ := kds_row b0 hb
      rw [decide_eq_false k1]
      walk_at "dd"
      refine w_inT (by decide +kernel) ?_
      rw [show inD (.str (nmBas b0)) [DV.str "do", .str "dip", .str "if", .str "while", .str "repeat"] = decide (nmBas b0 ∈ [(("do" : Str)), "dip", "if", "while", "repeat"]) from inD_strs (nmBas b0) ["do", "dip", "if", "while", "repeat"], decide_eq_true k2]
      walk_at "dd"
      refine ⟨b0, p2, tp, l, a, rfl, hb, h2', ht, gdp, by omega, fun q5 q6 G5 s5 h5 h6 => ?_⟩
      walk_at "dd"
      exact ⟨q5, q6, rfl, s5, h5, h6⟩
    · obtain ⟨k1, k2⟩ := kds_thg b0 hb
      rw [decide_eq_false k1]
      walk_at "dd"
      refine w_inT (by decide +kernel) ?_
      rw [show inD (.str (nmBas b0)) [DV.str "do", .str "dip", .str "if", .str "while", .str "repeat"] = decide (nmBas b0 ∈ [(("do" : Str)), "dip", "if", "while", "repeat"]) from inD_strs (nmBas b0) ["do", "dip", "if", "while", "repeat"], decide_eq_false k2]
      walk_at "dd"
      refine ⟨b0, p2, tp, l, a, rfl, hb, h2', ht, gdp, by omega, fun q5 q6 G5 s5 h5 h6 => ?_⟩
      walk_at "dd"
      exact ⟨q5, q6, rfl, s5, h5, h6⟩
  rintro δ' G4 ⟨p5, p16, rfl, s4, h5, h16⟩
  have hp4 := s4 _ _ hp3
  have hr4 := s4 _ _ hr3
  have dz := (deed_sz ht).1
  have ll := szTs_len l
  have la' := szWs_len a
  walk_at "dd"
  refine w_lenS (z := kds (nmBas b0)) (mid (by rw [kds_len]; omega)) ?_
  walk_at "dd"
  rw [kds_len, eTs_len, show ((S.length : Int) - ((srtB b0).length : Nat)) = ((S.length - (srtB b0).length : Nat) : Int) from by omega]
  refine w_slL hp4 fun p6 n6 => ?_
  refine abs_new n6 fun G6 s6 h6 => ?_
  rw [cutD_to, eTs_map, ← List.map_take, ← eTs_map] at h6
  walk_at "dd"
  refine w_addL h6 (s6 _ _ h5) (mid (by rw [eTs_len, eTs_len, List.length_take]; omega)) ?_
  intro p7 n7
  refine abs_new n7 fun G7 s7 h7 => ?_
  walk_at "dd"
  refine w_slL (by walk_at "gq") fun p8 n8 => ?_
  refine abs_new n8 fun G8 s8 h8 => ?_
  rw [cW] at h8
  refine w_addL (by walk_at "gq") h8 (mid (by rw [eWs_len, eWs_len]; omega)) ?_
  intro p9 n9
  refine abs_new n9 fun G9 s9 h9 => ?_
  walk_at "dd"
  refine Less.of (q1 _ _ rfl p7 p9 G9 (by walk_at "gs") ?_ ?_)
  · rw [s9 _ _ (s8 _ _ h7), eTs_map, eTs_map, eTs_map, List.map_append]
  · rw [h9, eWs_map, eWs_map, eWs_map, List.map_append]
end
end K14
/-! xs == [] of any list -/
namespace DD
open PySem PySem.W L2 SX Cm
section
variable {X : Cx}
def bEqNil : D2 := fun x y G Q => ∃ p q xs, x = .ref p ∧ y = .ref q ∧ G p = some (.lst xs) ∧ G q = some (.lst []) ∧ Q (.bl xs.isEmpty) G
theorem od_eqNil (hu : X.A.units + 64 < cLine) : OpD X (compareOp .Eq) bEqNil := by
  refine ⟨_, op_eqNil hu, fun x y vx vy H G R Q rx ry w h f => ?_⟩
  obtain ⟨p, q, xs, rfl, rfl, e1, e2, h⟩ := h
  cases rx
  cases ry
  obtain ⟨us, h1, r1⟩ := wd_list w e1
  obtain ⟨vs, h2, r2⟩ := wd_list w e2
  cases r2
  exact ⟨_, _, us, rfl, rfl, SqL.of h1, SqL.of h2, by rw [r1.isEmpty]; exact flat_up w f h⟩
theorem w_eqNil {p q : Addr} {xs : List DV} {G : DG} {Q : DK} (e1 : G p = some (.lst xs)) (e2 : G q = some (.lst [])) (h : Q (.bl xs.isEmpty) G) : bEqNil (.ref p) (.ref q) G Q := ⟨p, q, xs, rfl, rfl, e1, e2, h⟩
end
end DD
set_option maxHeartbeats 1000000
namespace K14
open PySem PySem.W L2 SX Cm DD
local macro_rules | `(tactic| walk_at "d1") => `(tactic| first | (with_reducible refine w_go ?_) | ((with_reducible show dVar _ _ _ _); refine w_var rfl ?_) | (with_reducible refine w_exI ?_) | (with_reducible refine w_exB ?_) | (with_reducible refine w_exT ?_) | (with_reducible refine w_exS ?_) | (with_reducible refine w_parE ?_) | (with_reducible refine ly1 ?_) | (with_reducible refine ly2 ?_) | (with_reducible refine lt1' ?_) | (with_reducible refine lt2' ?_) | (with_reducible refine wx_enumT ?_) | (with_reducible refine w_callX ?_) | (with_reducible refine w_methX ?_) | (with_reducible refine w_raise ?_) | (with_reducible refine w_try ?_) | (with_reducible refine w_xSet ?_) | (with_reducible refine w_xExpr ?_) | (with_reducible refine w_xLst ?_) | (with_reducible refine w_xTup ?_) | (with_reducible refine w_xCons ?_) | (with_reducible refine w_xNil ?_) | (with_reducible refine w_xE ?_) | (with_reducible refine w_xCall ?_) | (with_reducible refine w_call0 ?_) | (with_reducible refine w_asgL ?_) | (with_reducible refine w_tupPd ?_) | (with_reducible refine wi_zip ?_) | (with_reducible refine w_delT ?_) | (with_reducible refine w_dc ?_) | (with_reducible refine w_revL ?_) | (with_reducible refine wi_revT ?_) | (with_reducible refine w_lstZip ?_) | (with_reducible refine w_chain ?_) | (with_reducible refine w_orT ?_) | (with_reducible refine w_try0 ?_) | (with_reducible refine w_xAsg ?_) | (with_reducible refine wi_zipTL ?_) | (with_reducible refine wi_zipSL ?_) | ((with_reducible show gT _ _ _ _ _ _); refine g_T ?_ rfl) | ((with_reducible show ∃ p, DV.ref _ = _ ∧ (∃ kvs, _) ∧ _); refine wx_get (by walk_at "gq") ?_) | ((with_reducible show ∃ kvs z, _ = _ ∧ _ = some (DO.dct _) ∧ _); refine wx_get2 (by walk_at "gq") ?_) | ((with_reducible show ∃ p kvs z, _ = _ ∧ _ = _ ∧ _ = some (DO.dct _) ∧ _); refine wx_in (by walk_at "gq") ?_) | ((with_reducible show List.length _ = _ ∧ _); refine w_len ?_ rfl) | ((with_reducible show List.length _ ≤ sizeLine ∧ _); refine w_sz ?_ (szl rfl)) | ((with_reducible show bIx _ (.int _) _ _); first | refine w_ix0 ?_ | refine w_ix1 ?_ | refine w_ix2 ?_ | refine w_ix3 ?_) | ((with_reducible show bIsi [_, _] _ _); first | refine w_isi (by decide) (a := "tuple") rfl rfl ?_ | refine w_isi (by decide) (a := "str") rfl rfl ?_ | refine w_isi (by decide) (a := "int") rfl rfl ?_ | refine w_isi (by decide) (a := "bool") rfl rfl ?_ | refine w_isi (by decide) (a := "NoneType") rfl rfl ?_) | ((with_reducible show ∃ ds, _ = DV.tup ds ∧ _); refine w_exT ?_) | ((with_reducible show ∃ z, _ = DV.str z ∧ _); refine w_exS ?_) | ((with_reducible show ∃ ds, [_] = [DV.tup ds] ∧ _); refine wx_enumT ?_) | ((with_reducible show bSl _ _ _ _ _); refine w_slT ?_) | ((with_reducible show bTuple [_] _ _); refine w_tupT ?_) | ((with_reducible show bLen [_] _ _); refine w_lenT ?_) | ((with_reducible show bTru _ _ _); first | refine w_truT ?_ | refine w_truN ?_ | refine w_truB ?_ | refine w_truI ?_) | ((with_reducible show bEq _ _ _ _ _); first | refine w_eqSS ?_ | refine w_eqII ?_ | refine w_neSS ?_ | refine w_neII ?_ | refine w_eqT0 ?_) | ((with_reducible show bInt _ _ (.int _) (.int _) _ _); refine w_int (by first | decide | exact ⟨by decide, by decide, by decide⟩ | exact .inl ⟨by decide, by decide⟩ | exact .inr ⟨by decide, by decide⟩) ?_) | ((with_reducible show if _ = true then _ else _); first | refine w_it (by first | rfl | decide +kernel) ?_ | refine w_if0 (by first | rfl | decide +kernel) ?_) | ((with_reducible show rcv "list" (.ref _) _ ∧ _); refine w_rcvL (by walk_at "gq") ?_) | ((with_reducible show bTuple [.ref _] _ _); refine w_tupL (by walk_at "gq") ?_) | ((with_reducible show bLen [.ref _] _ _); refine w_lenL (by walk_at "gq") ?_) | ((with_reducible show bTru (.ref _) _ _); refine w_truL (by walk_at "gq") ?_) | ((with_reducible show ∃ _ _, DV.ref _ = _ ∧ Ls _ _ _ ∧ _); refine wx_lst (by walk_at "gq") ?_) | ((with_reducible show ∃ _ _, [DV.ref _] = _ ∧ Ls _ _ _ ∧ _); refine wx_lstA (by walk_at "gq") ?_))
local macro_rules | `(tactic| walk_at "dd") => `(tactic| repeat (walk_at "d1"))
local macro_rules | `(tactic| walk_at "gq") => `(tactic| first | assumption | exact dupd_same | exact sub_get (by assumption) (by walk_at "gq") | exact upd_get (by assumption) (by walk_at "gq") (by walk_at "gn") | exact subx_get (by assumption) (by walk_at "gq") (by walk_at "gn") | (refine (dupd_ne ?_).trans ?_; (focus walk_at "gn"); walk_at "gq"))
local macro_rules | `(tactic| walk_at "gs") => `(tactic| first | assumption | exact Sub.refl _ | exact sub_tr (by assumption) (by walk_at "gs") | exact sub_up (by assumption) (by walk_at "gs") (by walk_at "g0") | exact sub_ux (by assumption) (by walk_at "gs") (by walk_at "g0") | (refine Sub.new ?_ ?_; (focus walk_at "gs"); walk_at "g0"))
local macro_rules | `(tactic| walk_at "gk") => `(tactic| first | assumption | exact db_sub (by assumption) (by walk_at "gk") | exact db_upd (by assumption) (by walk_at "gk") ⟨_, by walk_at "gq"⟩ | exact db_updD (by assumption) (by walk_at "gk") ⟨_, by walk_at "gq"⟩)
local macro_rules | `(tactic| walk_at "gu") => `(tactic| first | assumption | exact Upd.refl _ _ | exact upd_in (by assumption) (by walk_at "gu"))
local macro_rules | `(tactic| walk_at "gx") => `(tactic| first | assumption | exact SubX.refl _ _ | exact subx_sub (by assumption) (by walk_at "gx") | exact subx_upd (by assumption) (by walk_at "gx") | exact subx_tr (by assumption) (by walk_at "gx"))
local macro_rules | `(tactic| walk_at "gn") => `(tactic| first | assumption | exact Ne.symm (by assumption) | exact ne_ns (by assumption) ⟨_, by walk_at "gq"⟩ | exact ne_sn (by assumption) ⟨_, by walk_at "gq"⟩)
local macro_rules | `(tactic| walk_at "g0") => `(tactic| first | assumption | exact nn_ (by assumption) (by walk_at "gs"))
/-- a state not too deep -/
structure SDp (s : Sta) : Prop where
  dS : dpTs s.1 ≤ 200
  dT : dpWs s.2 ≤ 200
  zS : szTs s.1 ≤ 3000
  zT : szWs s.2 ≤ 3000
theorem SDp.of {s : Sta} (h : szTs s.1 + szWs s.2 ≤ 200) : SDp s := ⟨by have := dpTs_sz s.1; omega, by have := dpWs_sz s.2; omega, by omega, by omega⟩
theorem ne_isE (T : List Wo) : (!(eWs T).isEmpty) = decide (T ≠ []) := by cases T <;> rfl
/-- lists that hold states -/
def StAt (G : DG) : List (Addr × Addr) → List Sta → Prop
  | [], [] => True
  | p :: ps, s :: xs => (G p.1 = some (.lst (eTs s.1)) ∧ G p.2 = some (.lst (eWs s.2))) ∧ StAt G ps xs
  | _, _ => False
def rfS (p : Addr × Addr) : DV := .tup [.ref p.1, .ref p.2]
theorem StAt.sub {G G' : DG} (s : DD.Sub G G') : ∀ {ps : List (Addr × Addr)} {xs : List Sta}, StAt G ps xs → StAt G' ps xs
  | [], [], _ => trivial
  | _ :: _, _ :: _, h => ⟨⟨s _ _ h.1.1, s _ _ h.1.2⟩, h.2.sub s⟩
  | [], _ :: _, h => h.elim
  | _ :: _, [], h => h.elim
theorem StAt.len {G : DG} : ∀ {ps : List (Addr × Addr)} {xs : List Sta}, StAt G ps xs → ps.length = xs.length
  | [], [], _ => rfl
  | _ :: _, _ :: _, h => congrArg (· + 1) h.2.len
  | [], _ :: _, h => h.elim
  | _ :: _, [], h => h.elim
theorem StAt.get {G : DG} : ∀ {ps : List (Addr × Addr)} {xs : List Sta} {i : Nat} {s : Sta}, StAt G ps xs → xs[i]? = some s → ∃ p, ps[i]? = some p ∧ G p.1 = some (.lst (eTs s.1)) ∧ G p.2 = some (.lst (eWs s.2))
  | p :: _, _ :: _, 0, _, h, e => by cases e; exact ⟨p, rfl, h.1⟩
  | _ :: _, _ :: _, i + 1, _, h, e => h.2.get (i := i) e
  | [], [], i, _, _, e => by cases e
  | [], _ :: _, _, _, h, _ => h.elim
  | _ :: _, [], _, _, h, _ => h.elim
theorem StAt.snoc {G : DG} {p : Addr × Addr} {s : Sta} (h1 : G p.1 = some (.lst (eTs s.1)) ∧ G p.2 = some (.lst (eWs s.2))) : ∀ {ps : List (Addr × Addr)} {xs : List Sta}, StAt G ps xs → StAt G (ps ++ [p]) (xs ++ [s])
  | [], [], _ => ⟨h1, trivial⟩
  | _ :: _, _ :: _, h => ⟨h.1, StAt.snoc h1 h.2⟩
  | [], _ :: _, h => h.elim
  | _ :: _, [], h => h.elim
theorem rf_neT {S : List Th} {ps : List (Addr × Addr)} (h : ps ≠ []) : eTs S ≠ ps.map rfS := by
  cases ps with
  | nil => exact absurd rfl h
  | cons p r =>
    cases S with
    | nil => exact fun e => nomatch e
    | cons t S =>
      intro e
      have e : eT t :: eTs S = .tup [.ref p.1, .ref p.2] :: r.map rfS := e
      injection e with e1 _
      rw [eT_eq] at e1
      injection e1 with e1
      injection e1 with e1 _
      cases e1
theorem rf_neW {S : List Wo} {ps : List (Addr × Addr)} (h : ps ≠ []) : eWs S ≠ ps.map rfS := by
  cases ps with
  | nil => exact absurd rfl h
  | cons p r =>
    cases S with
    | nil => exact fun e => nomatch e
    | cons t S =>
      intro e
      have e : eW t :: eWs S = .tup [.ref p.1, .ref p.2] :: r.map rfS := e
      injection e with e1 _
      cases t with
      | txt z => cases e1
      | push t =>
        have e1 : DV.tup [.str "push", eT t] = .tup [.ref p.1, .ref p.2] := e1
        injection e1 with e1
        injection e1 with e1 _
        cases e1
theorem lst_ne {G : DG} {a f : Addr} {xs ys : List DV} (h1 : G a = some (.lst xs)) (h2 : G f = some (.lst ys)) (n : xs ≠ ys) : a ≠ f := fun e => by
  rw [e, h2] at h1
  injection h1 with h1
  injection h1 with h1
  exact n h1.symm
theorem StAt.upd {G G' : DG} {f : Addr} {ps0 : List (Addr × Addr)} (u : Upd G f G') (hf : G f = some (.lst (ps0.map rfS))) (n : ps0 ≠ []) : ∀ {ps : List (Addr × Addr)} {xs : List Sta}, StAt G ps xs → StAt G' ps xs
  | [], [], _ => trivial
  | p :: _, _ :: _, h => ⟨⟨(u _ (lst_ne h.1.1 hf (rf_neT n))).trans h.1.1, (u _ (lst_ne h.1.2 hf (rf_neW n))).trans h.1.2⟩, StAt.upd u hf n h.2⟩
  | [], _ :: _, h => h.elim
  | _ :: _, [], h => h.elim
theorem hu64_ {k : Nat} {A : Around} (h : Room k A) : A.units + 64 < cLine := by have := h.un; omega
section
variable {P : Program} {w : World} {K : Frag} {mg : Str → Option Value} {base : Heap}
def SP_play : DSp := fun ds G R => ∃ p q S T bk m, ∃ most : Nat, ds = [.ref p, .ref q, .tup (eBk bk), .int (most : Int)] ∧ most ≤ 100 ∧ dpTs S ≤ 60 ∧ dpWs T ≤ 60 ∧ G p = some (.lst (eTs S)) ∧ G q = some (.lst (eWs T)) ∧ SOk (S, T) ∧ SDp (S, T) ∧ BokOk m bk ∧ m ≤ 1000 ∧
  ∀ z (n : Int) p' q' S' T' G', DD.Sub G G' → G' p' = some (.lst (eTs S')) → G' q' = some (.lst (eWs T')) → SOk (S', T') → SDp (S', T') → R (.tup [.str z, .int n, .tup [.ref p', .ref q']]) G'
def SP_lst : DSp := fun ds G R => ∃ p q S T bk m, ∃ most : Nat, ds = [.ref p, .ref q, .tup (eBk bk), .int (most : Int)] ∧ G p = some (.lst (eTs S)) ∧ G q = some (.lst (eWs T)) ∧ SOk (S, T) ∧ SDp (S, T) ∧ BokOk m bk ∧ m ≤ 1000 ∧ most ≤ 10000 ∧
  ∀ f b ps xs G', DD.Sub G G' → G' f = some (.lst (ps.map rfS)) → StAt G' ps xs → Chn bk xs → xs[0]? = some (S, T) → xs.length ≤ most + 2 → (b = true → ∀ i s, i + 1 = xs.length → xs[i]? = some s → stepF bk s.1 s.2 = none) → (∀ s ∈ xs, SDp s ∧ szTs s.1 ≤ max (szTs S) 200) → R (.tup [.ref f, .bl b]) G'
abbrev N_L_play : List Str := ["_law_stack", "_law_todo", "_law_book_here", "_law_most", "_law_steps", "_law_later"]
abbrev A_L_play : List Str := ["_law_stack", "_law_todo", "_law_book_here", "_law_most"]
theorem sc_L_play : FnScope N_L_play A_L_play (defScope s_L_play) := ⟨rfl, rfl, rfl, by decide +kernel, rfl, by decide +kernel, by decide +kernel⟩
theorem h_L_play (a : At K mg "_law_play" s_L_play A_L_play) (B : BI mg) (c_L_step : Has P w K mg base 2 "_law_step" A_L_step SP_stp) (c_L_size : Has P w K mg base 211 "_law_size" A_L_size (SP_size 210)) : Has P w K mg base 212 "_law_play" A_L_play SP_play := by
  refine at_mk a sc_L_play fun f cdv A outer s H E hr ds G R hl h => ?_
  refine ⟨_, (dss_cons (ds_set (i := 4) sc_L_play.nd rfl (.inl rfl) de_int)
    (dss_cut (ds_while PassesOwn.never (dt_w (dw_and (dt_cmp (od_neNil (hu64_ hr)) (dv 1) (de_lst da_nil) (nomark _)) (dw_and1 (dt_cmp od_lt (dv 4) (dv 3) (nomark _))))) (dss_cons (ds_set (i := 5) sc_L_play.nd rfl (.inl rfl) (de_call c_L_step (hr.mono (by omega)) rfl (da_cons (dv 0) (da_cons (dv 1) (da_cons (dv 2) da_nil)))))
      (dss_cons (ds_if (dt_cmp od_is (dv 5) de_non (nomark _)) (dss_one (ds_ret (de_tup (da_cons de_str (da_cons (dv 4) (da_cons (de_tup (da_cons (dv 0) (da_cons (dv 1) da_nil))) da_nil)))))) dss_nil)
      (dss_cons (ds_if (dt_cmp od_gt (de_call c_L_size (hr.mono (by omega)) rfl (da_cons (de_op od_add (de_ix (dv 5) de_int) (de_lst (da_cons (de_tup (da_cons de_str (da_cons (de_callTy cd_tuple B.tup rfl (by decide +kernel) (da_cons (de_ix (dv 5) de_int) da_nil)) da_nil))) da_nil))) da_nil)) de_int (nomark _)) (dss_one (ds_ret (de_tup (da_cons de_str (da_cons (dv 4) (da_cons (de_tup (da_cons (dv 0) (da_cons (dv 1) da_nil))) da_nil)))))) dss_nil)
      (dss_cons (ds_asg (dv 5) (dg_tup rfl (dgs_cons (dg_name (i := 0) sc_L_play.nd rfl (.inl rfl)) (dgs_cons (dg_name (i := 1) sc_L_play.nd rfl (.inl rfl)) dgs_nil))))
      (dss_one (ds_set (i := 4) sc_L_play.nd rfl (.inl rfl) (de_op od_add (dv 4) de_int))))))))
    (dss_one (ds_ret (de_tup (da_cons (de_ix (de_lst (da_cons de_str (da_cons de_str da_nil))) (de_callTy cd_int B.int rfl (by decide +kernel) (da_cons (de_cmp (od_eqNil (hu64_ hr)) (dv 1) (de_lst da_nil) (nomark _)) da_nil))) (da_cons (dv 4) (da_cons (de_tup (da_cons (dv 0) (da_cons (dv 1) da_nil))) da_nil)))))))), ?_⟩
  obtain ⟨p, q, S, T, bk, m, most, rfl, lm, d60, t60, hp, hq, ok, dp, bok, hm, qq⟩ := h
  walk_at "dd"
  refine w_cut (fun δ' G' => ∃ (i : Nat) (p' q' : Addr) (S' : List Th) (T' : List Wo) (x5 : Option DV), δ' = [some (.ref p'), some (.ref q'), some (.tup (eBk bk)), some (.int (most : Int)), some (.int ((i : Nat) : Int)), x5] ∧ DD.Sub G G' ∧ G' p' = some (.lst (eTs S')) ∧ G' q' = some (.lst (eWs T')) ∧ SOk (S', T') ∧ SDp (S', T')) ?_ ?_
  · refine w_while (fun w δ G' => ∃ (i : Nat) (p' q' : Addr) (S' : List Th) (T' : List Wo) (x5 : Option DV), w = most - i ∧ i ≤ most ∧ dpTs S' ≤ 60 + i ∧ dpWs T' ≤ 60 + i ∧ δ = [some (.ref p'), some (.ref q'), some (.tup (eBk bk)), some (.int (most : Int)), some (.int ((i : Nat) : Int)), x5] ∧ DD.Sub G G' ∧ G' p' = some (.lst (eTs S')) ∧ G' q' = some (.lst (eWs T')) ∧ SOk (S', T') ∧ SDp (S', T')) _ ⟨0, p, q, S, T, none, rfl, Nat.zero_le _, by omega, by omega, rfl, Sub.refl _, hp, hq, ok, dp⟩ ?_
    clear hp hq ok dp
    rintro w δ G1 ⟨i, p', q', S', T', x5, rfl, im, dI, tI, rfl, sG, hp, hq, ok, dp⟩
    walk_at "dd"
    intro pe ne
    refine abs_new ne fun G2 s2 h2 => ?_
    refine w_neNil (s2 _ _ hq) h2 ?_
    have hp2 := s2 _ _ hp
    have hq2 := s2 _ _ hq
    have sG2 := sG.trans s2
    rw [ne_isE]
    walk_at "dd"
    by_cases hT : T' = []
    · refine w_if0 (decide_eq_false fun h => h hT) ?_
      walk_at "dd"
      exact ⟨i, p', q', S', T', x5, rfl, sG2, hp2, hq2, ok, dp⟩
    refine w_it (decide_eq_true hT) ?_
    walk_at "dd"
    by_cases hi : most ≤ i
    · refine w_if0 (decide_eq_false (by omega)) ?_
      walk_at "dd"
      exact ⟨i, p', q', S', T', x5, rfl, sG2, hp2, hq2, ok, dp⟩
    refine w_it (decide_eq_true (by omega)) ?_
    walk_at "dd"
    refine ⟨p', q', S', T', bk, m, rfl, hp2, hq2, hT, ok, bok, by omega, fun e => ?_, fun S2 T2 e q1 q2 G3 s3 h3 h4 => ?_⟩
    · walk_at "dd"
      refine w_it (decide_eq_true rfl) ?_
      walk_at "dd"
      exact Less.of (qq _ _ p' q' S' T' G2 sG2 hp2 hq2 ok dp)
    walk_at "dd"
    refine w_if0 (decide_eq_false (fun z => nomatch z)) ?_
    walk_at "dd"
    obtain ⟨g1, g2, z1, d1, d2⟩ := stepF_ok bok ok.gT ok.gS e
    have e1 : szTs S' ≤ 3000 := dp.zS
    have e2 : szWs T' ≤ 3000 := dp.zT
    have l1 := szTs_len S2
    have z1 : szTs S2 + szWs T2 ≤ 13 * szTs S' + 2 * szWs T' + m + 10 := z1
    have d1 : dpTs S2 ≤ max (dpTs S' + 1) (dpWs T') := d1
    have d2 : dpWs T2 ≤ max (max (dpTs S' + 1) 10) (dpWs T') := d2
    intro p6 n6
    refine abs_new n6 fun G6 s6 h6 => ?_
    have h6 : G6 p6 = some (.lst (eTs [.row T2])) := h6
    refine w_addL (s6 _ _ h3) h6 (mid (by rw [eTs_len]; show S2.length + 1 ≤ 1000000; omega)) ?_
    intro p7 n7
    refine abs_new n7 fun G7 s7 h7 => ?_
    have h7 : G7 p7 = some (.lst (eTs (S2 ++ [.row T2]))) := by rw [h7, eTs_map, eTs_map, eTs_map, List.map_append]
    have zz : szTs (S2 ++ [.row T2]) = szTs S2 + (1 + szWs T2) := by rw [szTs_app]; rfl
    have dd : dpTs (S2 ++ [.row T2]) = max (dpTs S2) (1 + dpWs T2) := by rw [dpTs_app]; show max (dpTs S2) (max (1 + dpWs T2) 0) = _; omega
    walk_at "dd"
    refine .inl ⟨_, S2 ++ [.row T2], rfl, .inr ⟨p7, rfl, h7⟩, by omega, by omega, ?_⟩
    walk_at "dd"
    by_cases hb : (300 : Int) < (szTs (S2 ++ [.row T2]) : Nat)
    · refine w_it (decide_eq_true hb) ?_
      walk_at "dd"
      exact Less.of (qq _ _ p' q' S' T' G7 (by walk_at "gs") (by walk_at "gq") (by walk_at "gq") ok dp)
    refine w_if0 (decide_eq_false hb) ?_
    walk_at "dd"
    have hw : most - (i + 1) < most - i := by omega
    have zz2 : szTs S2 + szWs T2 ≤ 300 := by omega
    exact ⟨_, hw, i + 1, q1, q2, S2, T2, _, rfl, by omega, by omega, by omega, rfl, by walk_at "gs", by walk_at "gq", by walk_at "gq", ⟨g1, g2, by show szTs S2 ≤ 20000; omega, by show szWs T2 ≤ 20000; omega⟩, ⟨by show dpTs S2 ≤ 200; omega, by show dpWs T2 ≤ 200; omega, by show szTs S2 ≤ 3000; omega, by show szWs T2 ≤ 3000; omega⟩⟩
  rintro δ' G1 ⟨i, p', q', S', T', x5, rfl, sG, hp, hq, ok, dp⟩
  walk_at "dd"
  intro p1 n1
  refine abs_new n1 fun G2 s2 h2 => ?_
  walk_at "dd"
  intro p3 n3
  refine abs_new n3 fun G3 s3 h3 => ?_
  refine w_eqNil (by walk_at "gq") h3 ?_
  walk_at "dd"
  have h2 : G2 p1 = some (.lst [.str "on", .str "ended"]) := h2
  obtain ⟨zr, hz⟩ : ∃ z : Str, atI [DV.str "on", .str "ended"] (if (eWs T').isEmpty = true then 1 else 0) = some (.str z) := by cases (eWs T').isEmpty <;> exact ⟨_, rfl⟩
  refine w_ixL (by walk_at "gq") hz ?_
  walk_at "dd"
  exact Less.of (qq _ _ p' q' S' T' _ (by walk_at "gs") (by walk_at "gq") (by walk_at "gq") ok dp)
abbrev N_L_states : List Str := ["_law_stack", "_law_row", "_law_book_here", "_law_most", "_law_found", "_law_later"]
abbrev A_L_states : List Str := ["_law_stack", "_law_row", "_law_book_here", "_law_most"]
theorem sc_L_states : FnScope N_L_states A_L_states (defScope s_L_states) := ⟨rfl, rfl, rfl, by decide +kernel, rfl, by decide +kernel, by decide +kernel⟩
theorem h_L_states (a : At K mg "_law_states" s_L_states A_L_states) (B : BI mg) (c_L_step : Has P w K mg base 2 "_law_step" A_L_step SP_stp) (c_L_size : Has P w K mg base 211 "_law_size" A_L_size (SP_size 210)) : Has P w K mg base 212 "_law_states" A_L_states SP_lst := by
  refine at_mk a sc_L_states fun f cdv A outer s H E hr ds G R hl h => ?_
  refine ⟨_, (dss_cons (ds_set (i := 4) sc_L_states.nd rfl (.inl rfl) (de_lst (da_cons (de_tup (da_cons (dv 0) (da_cons (dv 1) da_nil))) da_nil)))
    (dss_cons (ds_while PassesOwn.never (dt_w (dw_and (dt_cmp (od_neNil (hu64_ hr)) (de_ix (de_ix (dv 4) (de_neg de_int)) de_int) (de_lst da_nil) (nomark _)) (dw_and1 (dt_cmp od_le (de_callB cd_len B.len rfl (by decide +kernel) (da_cons (dv 4) da_nil)) (dv 3) (nomark _))))) (dss_cons (ds_set (i := 5) sc_L_states.nd rfl (.inl rfl) (de_call c_L_step (hr.mono (by omega)) rfl (da_cons (de_ix (de_ix (dv 4) (de_neg de_int)) de_int) (da_cons (de_ix (de_ix (dv 4) (de_neg de_int)) de_int) (da_cons (dv 2) da_nil)))))
      (dss_cons (ds_if (dt_cmp od_is (dv 5) de_non (nomark _)) (dss_one (ds_ret (de_tup (da_cons (dv 4) (da_cons de_bl da_nil))))) dss_nil)
      (dss_cons (ds_if (dt_cmp od_gt (de_op od_add (de_call c_L_size (hr.mono (by omega)) rfl (da_cons (de_ix (dv 5) de_int) da_nil)) (de_call c_L_size (hr.mono (by omega)) rfl (da_cons (de_lst (da_cons (de_tup (da_cons de_str (da_cons (de_callTy cd_tuple B.tup rfl (by decide +kernel) (da_cons (de_ix (dv 5) de_int) da_nil)) da_nil))) da_nil)) da_nil))) de_int (nomark _)) (dss_one (ds_ret (de_tup (da_cons (dv 4) (da_cons de_bl da_nil))))) dss_nil)
      (dss_one (ds_expr (de_bm PySem.F.plainAttrs_list PySem.F.slot_list_append PySem.F.type_list_append md_append (dv 4) (da_cons (dv 5) da_nil))))))))
    (dss_one (ds_ret (de_tup (da_cons (dv 4) (da_cons de_bl da_nil))))))), ?_⟩
  obtain ⟨p, q, S, T, bk, m, most, rfl, hp, hq, ok, dp, bok, hm, hmost, qq⟩ := h
  walk_at "dd"
  intro f nf
  refine abs_new nf fun G1 s1 hf => ?_
  have hf : G1 f = some (.lst ([(p, q)].map rfS)) := hf
  walk_at "dd"
  refine w_while (fun w δ G' => ∃ (ps : List (Addr × Addr)) (xs : List Sta) (pp : Addr × Addr) (s : Sta) (ps' : List (Addr × Addr)) (xs' : List Sta) (x5 : Option DV), w = most + 2 - xs.length ∧ ps = ps' ++ [pp] ∧ xs = xs' ++ [s] ∧ δ = [some (.ref p), some (.ref q), some (.tup (eBk bk)), some (.int (most : Int)), some (.ref f), x5] ∧ DD.Sub G G' ∧ G' f = some (.lst (ps.map rfS)) ∧ StAt G' ps xs ∧ Chn bk xs ∧ xs[0]? = some (S, T) ∧ xs.length ≤ most + 2 ∧ (∀ s ∈ xs, SDp s ∧ szTs s.1 ≤ max (szTs S) 200)) _ ⟨[(p, q)], [(S, T)], (p, q), (S, T), [], [], none, rfl, rfl, rfl, rfl, s1, hf, ⟨⟨s1 _ _ hp, s1 _ _ hq⟩, trivial⟩, ⟨fun i s s' h1 h2 => (nomatch h2), fun s hs => by rw [List.mem_singleton.mp hs]; exact ok⟩, rfl, by show 1 ≤ most + 2; omega, fun s hs => by rw [List.mem_singleton.mp hs]; exact ⟨dp, by show szTs S ≤ _; omega⟩⟩ ?_
  clear hf hp hq s1
  rintro w δ G1 ⟨ps, xs, ⟨a1, a2⟩, ⟨S1, T1⟩, ps', xs', x5, rfl, eps, exs, rfl, sG, hf, hst, ch, h0, lx, dx⟩
  have hx : xs[xs'.length]? = some (S1, T1) := by rw [exs, List.getElem?_append_right (Nat.le_refl _), Nat.sub_self]; rfl
  have lxs : xs.length = xs'.length + 1 := by rw [exs, List.length_append]; rfl
  obtain ⟨pa, hpa, h1, h2⟩ := hst.get hx
  have lps := hst.len
  have epa : pa = (a1, a2) := by
    rw [eps] at lps hpa
    rw [List.length_append] at lps
    have : ps'.length = xs'.length := by show ps'.length = xs'.length; have : ([(a1, a2)] : List (Addr × Addr)).length = 1 := rfl; omega
    rw [List.getElem?_append_right (by omega), this, Nat.sub_self] at hpa
    exact (Option.some.inj hpa).symm
  subst epa
  have h1 : G1 a1 = some (.lst (eTs S1)) := h1
  have h2 : G1 a2 = some (.lst (eWs T1)) := h2
  have hlast : ps.map rfS = ps'.map rfS ++ [.tup [.ref a1, .ref a2]] := by rw [eps, List.map_append]; rfl
  have fin : ∀ b G3, DD.Sub G1 G3 → (b = true → stepF bk S1 T1 = none) → Less R (.tup [.ref f, .bl b]) G3 := fun b G3 s3 hb => Less.of (qq f b ps xs G3 (sG.trans s3) (s3 _ _ hf) (hst.sub s3) ch h0 lx (fun e i s hi hs => by
    have : i = xs'.length := by omega
    rw [this, hx] at hs
    cases hs
    exact hb e) dx)
  have ok1 := ch.ok _ (List.mem_of_getElem? hx)
  obtain ⟨dp1, zz1⟩ := dx _ (List.mem_of_getElem? hx)
  walk_at "dd"
  rw [hlast] at hf
  refine w_ixL hf atI_end ?_
  walk_at "dd"
  intro pe ne
  refine abs_new ne fun G2 s2 he2 => ?_
  refine w_neNil (s2 _ _ h2) he2 ?_
  rw [ne_isE]
  walk_at "dd"
  by_cases hT : T1 = []
  · refine w_if0 (decide_eq_false fun h => h hT) ?_
    walk_at "dd"
    exact fin false G2 s2 (fun z => nomatch z)
  refine w_it (decide_eq_true hT) ?_
  walk_at "dd"
  have hf2 := s2 _ _ hf
  have lf : (ps'.map rfS ++ [DV.tup [.ref a1, .ref a2]]).length = xs.length := by rw [← hlast, List.length_map, lps]
  rw [lf]
  by_cases hi : most < xs.length
  · refine w_if0 (decide_eq_false (by omega)) ?_
    walk_at "dd"
    exact fin false G2 s2 (fun z => nomatch z)
  refine w_it (decide_eq_true (by omega)) ?_
  walk_at "dd"
  refine w_ixL hf2 atI_end ?_
  walk_at "dd"
  refine w_ixL hf2 atI_end ?_
  walk_at "dd"
  refine ⟨a1, a2, S1, T1, bk, m, rfl, s2 _ _ h1, s2 _ _ h2, hT, ok1, bok, by omega, fun e => ?_, fun S2 T2 e q1 q2 G3 s3 h3 h4 => ?_⟩
  · walk_at "dd"
    refine w_it (decide_eq_true rfl) ?_
    walk_at "dd"
    exact fin true G2 s2 (fun _ => e)
  walk_at "dd"
  refine w_if0 (decide_eq_false (fun z => nomatch z)) ?_
  walk_at "dd"
  obtain ⟨g1, g2, z1, d1, d2⟩ := stepF_ok bok ok1.gT ok1.gS e
  have e1 : szTs S1 ≤ 3000 := dp1.zS
  have e2 : szWs T1 ≤ 3000 := dp1.zT
  have e3 : dpTs S1 ≤ 200 := dp1.dS
  have e4 : dpWs T1 ≤ 200 := dp1.dT
  have z1 : szTs S2 + szWs T2 ≤ 13 * szTs S1 + 2 * szWs T1 + m + 10 := z1
  have d1 : dpTs S2 ≤ max (dpTs S1 + 1) (dpWs T1) := d1
  have d2 : dpWs T2 ≤ max (max (dpTs S1 + 1) 10) (dpWs T1) := d2
  refine .inl ⟨_, S2, rfl, .inr ⟨q1, rfl, h3⟩, by omega, by omega, ?_⟩
  walk_at "dd"
  intro p6 n6
  refine abs_new n6 fun G6 s6 h6 => ?_
  have h6 : G6 p6 = some (.lst (eTs [.row T2])) := h6
  walk_at "dd"
  have zz : szTs [.row T2] = 1 + szWs T2 := rfl
  have dd : dpTs [.row T2] = max (1 + dpWs T2) 0 := rfl
  refine .inl ⟨_, [.row T2], rfl, .inr ⟨p6, rfl, h6⟩, by omega, by omega, ?_⟩
  walk_at "dd"
  have s36 : DD.Sub G1 G6 := by walk_at "gs"
  by_cases hb : (200 : Int) < (szTs S2 : Nat) + (szTs [.row T2] : Nat)
  · refine w_it (decide_eq_true hb) ?_
    walk_at "dd"
    exact fin false G6 s36 (fun z => nomatch z)
  refine w_if0 (decide_eq_false hb) ?_
  walk_at "dd"
  have hf6 : G6 f = some (.lst (ps.map rfS)) := by rw [hlast]; exact s36 _ _ hf
  refine w_app hf6 (midlt (by rw [List.length_map]; omega)) ?_
  have h36 := s6 _ _ h3
  have h46 := s6 _ _ h4
  have hst6 : StAt G6 (ps ++ [(q1, q2)]) (xs ++ [(S2, T2)]) := StAt.snoc ⟨h36, h46⟩ (hst.sub s36)
  have zz2 : szTs S2 + szWs T2 ≤ 200 := by omega
  refine abs_upd hf6 fun G7 u7 h7 => ?_
  walk_at "dd"
  have hw : most + 2 - (xs ++ [(S2, T2)]).length < most + 2 - xs.length := by rw [List.length_append]; show most + 2 - (xs.length + 1) < _; omega
  have nps : ps ≠ [] := by rw [eps]; exact fun z => by cases ps' <;> cases z
  have sG6 : DD.Sub G G6 := by walk_at "gs"
  have h7 : G7 f = some (.lst ((ps ++ [(q1, q2)]).map rfS)) := by rw [h7, List.map_append]; rfl
  refine ⟨_, hw, ps ++ [(q1, q2)], xs ++ [(S2, T2)], (q1, q2), (S2, T2), ps, xs, _, rfl, rfl, rfl, rfl, sub_up u7 sG6 nf, h7, hst6.upd u7 hf6 nps, ⟨fun i s s' hs hs' => ?_, fun s hs => ?_⟩, ?_, by rw [List.length_append]; show xs.length + 1 ≤ most + 2; omega, fun s hs => ?_⟩
  · by_cases hi : i + 1 < xs.length
    · rw [List.getElem?_append_left hi] at hs'
      rw [List.getElem?_append_left (by omega)] at hs
      exact ch.nx i s s' hs hs'
    · have hl := (List.getElem?_eq_some_iff.mp hs').1
      rw [List.length_append] at hl
      have hl : i + 1 < xs.length + 1 := hl
      have ei : i = xs'.length := by omega
      rw [ei, List.getElem?_append_left (by omega), hx] at hs
      rw [List.getElem?_append_right (by omega), show i + 1 - xs.length = 0 from by omega] at hs'
      cases hs; cases hs'
      exact e
  · rcases List.mem_append.mp hs with hs | hs
    · exact ch.ok s hs
    · rw [List.mem_singleton.mp hs]; exact ⟨g1, g2, by show szTs S2 ≤ 20000; omega, by show szWs T2 ≤ 20000; omega⟩
  · rw [List.getElem?_append_left (by omega)]; exact h0
  · rcases List.mem_append.mp hs with hs | hs
    · exact dx s hs
    · rw [List.mem_singleton.mp hs]; exact ⟨SDp.of (show szTs S2 + szWs T2 ≤ 200 by omega), by show szTs S2 ≤ _; omega⟩
end
end K14
/-! the lesser of two numbers -/
namespace DD
open PySem PySem.W L2 SX Cm
section
variable {X : Cx}
def bMin : DC := fun ds G Q => ∃ i j : Int, ds = [.int i, .int j] ∧ Q (.int (if j < i then j else i)) G
theorem cd_min2 (hc : X.calm = true) : CallD X (.builtin "min") bMin := by
  refine ⟨_, call_min2 hc, fun ds vs H G R Q r w ⟨i, j, e, q⟩ f => ?_⟩
  subst e
  cases r with
  | cons r1 r2 =>
    cases r2 with
    | cons r2 r3 =>
      cases r3
      cases r1
      cases r2
      exact ⟨i, j, rfl, f _ G _ H q (TKs.refl H) w (.int _)⟩
theorem w_min {i j : Int} {G : DG} {Q : DK} (h : Q (.int (if j < i then j else i)) G) : bMin [.int i, .int j] G Q := ⟨i, j, rfl, h⟩
end
end DD
set_option maxHeartbeats 1000000
namespace K14
open PySem PySem.W L2 SX Cm DD
local macro_rules | `(tactic| walk_at "d1") => `(tactic| first | (with_reducible refine w_go ?_) | ((with_reducible show dVar _ _ _ _); refine w_var rfl ?_) | (with_reducible refine w_exI ?_) | (with_reducible refine w_exB ?_) | (with_reducible refine w_exT ?_) | (with_reducible refine w_exS ?_) | (with_reducible refine w_parE ?_) | (with_reducible refine ly1 ?_) | (with_reducible refine ly2 ?_) | (with_reducible refine lt1' ?_) | (with_reducible refine lt2' ?_) | (with_reducible refine wx_enumT ?_) | (with_reducible refine w_callX ?_) | (with_reducible refine w_methX ?_) | (with_reducible refine w_raise ?_) | (with_reducible refine w_try ?_) | (with_reducible refine w_xSet ?_) | (with_reducible refine w_xExpr ?_) | (with_reducible refine w_xLst ?_) | (with_reducible refine w_xTup ?_) | (with_reducible refine w_xCons ?_) | (with_reducible refine w_xNil ?_) | (with_reducible refine w_xE ?_) | (with_reducible refine w_xCall ?_) | (with_reducible refine w_call0 ?_) | (with_reducible refine w_asgL ?_) | (with_reducible refine w_tupPd ?_) | (with_reducible refine wi_zip ?_) | (with_reducible refine w_delT ?_) | (with_reducible refine w_dc ?_) | (with_reducible refine w_revL ?_) | (with_reducible refine wi_revT ?_) | (with_reducible refine w_lstZip ?_) | (with_reducible refine w_chain ?_) | (with_reducible refine w_orT ?_) | (with_reducible refine w_try0 ?_) | (with_reducible refine w_xAsg ?_) | (with_reducible refine wi_zipTL ?_) | (with_reducible refine wi_zipSL ?_) | ((with_reducible show gT _ _ _ _ _ _); refine g_T ?_ rfl) | ((with_reducible show ∃ p, DV.ref _ = _ ∧ (∃ kvs, _) ∧ _); refine wx_get (by walk_at "gq") ?_) | ((with_reducible show ∃ kvs z, _ = _ ∧ _ = some (DO.dct _) ∧ _); refine wx_get2 (by walk_at "gq") ?_) | ((with_reducible show ∃ p kvs z, _ = _ ∧ _ = _ ∧ _ = some (DO.dct _) ∧ _); refine wx_in (by walk_at "gq") ?_) | ((with_reducible show List.length _ = _ ∧ _); refine w_len ?_ rfl) | ((with_reducible show List.length _ ≤ sizeLine ∧ _); refine w_sz ?_ (szl rfl)) | ((with_reducible show bIx _ (.int _) _ _); first | refine w_ix0 ?_ | refine w_ix1 ?_ | refine w_ix2 ?_ | refine w_ix3 ?_) | ((with_reducible show bIsi [_, _] _ _); first | refine w_isi (by decide) (a := "tuple") rfl rfl ?_ | refine w_isi (by decide) (a := "str") rfl rfl ?_ | refine w_isi (by decide) (a := "int") rfl rfl ?_ | refine w_isi (by decide) (a := "bool") rfl rfl ?_ | refine w_isi (by decide) (a := "NoneType") rfl rfl ?_) | ((with_reducible show ∃ ds, _ = DV.tup ds ∧ _); refine w_exT ?_) | ((with_reducible show ∃ z, _ = DV.str z ∧ _); refine w_exS ?_) | ((with_reducible show ∃ ds, [_] = [DV.tup ds] ∧ _); refine wx_enumT ?_) | ((with_reducible show bSl _ _ _ _ _); refine w_slT ?_) | ((with_reducible show bTuple [_] _ _); refine w_tupT ?_) | ((with_reducible show bLen [_] _ _); refine w_lenT ?_) | ((with_reducible show bTru _ _ _); first | refine w_truT ?_ | refine w_truN ?_ | refine w_truB ?_ | refine w_truI ?_) | ((with_reducible show bEq _ _ _ _ _); first | refine w_eqSS ?_ | refine w_eqII ?_ | refine w_neSS ?_ | refine w_neII ?_ | refine w_eqT0 ?_) | ((with_reducible show bInt _ _ (.int _) (.int _) _ _); refine w_int (by first | decide | exact ⟨by decide, by decide, by decide⟩ | exact .inl ⟨by decide, by decide⟩ | exact .inr ⟨by decide, by decide⟩) ?_) | ((with_reducible show if _ = true then _ else _); first | refine w_it (by first | rfl | decide +kernel) ?_ | refine w_if0 (by first | rfl | decide +kernel) ?_) | ((with_reducible show rcv "list" (.ref _) _ ∧ _); refine w_rcvL (by walk_at "gq") ?_) | ((with_reducible show bTuple [.ref _] _ _); refine w_tupL (by walk_at "gq") ?_) | ((with_reducible show bLen [.ref _] _ _); refine w_lenL (by walk_at "gq") ?_) | ((with_reducible show bTru (.ref _) _ _); refine w_truL (by walk_at "gq") ?_) | ((with_reducible show ∃ _ _, DV.ref _ = _ ∧ Ls _ _ _ ∧ _); refine wx_lst (by walk_at "gq") ?_) | ((with_reducible show ∃ _ _, [DV.ref _] = _ ∧ Ls _ _ _ ∧ _); refine wx_lstA (by walk_at "gq") ?_))
local macro_rules | `(tactic| walk_at "dd") => `(tactic| repeat (walk_at "d1"))
local macro_rules | `(tactic| walk_at "gq") => `(tactic| first | assumption | exact dupd_same | exact sub_get (by assumption) (by walk_at "gq") | exact upd_get (by assumption) (by walk_at "gq") (by walk_at "gn") | exact subx_get (by assumption) (by walk_at "gq") (by walk_at "gn") | (refine (dupd_ne ?_).trans ?_; (focus walk_at "gn"); walk_at "gq"))
local macro_rules | `(tactic| walk_at "gs") => `(tactic| first | assumption | exact Sub.refl _ | exact sub_tr (by assumption) (by walk_at "gs") | exact sub_up (by assumption) (by walk_at "gs") (by walk_at "g0") | exact sub_ux (by assumption) (by walk_at "gs") (by walk_at "g0") | (refine Sub.new ?_ ?_; (focus walk_at "gs"); walk_at "g0"))
local macro_rules | `(tactic| walk_at "gk") => `(tactic| first | assumption | exact db_sub (by assumption) (by walk_at "gk") | exact db_upd (by assumption) (by walk_at "gk") ⟨_, by walk_at "gq"⟩ | exact db_updD (by assumption) (by walk_at "gk") ⟨_, by walk_at "gq"⟩)
local macro_rules | `(tactic| walk_at "gu") => `(tactic| first | assumption | exact Upd.refl _ _ | exact upd_in (by assumption) (by walk_at "gu"))
local macro_rules | `(tactic| walk_at "gx") => `(tactic| first | assumption | exact SubX.refl _ _ | exact subx_sub (by assumption) (by walk_at "gx") | exact subx_upd (by assumption) (by walk_at "gx") | exact subx_tr (by assumption) (by walk_at "gx"))
local macro_rules | `(tactic| walk_at "gn") => `(tactic| first | assumption | exact Ne.symm (by assumption) | exact ne_ns (by assumption) ⟨_, by walk_at "gq"⟩ | exact ne_sn (by assumption) ⟨_, by walk_at "gq"⟩)
local macro_rules | `(tactic| walk_at "g0") => `(tactic| first | assumption | exact nn_ (by assumption) (by walk_at "gs"))
theorem acc_ws {P : Wo → Prop} : ∀ {acc : List DV}, (∀ (i : Nat) y, acc[i]? = some y → ∃ t, y = eW t ∧ P t) → ∃ ts, acc = eWs ts ∧ ∀ t ∈ ts, P t
  | [], _ => ⟨[], rfl, fun _ h => nomatch h⟩
  | y :: r, h => by
    obtain ⟨t, e, p⟩ := h 0 y rfl
    obtain ⟨ts, e2, p2⟩ := acc_ws (P := P) (acc := r) fun i z hz => h (i + 1) z hz
    exact ⟨t :: ts, by rw [e, e2]; rfl, fun x hx => by
      rcases List.mem_cons.mp hx with rfl | hx
      · exact p
      · exact p2 x hx⟩
theorem acc_ts {P : Th → Prop} : ∀ {acc : List DV}, (∀ (i : Nat) y, acc[i]? = some y → ∃ t, y = eT t ∧ P t) → ∃ ts, acc = eTs ts ∧ ∀ t ∈ ts, P t
  | [], _ => ⟨[], rfl, fun _ h => nomatch h⟩
  | y :: r, h => by
    obtain ⟨t, e, p⟩ := h 0 y rfl
    obtain ⟨ts, e2, p2⟩ := acc_ts (P := P) (acc := r) fun i z hz => h (i + 1) z hz
    exact ⟨t :: ts, by rw [e, e2]; rfl, fun x hx => by
      rcases List.mem_cons.mp hx with rfl | hx
      · exact p
      · exact p2 x hx⟩
/-- rows and things that are put into a row -/
structure Wk (m j : Nat) (ws : List Wo) : Prop where
  g : gdWs ws
  z : szWs ws ≤ m
  d : dpWs ws ≤ j
theorem Wk.of {j n : Nat} {ws : List Wo} (h : ∀ w ∈ ws, DW j w) (l : ws.length ≤ n) : Wk (n * (1 + BT j)) j ws := by
  obtain ⟨a, b⟩ := szWs_le (m := n) h l
  exact ⟨gdWs_iff.mpr fun w hw => (h w hw).2.2, a, b⟩
theorem sh_aa : ("a-aa" : Str) = shT 1 [0, 0] := by decide +kernel
theorem bkl_txt {z : Str} (h : z ∈ BKL) : gdW (.txt z) := .inl h
section
variable {P : Program} {w : World} {K : Frag} {mg : Str → Option Value} {base : Heap}
def SP_words : DSp := fun ds G R => ∃ d p S, ds = [.ref d, .ref p, .int 2] ∧ HasDb G d ∧ G p = some (.lst (eTs S)) ∧ S.length ≤ 100000 ∧ ∀ q ws G', DD.Sub G G' → G' q = some (.lst (eWs ws)) → Wk 250 4 ws → R (.ref q) G'
def SP_grown : DSp := fun ds G R => ∃ d p S bk m, ∃ many : Nat, ds = [.ref d, .ref p, .tup (eBk bk), .int (many : Int)] ∧ HasDb G d ∧ G p = some (.lst (eTs S)) ∧ gdTs S ∧ szTs S ≤ 3000 ∧ dpTs S ≤ 60 ∧ BokOk m bk ∧ m ≤ 1000 ∧ bk.length ≤ 1000 ∧ many ≤ 8 ∧ ∀ q ws G', DD.Sub G G' → G' q = some (.lst (eWs ws)) → Wk 60 60 ws → R (.ref q) G'
abbrev N_L_words : List Str := ["_law_deck_here", "_law_stack", "_law_deep", "_law_way", "_law_one", "_law_k", "_law_row", "_law_some", "_law_j", "_law_rows"]
abbrev A_L_words : List Str := ["_law_deck_here", "_law_stack", "_law_deep"]
theorem sc_L_words : FnScope N_L_words A_L_words (defScope s_L_words) := ⟨rfl, rfl, rfl, by decide +kernel, rfl, by decide +kernel, by decide +kernel⟩
theorem h_L_words (a : At K mg "_law_words" s_L_words A_L_words) (B : BI mg) (B_min : mg "min" = none) (c_L_any_word0 : Has P w K mg base 10 "_law_any_word" A_L_any_word (SP_word 1)) (c_L_any_word3 : Has P w K mg base 14 "_law_any_word" A_L_any_word (SP_word 3)) (c_L_draw : Has P w K mg base 2 "_law_draw" A_L_draw SP_drawB) (c_L_any_word : Has P w K mg base 12 "_law_any_word" A_L_any_word (SP_word 2)) (c_L_number : Has P w K mg base 3 "_law_number" A_L_number SP_num) (c_L_shuffle : Has P w K mg base 3 "_law_shuffle" A_L_shuffle SP_shf) : Has P w K mg base 15 "_law_words" A_L_words SP_words := by
  refine at_mk a sc_L_words fun f cdv A outer s H E hr ds G R hl h => ?_
  refine ⟨_, (dss_cons (ds_set (i := 3) sc_L_words.nd rfl (.inl rfl) (de_call c_L_draw (hr.mono (by omega)) rfl (da_cons (dv 0) (da_cons de_int da_nil))))
    (dss_cons (ds_set (i := 4) sc_L_words.nd rfl (.inl rfl) (de_tup (da_cons de_str (da_cons (de_tup (da_cons de_str (da_cons (de_op od_add de_int (de_call c_L_draw (hr.mono (by omega)) rfl (da_cons (dv 0) (da_cons de_int da_nil)))) da_nil))) da_nil))))
    (dss_cons (ds_if (dt_cmp (od_eq hr.units) (dv 3) de_int (nomark _)) (dss_one (ds_ret (de_lst (da_cons (dv 4) (da_cons (de_tup (da_cons de_str (da_cons (de_tup (da_cons de_str (da_cons (de_tup (da_cons de_str da_nil)) da_nil))) da_nil))) (da_cons (de_tup (da_cons de_str (da_cons (de_tup (da_cons de_str (da_cons (de_tup (da_cons (de_tup (da_cons de_str (da_cons (de_tup (da_cons de_str (da_cons de_int da_nil))) da_nil))) (da_cons de_str da_nil))) da_nil))) da_nil))) (da_cons de_str da_nil))))))) dss_nil)
    (dss_cons (ds_if (dt_cmp (od_eq hr.units) (dv 3) de_int (nomark _)) (dss_cons (ds_set (i := 6) sc_L_words.nd rfl (.inl rfl) (de_callTy cd_tuple B.tup rfl (by decide +kernel) (da_cons (de_lc (own := [("_law_k", 5)]) (lt1 (i := 5) (by decide)) rfl sc_L_words.nd (di_range B.range rfl (da_cons (de_op od_add de_int (de_call c_L_draw (hr.mono (by omega)) rfl (da_cons (dv 0) (da_cons de_int da_nil)))) da_nil)) (blkOk_by (own := [("_law_k", 5)]) (N := N_L_words) (sc := defScope s_L_words) (by decide +kernel)) (fun _ _ _ _ _ => pg_name (i := 5) sc_L_words.nd rfl (Or.inl rfl)) (fun _ _ _ _ _ => dts_nil) (fun _ _ _ _ _ => (de_call c_L_any_word0 (hr.mono (by omega)) rfl (da_cons (dv 0) (da_cons de_int da_nil))))) da_nil)))
      (dss_one (ds_ret (de_lst (da_cons (dv 4) (da_cons (de_tup (da_cons de_str (da_cons (de_tup (da_cons de_str (da_cons (dv 6) da_nil))) da_nil))) (da_cons de_str da_nil))))))) dss_nil)
    (dss_cons (ds_if (dt_cmp (od_eq hr.units) (dv 3) de_int (nomark _)) (dss_cons (ds_set (i := 7) sc_L_words.nd rfl (.inl rfl) (de_callTy cd_tuple B.tup rfl (by decide +kernel) (da_cons (de_lc (own := [("_law_k", 5)]) (lt1 (i := 5) (by decide)) rfl sc_L_words.nd (di_range B.range rfl (da_cons (de_call c_L_draw (hr.mono (by omega)) rfl (da_cons (dv 0) (da_cons de_int da_nil))) da_nil)) (blkOk_by (own := [("_law_k", 5)]) (N := N_L_words) (sc := defScope s_L_words) (by decide +kernel)) (fun _ _ _ _ _ => pg_name (i := 5) sc_L_words.nd rfl (Or.inl rfl)) (fun _ _ _ _ _ => dts_nil) (fun _ _ _ _ _ => (de_tup (da_cons de_str (da_cons (de_call c_L_number (hr.mono (by omega)) rfl (da_cons (dv 0) da_nil)) da_nil))))) da_nil)))
      (dss_one (ds_ret (de_lst (da_cons (de_tup (da_cons de_str (da_cons (de_tup (da_cons de_str (da_cons (dv 7) da_nil))) da_nil))) (da_cons (de_tup (da_cons de_str (da_cons (de_tup (da_cons de_str (da_cons (de_tup (da_cons (de_call c_L_any_word0 (hr.mono (by omega)) rfl (da_cons (dv 0) (da_cons de_int da_nil))) da_nil)) da_nil))) da_nil))) (da_cons de_str da_nil))))))) dss_nil)
    (dss_cons (ds_if (dt_cmp (od_eq hr.units) (dv 3) de_int (nomark _)) (dss_cons (ds_setLc (i := 9) (own := [("_law_j", 8)]) (lt1 (i := 8) (by decide)) rfl sc_L_words.nd rfl rfl (sw_true rfl rfl rfl (by decide +kernel)) (di_range B.range rfl (da_cons de_int da_nil)) (blkOk_by (own := [("_law_j", 8)]) (N := N_L_words) (sc := defScope s_L_words) (by decide +kernel)) (fun _ _ _ _ _ => pg_name (i := 8) sc_L_words.nd rfl (Or.inl rfl)) (fun _ _ _ _ _ => dts_nil) (fun _ _ _ _ _ => (de_tup (da_cons de_str (da_cons (de_tup (da_cons de_str (da_cons (de_callTy cd_tuple B.tup rfl (by decide +kernel) (da_cons (de_lc (own := [("_law_k", 5)]) (lt1 (i := 5) (by decide)) rfl sc_L_words.nd (di_range B.range rfl (da_cons (de_call c_L_draw (hr.mono (by omega)) rfl (da_cons (dv 0) (da_cons de_int da_nil))) da_nil)) (blkOk_by (own := [("_law_k", 5)]) (N := N_L_words) (by kernel_rfl)) (fun _ _ _ _ _ => pg_name (i := 5) sc_L_words.nd rfl (Or.inl rfl)) (fun _ _ _ _ _ => dts_nil) (fun _ _ _ _ _ => (de_call c_L_any_word (hr.mono (by omega)) rfl (da_cons (dv 0) (da_cons de_int da_nil))))) da_nil)) da_nil))) da_nil)))))
      (dss_one (ds_ret (de_op od_add (dv 9) (de_lst (da_cons de_str da_nil)))))) dss_nil)
    (dss_cons (ds_if (dt_cmp (od_eq hr.units) (dv 3) de_int (nomark _)) (dss_one (ds_ret (de_lst (da_cons (de_tup (da_cons de_str (da_cons (de_tup (da_cons de_str (da_cons (de_callTy cd_tuple B.tup rfl (by decide +kernel) (da_cons (de_lc (own := [("_law_k", 5)]) (lt1 (i := 5) (by decide)) rfl sc_L_words.nd (di_range B.range rfl (da_cons (de_call c_L_draw (hr.mono (by omega)) rfl (da_cons (dv 0) (da_cons de_int da_nil))) da_nil)) (blkOk_by (own := [("_law_k", 5)]) (N := N_L_words) (sc := defScope s_L_words) (by decide +kernel)) (fun _ _ _ _ _ => pg_name (i := 5) sc_L_words.nd rfl (Or.inl rfl)) (fun _ _ _ _ _ => dts_nil) (fun _ _ _ _ _ => (de_call c_L_any_word (hr.mono (by omega)) rfl (da_cons (dv 0) (da_cons de_int da_nil))))) da_nil)) da_nil))) da_nil))) (da_cons de_str da_nil))))) dss_nil)
    (dss_cons (ds_if (dt_cmp od_lt (dv 3) de_int (nomark _)) (dss_one (ds_ret (de_lst (da_cons (de_call c_L_shuffle (hr.mono (by omega)) rfl (da_cons (dv 0) (da_cons (de_callB (cd_min2 rfl) B_min rfl (by decide +kernel) (da_cons (de_callB cd_len B.len rfl (by decide +kernel) (da_cons (dv 1) da_nil)) (da_cons (de_ix (de_lst (da_cons de_int (da_cons de_int da_nil))) (de_op od_fdiv (de_call c_L_draw (hr.mono (by omega)) rfl (da_cons (dv 0) (da_cons de_int da_nil))) de_int)) da_nil))) da_nil))) da_nil)))) dss_nil)
    (dss_one (ds_ret (de_lst (da_cons (de_call c_L_any_word3 (hr.mono (by omega)) rfl (da_cons (dv 0) (da_cons (dv 2) da_nil))) da_nil)))))))))))), ?_⟩
  obtain ⟨d, p, S, rfl, hk, hp, lS, q⟩ := h
  have wf : ∀ {q' : Addr} {ws : List Wo} {G' : DG}, DD.Sub G G' → G' q' = some (.lst (eWs ws)) → Wk 250 4 ws → Less R (.ref q') G' := fun s h w => Less.of (q _ _ _ s h w)
  have b0 : BT 0 = 1 := rfl
  have b1 : BT 1 = 30 := rfl
  have b2 : BT 2 = 204 := rfl
  walk_at "dd"
  refine ⟨d, 12, rfl, hk, by decide, by decide, fun r r0 r1 => ?_⟩
  walk_at "dd"
  refine ⟨d, 3, rfl, hk, by decide, by decide, fun o o0 o1 => ?_⟩
  walk_at "dd"
  have g1 : gdW (.push (.num (1 + o))) := ⟨by omega, by omega⟩
  have gi : gdW (.txt "if") := bkl_txt (by decide +kernel)
  have gwh : gdW (.txt "while") := bkl_txt (by decide +kernel)
  have gr : gdW (.txt "repeat") := bkl_txt (by decide +kernel)
  have ge : gdW (.txt "each") := bkl_txt (by decide +kernel)
  have gdi : gdW (.txt "dip") := bkl_txt (by decide +kernel)
  have gmi : gdW (.txt "minus") := bkl_txt (by decide +kernel)
  have gaa : gdW (.txt "a-aa") := .inr (.inl ⟨1, [0, 0], sh_aa, by decide, by decide, by decide⟩)
  refine w_iteD (fun _ => ?_) (fun _ => ?_)
  · walk_at "dd"
    intro p1 n1
    refine abs_new n1 fun G1 s1 h1 => ?_
    refine wf (ws := [.push (.num (1 + o)), .push (.row [.txt "a-aa"]), .push (.row [.push (.num 1), .txt "minus"]), .txt "while"]) s1 h1 ⟨⟨g1, ⟨gaa, trivial⟩, ⟨⟨by decide, by decide⟩, gmi, trivial⟩, gwh, trivial⟩, by show 2 + (3 + (5 + (1 + 0))) ≤ 250; decide, by show max 0 (max (1 + max 0 0) (max (1 + max 0 (max 0 0)) (max 0 0))) ≤ 4; decide⟩
  walk_at "dd"
  refine w_iteD (fun _ => ?_) (fun _ => ?_)
  · walk_at "dd"
    refine ⟨d, 2, rfl, hk, by decide, by decide, fun r2 a2 c2 => ?_⟩
    walk_at "dd"
    refine wx_rng (by omega) (by omega) ?_
    refine lcs_each (fun _ y => ∃ w, y = eW w ∧ DW 0 w) (fun _ _ => trivial) (by rw [rng_len]; omega) ?_ ?_
    · intro j y hy G' k1 k0 s' e1
      walk_at "dd"
      exact ⟨d, 0, rfl, by decide, rfl, by walk_at "gk", fun t ht => e1 _ ⟨t, rfl, ht⟩⟩
    intro p3 G3 acc np3 sp3 hp3 la he
    rw [rng_len] at la
    obtain ⟨ws, rfl, hws⟩ := acc_ws he
    rw [eWs_len] at la
    have hkp3 := Wk.of (n := 2) hws (by omega)
    walk_at "dd"
    intro p4 n4
    refine abs_new n4 fun G4 s4 h4 => ?_
    have := hkp3.z
    have := hkp3.d
    refine wf (ws := [.push (.num (1 + o)), .push (.row ws), .txt "repeat"]) (by walk_at "gs") h4 ⟨⟨g1, hkp3.g, gr, trivial⟩, by show 2 + ((1 + (1 + szWs ws)) + (1 + 0)) ≤ 250; omega, by show max 0 (max (1 + dpWs ws) (max 0 0)) ≤ 4; omega⟩
  walk_at "dd"
  refine w_iteD (fun _ => ?_) (fun _ => ?_)
  · walk_at "dd"
    refine ⟨d, 4, rfl, hk, by decide, by decide, fun r2 a2 c2 => ?_⟩
    walk_at "dd"
    refine wx_rng (by omega) (by omega) ?_
    refine lcs_each (fun _ y => ∃ t, y = eT t ∧ gdT t ∧ szT t = 1 ∧ dpT t = 0) (fun _ _ => trivial) (by rw [rng_len]; omega) ?_ ?_
    · intro j y hy G' k1 k0 s' e1
      walk_at "dd"
      refine ⟨d, rfl, by walk_at "gk", fun n hn => ?_⟩
      walk_at "dd"
      exact e1 _ ⟨.num n, rfl, hn, rfl, rfl⟩
    intro p3 G3 acc n3 s3 h3 la he
    rw [rng_len] at la
    obtain ⟨ts, rfl, hts⟩ := acc_ts he
    rw [eTs_len] at la
    have zt : ∀ {ts : List Th}, (∀ t ∈ ts, gdT t ∧ szT t = 1 ∧ dpT t = 0) → szTs ts = ts.length ∧ dpTs ts = 0 ∧ gdTs ts := by
      intro ts
      induction ts with
      | nil => exact fun _ => ⟨rfl, rfl, trivial⟩
      | cons t r ih =>
        intro h
        obtain ⟨x, y, z⟩ := ih fun t ht => h t (List.mem_cons_of_mem _ ht)
        obtain ⟨x1, y1, z1⟩ := h t (List.mem_cons_self ..)
        exact ⟨by show szT t + szTs r = r.length + 1; omega, by show max (dpT t) (dpTs r) = 0; omega, x1, z⟩
    obtain ⟨z1, z2, z3⟩ := zt hts
    walk_at "dd"
    refine ⟨d, 0, rfl, by decide, rfl, by walk_at "gk", fun wd hw => ?_⟩
    walk_at "dd"
    intro p4 n4
    refine abs_new n4 fun G4 s4 h4 => ?_
    have hw1 := hw.1
    have hw2 := hw.2.1
    refine wf (ws := [.push (.lst ts), .push (.row [wd]), .txt "each"]) (by walk_at "gs") h4 ⟨⟨z3, ⟨hw.2.2, trivial⟩, ge, trivial⟩, by show (1 + (1 + szTs ts)) + ((1 + (1 + (szW wd + 0))) + (1 + 0)) ≤ 250; omega, by show max (1 + dpTs ts) (max (1 + max (dpW wd) 0) (max 0 0)) ≤ 4; omega⟩
  walk_at "dd"
  refine w_iteD (fun _ => ?_) (fun _ => ?_)
  · walk_at "dd"
    refine wx_rng (by decide) (by decide) ?_
    refine lcs_grow (fun _ y => ∃ ws, y = eW (.push (.row ws)) ∧ Wk 62 1 ws) (fun _ _ => trivial) (by rw [rng_len]; decide) ?_ ?_
    · intro j y hy G' k1 k0 s' e1
      have hkG : HasDb G' d := by walk_at "gk"
      walk_at "dd"
      refine ⟨d, 3, rfl, hkG, by decide, by decide, fun r2 a2 c2 => ?_⟩
      walk_at "dd"
      refine wx_rng (by omega) (by omega) ?_
      refine lcs_each (fun _ y => ∃ w, y = eW w ∧ DW 1 w) (fun _ _ => trivial) (by rw [rng_len]; omega) ?_ ?_
      · intro j y hy G' k1 k0 s'' e2
        walk_at "dd"
        exact ⟨d, 1, rfl, by decide, rfl, by walk_at "gk", fun t ht => e2 _ ⟨t, rfl, ht⟩⟩
      intro p3 G3 acc np3 sp3 hp3 la he
      rw [rng_len] at la
      obtain ⟨ws, rfl, hws⟩ := acc_ws he
      rw [eWs_len] at la
      have hkp3 := Wk.of (n := 2) hws (by omega)
      walk_at "dd"
      refine e1 _ _ ⟨ws, rfl, hkp3.g, by have := hkp3.z; omega, hkp3.d⟩ sp3
    intro p4 G4 acc n4 s4 h4 la he
    rw [rng_len] at la
    obtain ⟨ws, rfl, hws⟩ := acc_ws (P := fun w => ∃ u, w = .push (.row u) ∧ Wk 62 1 u) (acc := acc) (fun i y hy => by obtain ⟨u, e, h⟩ := he i y hy; exact ⟨_, e, u, rfl, h⟩)
    rw [eWs_len] at la
    walk_at "dd"
    intro p5 n5
    refine abs_new n5 fun G5 s5 h5 => ?_
    have h5 : G5 p5 = some (.lst (eWs [.txt "if"])) := h5
    refine w_addL (s5 _ _ h4) h5 (mid (by rw [eWs_len]; show ws.length + 1 ≤ 1000000; omega)) ?_
    intro p6 n6
    refine abs_new n6 fun G6 s6 h6 => ?_
    have la : ws.length = 2 := la
    match ws, la, hws with
    | [w1, w2], _, hws =>
      obtain ⟨u1, rfl, k1⟩ := hws _ (List.mem_cons_self ..)
      obtain ⟨u2, rfl, k2⟩ := hws _ (List.mem_cons_of_mem _ (List.mem_cons_self ..))
      have := k1.z
      have := k2.z
      have := k1.d
      have := k2.d
      refine wf (ws := [.push (.row u1), .push (.row u2), .txt "if"]) (by walk_at "gs") h6 ⟨⟨k1.g, k2.g, gi, trivial⟩, by show (1 + (1 + szWs u1)) + ((1 + (1 + szWs u2)) + (1 + 0)) ≤ 250; omega, by show max (1 + dpWs u1) (max (1 + dpWs u2) (max 0 0)) ≤ 4; omega⟩
  walk_at "dd"
  refine w_iteD (fun _ => ?_) (fun _ => ?_)
  · walk_at "dd"
    refine ⟨d, 3, rfl, hk, by decide, by decide, fun r2 a2 c2 => ?_⟩
    walk_at "dd"
    refine wx_rng (by omega) (by omega) ?_
    refine lcs_each (fun _ y => ∃ w, y = eW w ∧ DW 1 w) (fun _ _ => trivial) (by rw [rng_len]; omega) ?_ ?_
    · intro j y hy G' k1 k0 s' e1
      walk_at "dd"
      exact ⟨d, 1, rfl, by decide, rfl, by walk_at "gk", fun t ht => e1 _ ⟨t, rfl, ht⟩⟩
    intro p3 G3 acc np3 sp3 hp3 la he
    rw [rng_len] at la
    obtain ⟨ws, rfl, hws⟩ := acc_ws he
    rw [eWs_len] at la
    have hkp3 := Wk.of (n := 2) hws (by omega)
    walk_at "dd"
    intro p4 n4
    refine abs_new n4 fun G4 s4 h4 => ?_
    have := hkp3.z
    have := hkp3.d
    refine wf (ws := [.push (.row ws), .txt "dip"]) (by walk_at "gs") h4 ⟨⟨hkp3.g, gdi, trivial⟩, by show (1 + (1 + szWs ws)) + (1 + 0) ≤ 250; omega, by show max (1 + dpWs ws) (max 0 0) ≤ 4; omega⟩
  walk_at "dd"
  refine w_iteD (fun _ => ?_) (fun _ => ?_)
  · walk_at "dd"
    intro p1 n1
    refine abs_new n1 fun G1 s1 h1 => ?_
    walk_at "dd"
    refine ⟨d, 8, rfl, by walk_at "gk", by decide, by decide, fun r2 a2 c2 => ?_⟩
    walk_at "dd"
    refine w_int (wide_div (by decide) (b := 3) (by omega) (by decide) (by decide)) ?_
    obtain ⟨mx, hm, em⟩ : ∃ m : Nat, atI [DV.int 3, .int 8] (r2 / 7) = some (.int (m : Nat)) ∧ m ≤ 8 := by
      have : r2 / 7 = 0 ∨ r2 / 7 = 1 := by omega
      rcases this with h | h
      · rw [h]; exact ⟨3, rfl, by decide⟩
      · rw [h]; exact ⟨8, rfl, by decide⟩
    refine w_ixL h1 hm ?_
    walk_at "dd"
    rw [eTs_len]
    refine w_min ?_
    walk_at "dd"
    obtain ⟨mz, emz, lmz⟩ : ∃ mz : Nat, (if (mx : Int) < (S.length : Nat) then (mx : Int) else (S.length : Nat)) = (mz : Nat) ∧ mz ≤ 8 := by
      by_cases h : (mx : Int) < (S.length : Nat)
      · exact ⟨mx, if_pos h, em⟩
      · exact ⟨S.length, if_neg h, by omega⟩
    rw [emz]
    refine ⟨d, mz, rfl, lmz, by walk_at "gk", fun n ps okn => ?_⟩
    walk_at "dd"
    intro p2 n2
    refine abs_new n2 fun G2 s2 h2 => ?_
    refine wf (ws := [.txt (shT n ps)]) (by walk_at "gs") h2 ⟨⟨.inr (.inl ⟨n, ps, rfl, okn⟩), trivial⟩, by show 1 + 0 ≤ 250; decide, by show max 0 0 ≤ 4; decide⟩
  walk_at "dd"
  refine ⟨d, 2, rfl, Nat.le_refl _, rfl, hk, fun wd hw => ?_⟩
  walk_at "dd"
  intro p2 n2
  refine abs_new n2 fun G2 s2 h2 => ?_
  have hw1 := hw.1
  have hw2 := hw.2.1
  refine wf (ws := [wd]) (by walk_at "gs") h2 ⟨⟨hw.2.2, trivial⟩, by show szW wd + 0 ≤ 250; omega, by show max (dpW wd) 0 ≤ 4; omega⟩
abbrev N_L_grown : List Str := ["_law_deck_here", "_law_stack", "_law_book_here", "_law_many", "_law_row", "_law_told", "_law_names", "_law_turn", "_law_words_here", "_law_word", "_law_steps", "_law_state", "_law_small"]
abbrev A_L_grown : List Str := ["_law_deck_here", "_law_stack", "_law_book_here", "_law_many"]
theorem sc_L_grown : FnScope N_L_grown A_L_grown (defScope s_L_grown) := ⟨rfl, rfl, rfl, by decide +kernel, rfl, by decide +kernel, by decide +kernel⟩
theorem h_L_grown (a : At K mg "_law_grown" s_L_grown A_L_grown) (B : BI mg) (c_L_words : Has P w K mg base 15 "_law_words" A_L_words SP_words) (c_L_draw : Has P w K mg base 2 "_law_draw" A_L_draw SP_drawB) (c_L_play : Has P w K mg base 212 "_law_play" A_L_play SP_play) (c_L_size : Has P w K mg base 211 "_law_size" A_L_size (SP_size 210)) : Has P w K mg base 213 "_law_grown" A_L_grown SP_grown := by
  refine at_mk a sc_L_grown fun f cdv A outer s H E hr ds G R hl h => ?_
  refine ⟨_, (dss_cons (ds_set (i := 4) sc_L_grown.nd rfl (.inl rfl) (de_lst da_nil))
    (dss_cons (ds_setLc (i := 6) (own := [("_law_told", 5)]) (lt1 (i := 5) (by decide)) rfl sc_L_grown.nd rfl rfl (sw_true rfl rfl rfl (by decide +kernel)) (di_tup (dv 2)) (blkOk_by (own := [("_law_told", 5)]) (N := N_L_grown) (sc := defScope s_L_grown) (by decide +kernel)) (fun _ _ _ _ _ => pg_name (i := 5) sc_L_grown.nd rfl (Or.inl rfl)) (fun _ _ _ _ _ => dts_nil) (fun _ _ _ _ _ => (de_ix (dv 5) de_int)))
    (dss_cons (ds_for PassesOwn.never rfl (di_range B.range rfl (da_cons (dv 3) da_nil)) (dg_name (i := 7) sc_L_grown.nd rfl (.inl rfl)) (dss_cons (ds_set (i := 8) sc_L_grown.nd rfl (.inl rfl) (de_call c_L_words (hr.mono (by omega)) rfl (da_cons (dv 0) (da_cons (dv 1) (da_cons de_int da_nil)))))
      (dss_cut (ds_if (dt_w (dw_and (dt_cmp (od_neNil (hu64_ hr)) (dv 6) (de_lst da_nil) (nomark _)) (dw_and1 (dt_cmp (od_eq hr.units) (de_call c_L_draw (hr.mono (by omega)) rfl (da_cons (dv 0) (da_cons de_int da_nil))) de_int (nomark _))))) (dss_one (ds_set (i := 8) sc_L_grown.nd rfl (.inl rfl) (de_lst (da_cons (de_ix (dv 6) (de_call c_L_draw (hr.mono (by omega)) rfl (da_cons (dv 0) (da_cons (de_callB cd_len B.len rfl (by decide +kernel) (da_cons (dv 6) da_nil)) da_nil)))) da_nil)))) dss_nil)
      (dss_cons (ds_asg (de_call c_L_play (hr.mono (by omega)) rfl (da_cons (dv 1) (da_cons (dv 8) (da_cons (dv 2) (da_cons de_int da_nil))))) (dg_tup rfl (dgs_cons (dg_name (i := 9) sc_L_grown.nd rfl (.inl rfl)) (dgs_cons (dg_name (i := 10) sc_L_grown.nd rfl (.inl rfl)) (dgs_cons (dg_name (i := 11) sc_L_grown.nd rfl (.inl rfl)) dgs_nil)))))
      (dss_cut (ds_set (i := 12) sc_L_grown.nd rfl (.inl rfl) (de_and (de_cmp od_lt (de_callB cd_len B.len rfl (by decide +kernel) (da_cons (de_ix (dv 11) de_int) da_nil)) de_int (nomark _)) (de_one (de_cmp od_lt (de_call c_L_size (hr.mono (by omega)) rfl (da_cons (de_op od_add (de_ix (dv 11) de_int) (de_lst (da_cons (de_tup (da_cons de_str (da_cons (de_callTy cd_tuple B.tup rfl (by decide +kernel) (da_cons (de_op od_add (dv 4) (dv 8)) da_nil)) da_nil))) da_nil))) da_nil)) de_int (nomark _)))))
      (dss_one (ds_if (dt_w (dw_and (dt_cmp (od_eq hr.units) (dv 9) de_str (nomark _)) (dw_and1 (dt_e (dv 12))))) (dss_cons (ds_set (i := 1) sc_L_grown.nd rfl (.inl rfl) (de_ix (dv 11) de_int))
        (dss_one (ds_set (i := 4) sc_L_grown.nd rfl (.inl rfl) (de_op od_add (dv 4) (dv 8))))) dss_nil)))))))
    (dss_one (ds_ret (dv 4)))))), ?_⟩
  obtain ⟨d, p, S, bk, m, many, rfl, hk, hp, gS, zS, dS, bok, hm, lb, hmany, q⟩ := h
  walk_at "dd"
  intro pr nr
  refine abs_new nr fun G1 s1 h1 => ?_
  walk_at "dd"
  refine lcs_pure (fun d => match d with | .tup (n :: _) => some n | _ => none) (fun _ _ => trivial) (by unfold eBk; rw [List.length_map]; omega) ?_ ?_
  · intro d' hd G' k1 k0 s' h1' h0'
    unfold eBk at hd
    obtain ⟨e, he, rfl⟩ := List.mem_map.mp hd
    walk_at "dd"
    exact h1' _ rfl
  intro pn G2 nn s2 h2
  have e5 : (eBk bk).filterMap (fun d => match d with | .tup (n :: _) => some n | _ => none) = (bk.map (·.1)).map DV.str := by
    unfold eBk
    rw [List.filterMap_map, List.map_map]
    exact List.filterMap_eq_map ▸ rfl
  rw [e5] at h2
  walk_at "dd"
  refine wx_rng (by omega) (by omega) ?_
  have h12 := s2 _ _ h1
  have hp2 := s2 _ _ (s1 _ _ hp)
  refine for_by (fun i δ G' => ∃ (ps pr : Addr) (S' : List Th) (T' : List Wo) (x7 x8 x9 x10 x11 x12 : Option DV), δ = [some (.ref d), some (.ref ps), some (.tup (eBk bk)), some (.int (many : Int)), some (.ref pr), none, some (.ref pn), x7, x8, x9, x10, x11, x12] ∧ DD.Sub G2 G' ∧ G' ps = some (.lst (eTs S')) ∧ G' pr = some (.lst (eWs T')) ∧ gdTs S' ∧ szTs S' ≤ 3000 ∧ dpTs S' ≤ 60 ∧ Wk 60 60 T') (fun _ _ _ _ => trivial) ⟨p, pr, S, [], none, none, none, none, none, none, rfl, Sub.refl _, hp2, h12, gS, zS, dS, trivial, Nat.zero_le _, Nat.zero_le _⟩ ?_ ?_
  · clear hp2 h12 h1 hp nr nn gS zS dS
    rintro i y δ G3 hy ⟨ps, pr, S', T', x7, x8, x9, x10, x11, x12, rfl, s3, hps, hpr, gS, zS, dS, wk⟩
    have s03 : DD.Sub G G3 := by walk_at "gs"
    have hk3 : HasDb G3 d := hk.sub s03
    have hn3 := s3 _ _ h2
    have lS := szTs_len S'
    walk_at "dd"
    refine ⟨d, ps, S', rfl, hk3, hps, by omega, fun pw ws G4 s4 h4 wkw => ?_⟩
    walk_at "dd"
    have hk4 : HasDb G4 d := by walk_at "gk"
    have hn4 := s4 _ _ hn3
    have hps4 := s4 _ _ hps
    have hpr4 := s4 _ _ hpr
    refine w_cut (fun δ' G' => ∃ (pw : Addr) (ws : List Wo), δ' = [some (.ref d), some (.ref ps), some (.tup (eBk bk)), some (.int (many : Int)), some (.ref pr), none, some (.ref pn), some y, some (.ref pw), x9, x10, x11, x12] ∧ DD.Sub G4 G' ∧ G' pw = some (.lst (eWs ws)) ∧ Wk 250 4 ws) ?_ ?_
    · walk_at "dd"
      intro pe ne
      refine abs_new ne fun G5 s5 h5 => ?_
      refine w_neNil (s5 _ _ hn4) h5 ?_
      have hk5 : HasDb G5 d := by walk_at "gk"
      rw [show (!((bk.map (·.1)).map DV.str).isEmpty) = decide (bk ≠ []) from by cases bk <;> rfl]
      walk_at "dd"
      by_cases hb : bk = []
      · refine w_if0 (decide_eq_false fun h => h hb) ?_
        walk_at "dd"
        exact ⟨pw, ws, rfl, s5, s5 _ _ h4, wkw⟩
      refine w_it (decide_eq_true hb) ?_
      walk_at "dd"
      refine ⟨d, 5, rfl, hk5, by decide, by decide, fun r2 a2 c2 => ?_⟩
      walk_at "dd"
      refine w_iteD (fun _ => ?_) (fun _ => ?_)
      · walk_at "dd"
        have hn5 := s5 _ _ hn4
        have ll : ((bk.map (·.1)).map DV.str).length = bk.length := by rw [List.length_map, List.length_map]
        have l0 : 0 < bk.length := List.length_pos_iff.mpr hb
        refine ⟨d, ((bk.length : Nat) : Int), by rw [ll], hk5, by omega, by omega, fun r3 a3 c3 => ?_⟩
        obtain ⟨j, rfl⟩ := Int.eq_ofNat_of_zero_le a3
        have hj : j < bk.length := by omega
        have ej := List.getElem?_eq_getElem hj
        refine w_ixL hn5 (d := .str (bk[j]).1) (atI_nat (j := j) (by rw [List.getElem?_map, List.getElem?_map, ej]; rfl)) ?_
        walk_at "dd"
        intro p6 n6
        refine abs_new n6 fun G6 s6 h6 => ?_
        walk_at "dd"
        exact ⟨p6, [.txt (bk[j]).1], rfl, by walk_at "gs", h6, ⟨.inr (.inr (bok.nm _ (List.mem_of_getElem? ej))), trivial⟩, by show 1 + 0 ≤ 250; decide, by show max 0 0 ≤ 4; decide⟩
      · walk_at "dd"
        exact ⟨pw, ws, rfl, s5, s5 _ _ h4, wkw⟩
    rintro δ' G5 ⟨pw, ws, rfl, s5, hpw, wkw⟩
    have hps5 := s5 _ _ hps4
    have hpr5 := s5 _ _ hpr4
    have wz := wkw.z
    have wd := wkw.d
    walk_at "dd"
    refine ⟨ps, pw, S', ws, bk, m, 40, rfl, by decide, dS, by omega, hps5, hpw, ⟨gS, wkw.g, by show szTs S' ≤ 20000; omega, by show szWs ws ≤ 20000; omega⟩, ⟨by show dpTs S' ≤ 200; omega, by show dpWs ws ≤ 200; omega, zS, by show szWs ws ≤ 3000; omega⟩, bok, hm, fun zz n9 p' q' S2 T2 G6 s6 h6 h7 ok2 dp2 => ?_⟩
    have g2 : gdTs S2 := ok2.gS
    have z2 : szTs S2 ≤ 3000 := dp2.zS
    have d2 : dpTs S2 ≤ 200 := dp2.dS
    have l2 := szTs_len S2
    walk_at "dd"
    have s56 : DD.Sub G2 G6 := by walk_at "gs"
    have hpr6 := s6 _ _ hpr5
    have hpw6 := s6 _ _ hpw
    have hps6 := s6 _ _ hps5
    clear h7 hps5 hpr5 hpw hps4 hpr4 hn4 h4 s6 s5 hk4 s4 hn3 hk3 s03 hps hpr s3
    refine w_cut (fun δ' G' => ∃ b : Bool, δ' = [some (.ref d), some (.ref ps), some (.tup (eBk bk)), some (.int (many : Int)), some (.ref pr), none, some (.ref pn), some y, some (.ref pw), some (.str zz), some (.int n9), some (.tup [.ref p', .ref q']), some (.bl b)] ∧ DD.Sub G6 G' ∧ (b = true → szTs S2 + (1 + szWs (T' ++ ws)) < 60)) ?_ ?_
    · walk_at "dd"
      rw [eTs_len]
      refine w_iteD (fun _ => ?_) (fun _ => ?_)
      · walk_at "dd"
        have lT := szWs_len T'
        have wkz := wk.z
        have lw := szWs_len ws
        refine w_addL hpr6 hpw6 (mid (by rw [eWs_len, eWs_len]; omega)) ?_
        intro p7 n7
        refine abs_new n7 fun G7 s7 h7 => ?_
        have h7 : G7 p7 = some (.lst (eWs (T' ++ ws))) := by rw [h7, eWs_map, eWs_map, eWs_map, List.map_append]
        walk_at "dd"
        intro p8 n8
        refine abs_new n8 fun G8 s8 h8 => ?_
        have h8 : G8 p8 = some (.lst (eTs [.row (T' ++ ws)])) := h8
        refine w_addL (by walk_at "gq") h8 (mid (by rw [eTs_len]; show S2.length + 1 ≤ 1000000; omega)) ?_
        intro p9 n9'
        refine abs_new n9' fun G9 s9 h9 => ?_
        have h9 : G9 p9 = some (.lst (eTs (S2 ++ [.row (T' ++ ws)]))) := by rw [h9, eTs_map, eTs_map, eTs_map, List.map_append]
        have ez : szTs (S2 ++ [.row (T' ++ ws)]) = szTs S2 + (1 + szWs (T' ++ ws)) := by rw [szTs_app]; rfl
        have ed : dpTs (S2 ++ [.row (T' ++ ws)]) = max (dpTs S2) (1 + dpWs (T' ++ ws)) := by rw [dpTs_app]; show max (dpTs S2) (max (1 + dpWs (T' ++ ws)) 0) = _; omega
        have ew : szWs (T' ++ ws) = szWs T' + szWs ws := szWs_app ..
        have ewd : dpWs (T' ++ ws) = max (dpWs T') (dpWs ws) := dpWs_app ..
        have wkd := wk.d
        walk_at "dd"
        refine .inl ⟨_, S2 ++ [.row (T' ++ ws)], rfl, .inr ⟨p9, rfl, h9⟩, by omega, by omega, ?_⟩
        walk_at "dd"
        exact ⟨_, rfl, by walk_at "gs", fun e => by have := of_decide_eq_true e; omega⟩
      · exact ⟨false, rfl, Sub.refl _, fun e => nomatch e⟩
    rintro δ' G7 ⟨b, rfl, s7, hb⟩
    have hk7 : DD.Sub G2 G7 := s56.trans s7
    walk_at "dd"
    refine w_ite (fun _ => ?_) (fun _ => ?_)
    · walk_at "dd"
      refine w_ite (fun eb => ?_) (fun _ => ?_)
      · have hz := hb eb
        have ew : szWs (T' ++ ws) = szWs T' + szWs ws := szWs_app ..
        have ewd : dpWs (T' ++ ws) = max (dpWs T') (dpWs ws) := dpWs_app ..
        have wkd := wk.d
        have lT := szWs_len T'
        have lw := szWs_len ws
        walk_at "dd"
        refine w_addL (s7 _ _ hpr6) (s7 _ _ hpw6) (mid (by rw [eWs_len, eWs_len]; omega)) ?_
        intro p8 n8
        refine abs_new n8 fun G8 s8 h8 => ?_
        walk_at "dd"
        have h8 : G8 p8 = some (.lst (eWs (T' ++ ws))) := by rw [h8, eWs_map, eWs_map, eWs_map, List.map_append]
        exact ⟨p', p8, S2, T' ++ ws, _, _, _, _, _, _, rfl, by walk_at "gs", s8 _ _ (s7 _ _ h6), h8, g2, z2, (by have := dpTs_sz S2; omega), gdWs_app.mpr ⟨wk.g, wkw.g⟩, by omega, by omega⟩
      · walk_at "dd"
        refine ⟨ps, pr, S', T', _, _, _, _, _, _, rfl, hk7, s7 _ _ hps6, s7 _ _ hpr6, gS, zS, dS, wk⟩
    · walk_at "dd"
      refine ⟨ps, pr, S', T', _, _, _, _, _, _, rfl, hk7, s7 _ _ hps6, s7 _ _ hpr6, gS, zS, dS, wk⟩
  rintro δ G3 ⟨ps, pr, S', T', x7, x8, x9, x10, x11, x12, rfl, s3, hps, hpr, gS, zS, dS, wk⟩
  walk_at "dd"
  exact Less.of (q pr T' G3 (by walk_at "gs") hpr wk)
end
end K14
/-! != of deep tuples of texts; what is made of texts alone -/
namespace DD
open PySem PySem.W L2 SX Cm
end DD
set_option maxHeartbeats 1000000
/-! deep things compared, where there is room -/
namespace DD
open PySem PySem.W L2 SX Cm
/-- != of deep data -/
def bNeV : D2 := fun x y G Q => plain x = true ∧ plain y = true ∧ txB x = true ∧ txB y = true ∧ dpt x ≤ 1000 ∧ Q (.bl (!decide (x = y))) G
section
variable {X : Cx}
theorem op_neV (hu : X.A.units + 1000 < cLine) : OpR X (compareOp .NotEq) (fun x y H Q => ∃ d e, Dp X.K H x d ∧ Dp X.K H y e ∧ d.canLay0 = true ∧ e.canLay0 = true ∧ d.depth ≤ 1000 ∧ Q (.bl (!PyData.eqv d e)) H) := by
  intro pins s σ H x y v u Q I rx ry h
  obtain ⟨d, e, hd, he, sd, se, l, q⟩ := h
  obtain ⟨as, r1⟩ := Dp.reads I d x v hd rx
  obtain ⟨bs, r2⟩ := Dp.reads I e y u he ry
  exact SeqAt.compareNe_reads r1 r2 sd se (by have := Nat.min_le_left d.depth e.depth; omega) ⟨.bl _, H, I, rfl, q⟩
theorem od_neV (hu : X.A.units + 1000 < cLine) : OpD X (compareOp .NotEq) bNeV := by
  refine ⟨_, op_neV hu, fun x y vx vy H G R Q rx ry w h f => ?_⟩
  obtain ⟨px, py, tx, ty, lx, q⟩ := h
  obtain ⟨a, b⟩ := lay_dat x tx
  obtain ⟨a', _⟩ := lay_dat y ty
  exact ⟨_, _, rx.dp (plain_pure _ px), ry.dp (plain_pure _ py), a, a', by omega, flat_up w f (by rw [eqv_plain x y px py]; exact q)⟩
end
end DD
set_option maxHeartbeats 1000000
/-! == of deep data, where there is room -/
namespace DD
open PySem PySem.W L2 SX Cm
def bEqV : D2 := fun x y G Q => plain x = true ∧ plain y = true ∧ txB x = true ∧ txB y = true ∧ dpt x ≤ 1000 ∧ Q (.bl (decide (x = y))) G
section
variable {X : Cx}
theorem op_eqV (hu : X.A.units + 1000 < cLine) : OpR X (compareOp .Eq) (fun x y H Q => ∃ d e, Dp X.K H x d ∧ Dp X.K H y e ∧ d.canLay0 = true ∧ e.canLay0 = true ∧ d.depth ≤ 1000 ∧ Q (.bl (PyData.eqv d e)) H) := by
  intro pins s σ H x y v u Q I rx ry h
  obtain ⟨d, e, hd, he, sd, se, l, q⟩ := h
  obtain ⟨as, r1⟩ := Dp.reads I d x v hd rx
  obtain ⟨bs, r2⟩ := Dp.reads I e y u he ry
  exact SeqAt.compareEq_reads r1 r2 sd se (by have := Nat.min_le_left d.depth e.depth; omega) ⟨.bl _, H, I, rfl, q⟩
theorem od_eqV (hu : X.A.units + 1000 < cLine) : OpD X (compareOp .Eq) bEqV := by
  refine ⟨_, op_eqV hu, fun x y vx vy H G R Q rx ry w h f => ?_⟩
  obtain ⟨px, py, tx, ty, lx, q⟩ := h
  obtain ⟨a, b⟩ := lay_dat x tx
  obtain ⟨a', _⟩ := lay_dat y ty
  exact ⟨_, _, rx.dp (plain_pure _ px), ry.dp (plain_pure _ py), a, a', by omega, flat_up w f (by rw [eqv_plain x y px py]; exact q)⟩
end
end DD
set_option maxHeartbeats 1000000
namespace K14
open PySem PySem.W L2 SX Cm DD
local macro_rules | `(tactic| walk_at "d1") => `(tactic| first | (with_reducible refine w_go ?_) | ((with_reducible show dVar _ _ _ _); refine w_var rfl ?_) | (with_reducible refine w_exI ?_) | (with_reducible refine w_exB ?_) | (with_reducible refine w_exT ?_) | (with_reducible refine w_exS ?_) | (with_reducible refine w_parE ?_) | (with_reducible refine ly1 ?_) | (with_reducible refine ly2 ?_) | (with_reducible refine lt1' ?_) | (with_reducible refine lt2' ?_) | (with_reducible refine wx_enumT ?_) | (with_reducible refine w_callX ?_) | (with_reducible refine w_methX ?_) | (with_reducible refine w_raise ?_) | (with_reducible refine w_try ?_) | (with_reducible refine w_xSet ?_) | (with_reducible refine w_xExpr ?_) | (with_reducible refine w_xLst ?_) | (with_reducible refine w_xTup ?_) | (with_reducible refine w_xCons ?_) | (with_reducible refine w_xNil ?_) | (with_reducible refine w_xE ?_) | (with_reducible refine w_xCall ?_) | (with_reducible refine w_call0 ?_) | (with_reducible refine w_asgL ?_) | (with_reducible refine w_tupPd ?_) | (with_reducible refine wi_zip ?_) | (with_reducible refine w_delT ?_) | (with_reducible refine w_dc ?_) | (with_reducible refine w_revL ?_) | (with_reducible refine wi_revT ?_) | (with_reducible refine w_lstZip ?_) | (with_reducible refine w_chain ?_) | (with_reducible refine w_orT ?_) | (with_reducible refine w_try0 ?_) | (with_reducible refine w_xAsg ?_) | (with_reducible refine wi_zipTL ?_) | (with_reducible refine wi_zipSL ?_) | ((with_reducible show gT _ _ _ _ _ _); refine g_T ?_ rfl) | ((with_reducible show ∃ p, DV.ref _ = _ ∧ (∃ kvs, _) ∧ _); refine wx_get (by walk_at "gq") ?_) | ((with_reducible show ∃ kvs z, _ = _ ∧ _ = some (DO.dct _) ∧ _); refine wx_get2 (by walk_at "gq") ?_) | ((with_reducible show ∃ p kvs z, _ = _ ∧ _ = _ ∧ _ = some (DO.dct _) ∧ _); refine wx_in (by walk_at "gq") ?_) | ((with_reducible show List.length _ = _ ∧ _); refine w_len ?_ rfl) | ((with_reducible show List.length _ ≤ sizeLine ∧ _); refine w_sz ?_ (szl rfl)) | ((with_reducible show bIx _ (.int _) _ _); first | refine w_ix0 ?_ | refine w_ix1 ?_ | refine w_ix2 ?_ | refine w_ix3 ?_) | ((with_reducible show bIsi [_, _] _ _); first | refine w_isi (by decide) (a := "tuple") rfl rfl ?_ | refine w_isi (by decide) (a := "str") rfl rfl ?_ | refine w_isi (by decide) (a := "int") rfl rfl ?_ | refine w_isi (by decide) (a := "bool") rfl rfl ?_ | refine w_isi (by decide) (a := "NoneType") rfl rfl ?_) | ((with_reducible show ∃ ds, _ = DV.tup ds ∧ _); refine w_exT ?_) | ((with_reducible show ∃ z, _ = DV.str z ∧ _); refine w_exS ?_) | ((with_reducible show ∃ ds, [_] = [DV.tup ds] ∧ _); refine wx_enumT ?_) | ((with_reducible show bSl _ _ _ _ _); refine w_slT ?_) | ((with_reducible show bTuple [_] _ _); refine w_tupT ?_) | ((with_reducible show bLen [_] _ _); refine w_lenT ?_) | ((with_reducible show bTru _ _ _); first | refine w_truT ?_ | refine w_truN ?_ | refine w_truB ?_ | refine w_truI ?_) | ((with_reducible show bEq _ _ _ _ _); first | refine w_eqSS ?_ | refine w_eqII ?_ | refine w_neSS ?_ | refine w_neII ?_ | refine w_eqT0 ?_) | ((with_reducible show bInt _ _ (.int _) (.int _) _ _); refine w_int (by first | decide | exact ⟨by decide, by decide, by decide⟩ | exact .inl ⟨by decide, by decide⟩ | exact .inr ⟨by decide, by decide⟩) ?_) | ((with_reducible show if _ = true then _ else _); first | refine w_it (by first | rfl | decide +kernel) ?_ | refine w_if0 (by first | rfl | decide +kernel) ?_) | ((with_reducible show rcv "list" (.ref _) _ ∧ _); refine w_rcvL (by walk_at "gq") ?_) | ((with_reducible show bTuple [.ref _] _ _); refine w_tupL (by walk_at "gq") ?_) | ((with_reducible show bLen [.ref _] _ _); refine w_lenL (by walk_at "gq") ?_) | ((with_reducible show bTru (.ref _) _ _); refine w_truL (by walk_at "gq") ?_) | ((with_reducible show ∃ _ _, DV.ref _ = _ ∧ Ls _ _ _ ∧ _); refine wx_lst (by walk_at "gq") ?_) | ((with_reducible show ∃ _ _, [DV.ref _] = _ ∧ Ls _ _ _ ∧ _); refine wx_lstA (by walk_at "gq") ?_))
local macro_rules | `(tactic| walk_at "dd") => `(tactic| repeat (walk_at "d1"))
local macro_rules | `(tactic| walk_at "gq") => `(tactic| first | assumption | exact dupd_same | exact sub_get (by assumption) (by walk_at "gq") | exact upd_get (by assumption) (by walk_at "gq") (by walk_at "gn") | exact subx_get (by assumption) (by walk_at "gq") (by walk_at "gn") | (refine (dupd_ne ?_).trans ?_; (focus walk_at "gn"); walk_at "gq"))
local macro_rules | `(tactic| walk_at "gs") => `(tactic| first | assumption | exact Sub.refl _ | exact sub_tr (by assumption) (by walk_at "gs") | exact sub_up (by assumption) (by walk_at "gs") (by walk_at "g0") | exact sub_ux (by assumption) (by walk_at "gs") (by walk_at "g0") | (refine Sub.new ?_ ?_; (focus walk_at "gs"); walk_at "g0"))
local macro_rules | `(tactic| walk_at "gk") => `(tactic| first | assumption | exact db_sub (by assumption) (by walk_at "gk") | exact db_upd (by assumption) (by walk_at "gk") ⟨_, by walk_at "gq"⟩ | exact db_updD (by assumption) (by walk_at "gk") ⟨_, by walk_at "gq"⟩)
local macro_rules | `(tactic| walk_at "gu") => `(tactic| first | assumption | exact Upd.refl _ _ | exact upd_in (by assumption) (by walk_at "gu"))
local macro_rules | `(tactic| walk_at "gx") => `(tactic| first | assumption | exact SubX.refl _ _ | exact subx_sub (by assumption) (by walk_at "gx") | exact subx_upd (by assumption) (by walk_at "gx") | exact subx_tr (by assumption) (by walk_at "gx"))
local macro_rules | `(tactic| walk_at "gn") => `(tactic| first | assumption | exact Ne.symm (by assumption) | exact ne_ns (by assumption) ⟨_, by walk_at "gq"⟩ | exact ne_sn (by assumption) ⟨_, by walk_at "gq"⟩)
local macro_rules | `(tactic| walk_at "g0") => `(tactic| first | assumption | exact nn_ (by assumption) (by walk_at "gs"))
theorem hasA_of {P : Program} {w : World} {K : Frag} {mg : Str → Option Value} {base : Heap} {k : Nat} {f : Addr} {nm : Str} {ps : List Str} {dsp : DSp} (h : Has P w K mg base k nm ps dsp) (m : mg nm = some (.ref f)) : HasA P w K mg base k f ps dsp := by
  obtain ⟨f', a, m'⟩ := h.toA
  rw [m] at m'; cases m'; exact a
theorem hu1000 {k : Nat} {A : Around} (h : Room k A) (hk : 60 ≤ k) : A.units + 1000 < cLine := by have := h.un; omega
theorem eTs_app (a b : List Th) : eTs (a ++ b) = eTs a ++ eTs b := by rw [eTs_map, eTs_map, eTs_map, List.map_append]
theorem cut2 {a b c : DV} : cutD [a, b, c] none (some 2) = [a, b] := cutD_to [a, b, c] 2
/-- states can be compared -/
theorem eSt_cmp {s : Sta} (h1 : dpTs s.1 ≤ 310) (h2 : dpWs s.2 ≤ 310) (g1 : gdTs s.1) (g2 : gdWs s.2) : plain (eSt s) = true ∧ txB (eSt s) = true ∧ dpt (eSt s) ≤ 940 := by
  obtain ⟨a, b, c⟩ := eTs_cmp s.1
  obtain ⟨a', b', c'⟩ := eWs_cmp s.2
  refine ⟨?_, ?_, ?_⟩
  · show (plains (eTs s.1) && (plains (eWs s.2) && true)) = true
    rw [a, a']; rfl
  · show (txBs (eTs s.1) && (txBs (eWs s.2) && true)) = true
    rw [c (gdTs_tx _ g1), c' (gdWs_tx _ g2)]; rfl
  · show 1 + max (1 + dpts (eTs s.1)) (max (1 + dpts (eWs s.2)) 0) ≤ 940
    omega
theorem eSts_cmp : ∀ {xs : List Sta}, (∀ s ∈ xs, plain (eSt s) = true ∧ txB (eSt s) = true ∧ dpt (eSt s) ≤ 940) → plains (xs.map eSt) = true ∧ txBs (xs.map eSt) = true ∧ dpts (xs.map eSt) ≤ 940
  | [], _ => ⟨rfl, rfl, Nat.zero_le _⟩
  | s :: r, h => by
    obtain ⟨a, b, c⟩ := h s (List.mem_cons_self ..)
    obtain ⟨a', b', c'⟩ := eSts_cmp (xs := r) fun x hx => h x (List.mem_cons_of_mem _ hx)
    refine ⟨?_, ?_, ?_⟩
    · show (plain (eSt s) && plains (r.map eSt)) = true; rw [a, a']; rfl
    · show (txB (eSt s) && txBs (r.map eSt)) = true; rw [b, b']; rfl
    · show max (dpt (eSt s)) (dpts (r.map eSt)) ≤ 940; omega
theorem drawn_ts {ts : List Th} (h : ∀ t ∈ ts, DT 2 t) (l : ts.length ≤ 6) : szTs ts ≤ 1224 ∧ dpTs ts ≤ 2 ∧ gdTs ts := by
  obtain ⟨a, b⟩ := szTs_le (m := 6) h l
  have : BT 2 = 204 := rfl
  exact ⟨by omega, b, gdTs_iff.mpr fun t ht => (h t ht).2.2⟩
section
variable {P : Program} {w : World} {K : Frag} {mg : Str → Option Value} {base : Heap}
theorem all_tw (a1 : At K mg "_law_thing" s_L_thing A_L_thing) (a2 : At K mg "_law_any_word" s_L_any_word A_L_any_word) (B : BI mg) (cd : Has P w K mg base 2 "_law_draw" A_L_draw SP_drawB) (cn : Has P w K mg base 3 "_law_number" A_L_number SP_num) (cc : Has P w K mg base 6 "_law_cut" A_L_cut (SP_cut 4)) (cs : Has P w K mg base 3 "_law_shuffle" A_L_shuffle SP_shf) :
    ∀ k, Has P w K mg base (2 * k + 7) "_law_thing" A_L_thing (SP_thing k) ∧ Has P w K mg base (2 * k + 8) "_law_any_word" A_L_any_word (SP_word k) := by
  intro k
  induction k with
  | zero =>
    have t : Has P w K mg base (2 * 0 + 7) "_law_thing" A_L_thing (SP_thing 0) := by
      refine at_mk a1 sc_L_thing fun f cdv A outer s H E hr ds G R hl h => ?_
      obtain ⟨d, j, e, _⟩ := h
      exact absurd e (by omega)
    exact ⟨t, h_L_any_word a2 B cd t cs⟩
  | succ k ih =>
    have t : Has P w K mg base (2 * (k + 1) + 7) "_law_thing" A_L_thing (SP_thing (k + 1)) := h_L_thing a1 B cd cn cc ih.2 ih.1
    exact ⟨t, h_L_any_word a2 B cd t cs⟩
abbrev N_L_law : List Str := ["_law_script", "_law_deck_here", "_law_book_here", "_law_k", "_law_stack", "_law_beneath", "_law_many", "_law_row", "_law_found", "_law_fault", "_law_most", "_law_one", "_law_other", "_law_some", "_law_more", "_law_state"]
abbrev A_L_law : List Str := ["_law_script"]
theorem sc_L_law : FnScope N_L_law A_L_law (defScope s_L_law) := ⟨rfl, rfl, rfl, by decide +kernel, rfl, by decide +kernel, by decide +kernel⟩
theorem ok_law {f gd : Addr} {fd dd : FuncData} (F : Fun K "law" "law" s_L_law f fd) (B : BI mg) (B_min : mg "min" = none) (DE : FnOk P w K mg base CX0 2 gd dd ["_law_script", "_law_most"] (spDeckB K)) (bDE : L2.Binds K dd ["_law_script", "_law_most"] []) (kDE : keepIn K (.ref gd) = true) (mDE : mg "_law_deck" = some (.ref gd))
    (c_p_run : HasXD P w K mg base 6 "run" A_p_run SP_run) (c_p_states : HasXD P w K mg base 6 "states" A_p_states SP_sts)
    (c_L_draw : Has P w K mg base 2 "_law_draw" A_L_draw SP_drawB)
    (c_L_book : Has P w K mg base 13 "_law_book" A_L_book SP_bk)
    (c_L_thing : Has P w K mg base 13 "_law_thing" A_L_thing (SP_thing 3))
    (c_L_cut : Has P w K mg base 6 "_law_cut" A_L_cut (SP_cut 4))
    (c_L_any_word : Has P w K mg base 14 "_law_any_word" A_L_any_word (SP_word 3))
    (c_L_grown : Has P w K mg base 213 "_law_grown" A_L_grown SP_grown)
    (c_L_states : Has P w K mg base 212 "_law_states" A_L_states SP_lst)
    : FnOk P w K mg base CX0 214 f fd ["_law_script"] (spLaw K) := by
  refine F.ok sc_L_law (fun vs H Q E h => ?_) (fun cdv A outer s H vs Q E hr h => ?_)
  · obtain ⟨a, ns, rfl, _⟩ := h
    rfl
  obtain ⟨a, ns, rfl, hS, h63, q⟩ := h
  refine ⟨_, pss_cons (ps_set (i := 1) sc_L_law.nd rfl (.inr rfl) (pe_call DE (hr.mono (by omega)) rfl mDE kDE bDE .nil pass0 (pa_cons (pv 0) (pa_cons pe_int pa_nil))))
    (dss_cons (ds_set (i := 2) sc_L_law.nd rfl (.inl rfl) (de_call c_L_book (hr.mono (by omega)) rfl (da_cons (dv 1) da_nil)))
    (dss_cons (ds_setLc (i := 4) (own := [("_law_k", 3)]) (lt1 (i := 3) (by decide)) rfl sc_L_law.nd rfl rfl (sw_true rfl rfl rfl (by decide +kernel)) (di_range B.range rfl (da_cons (de_call c_L_draw (hr.mono (by omega)) rfl (da_cons (dv 1) (da_cons de_int da_nil))) da_nil)) (blkOk_by (own := [("_law_k", 3)]) (N := N_L_law) (sc := defScope s_L_law) (by decide +kernel)) (fun _ _ _ _ _ => pg_name (i := 3) sc_L_law.nd rfl (Or.inl rfl)) (fun _ _ _ _ _ => dts_nil) (fun _ _ _ _ _ => (de_call c_L_thing (hr.mono (by omega)) rfl (da_cons (dv 1) (da_cons de_int da_nil)))))
    (dss_cons (ds_set (i := 5) sc_L_law.nd rfl (.inr rfl) (de_callTy cd_tuple B.tup rfl (by decide +kernel) (da_cons (de_lc (own := [("_law_k", 3)]) (lt1 (i := 3) (by decide)) rfl sc_L_law.nd (di_range B.range rfl (da_cons (de_call c_L_draw (hr.mono (by omega)) rfl (da_cons (dv 1) (da_cons de_int da_nil))) da_nil)) (blkOk_by (own := [("_law_k", 3)]) (N := N_L_law) (sc := defScope s_L_law) (by decide +kernel)) (fun _ _ _ _ _ => pg_name (i := 3) sc_L_law.nd rfl (Or.inl rfl)) (fun _ _ _ _ _ => dts_nil) (fun _ _ _ _ _ => (de_call c_L_thing (hr.mono (by omega)) rfl (da_cons (dv 1) (da_cons de_int da_nil))))) da_nil)))
    (dss_cons (ds_set (i := 6) sc_L_law.nd rfl (.inl rfl) (de_call c_L_draw (hr.mono (by omega)) rfl (da_cons (dv 1) (da_cons de_int da_nil))))
    (dss_cons (ds_set (i := 7) sc_L_law.nd rfl (.inl rfl) (de_callTy cd_list B.lst rfl (by decide +kernel) (da_cons (de_call c_L_cut (hr.mono (by omega)) rfl (da_cons (de_lc (own := [("_law_k", 3)]) (lt1 (i := 3) (by decide)) rfl sc_L_law.nd (di_range B.range rfl (da_cons (dv 6) da_nil)) (blkOk_by (own := [("_law_k", 3)]) (N := N_L_law) (sc := defScope s_L_law) (by decide +kernel)) (fun _ _ _ _ _ => pg_name (i := 3) sc_L_law.nd rfl (Or.inl rfl)) (fun _ _ _ _ _ => dts_nil) (fun _ _ _ _ _ => (de_call c_L_any_word (hr.mono (by omega)) rfl (da_cons (dv 1) (da_cons de_int da_nil))))) (da_cons de_int da_nil))) da_nil)))
    (dss_cut (ds_if (dt_cmp od_gt (de_call c_L_draw (hr.mono (by omega)) rfl (da_cons (dv 1) (da_cons de_int da_nil))) de_int (nomark _)) (dss_one (ds_set (i := 7) sc_L_law.nd rfl (.inl rfl) (de_call c_L_grown (hr.mono (by omega)) rfl (da_cons (dv 1) (da_cons (dv 4) (da_cons (dv 2) (da_cons (dv 6) da_nil))))))) dss_nil)
    (dss_cons (ds_asg (de_call c_L_states (hr.mono (by omega)) rfl (da_cons (dv 4) (da_cons (dv 7) (da_cons (dv 2) (da_cons de_int da_nil))))) (dg_tup rfl (dgs_cons (dg_name (i := 8) sc_L_law.nd rfl (.inl rfl)) (dgs_cons (dg_name (i := 9) sc_L_law.nd rfl (.inl rfl)) dgs_nil))))
    (dss_cons (ds_set (i := 10) sc_L_law.nd rfl (.inl rfl) (de_callB (cd_min2 rfl) B_min rfl (by decide +kernel) (da_cons (de_op od_sub (de_callB cd_len B.len rfl (by decide +kernel) (da_cons (dv 8) da_nil)) de_int) (da_cons (de_call c_L_draw (hr.mono (by omega)) rfl (da_cons (dv 1) (da_cons de_int da_nil))) da_nil))))
    (dss_cons (ds_set (i := 11) sc_L_law.nd rfl (.inl rfl) (de_callX (RX := fun _ _ => False) (E := fun _ _ _ => False) c_p_run.1 (fun _ _ _ h => h.elim) takes0 (hr.mono (by omega)) rfl (da_cons (de_callTy cd_tuple B.tup rfl (by decide +kernel) (da_cons (dv 7) da_nil)) (da_cons (de_callTy cd_tuple B.tup rfl (by decide +kernel) (da_cons (dv 4) da_nil)) (da_cons (dv 10) (da_cons (dv 2) da_nil))))))
    (dss_cons (ds_if (dt_cmp (od_eq hr.units) (de_ix (dv 11) de_int) de_str (nomark _)) (dss_one (ds_ret (dv 9))) dss_nil)
    (dss_cons (ds_set (i := 12) sc_L_law.nd rfl (.inl rfl) (de_callX (RX := fun _ _ => False) (E := fun _ _ _ => False) c_p_run.1 (fun _ _ _ h => h.elim) takes0 (hr.mono (by omega)) rfl (da_cons (de_callTy cd_tuple B.tup rfl (by decide +kernel) (da_cons (dv 7) da_nil)) (da_cons (de_op od_add (dv 5) (de_callTy cd_tuple B.tup rfl (by decide +kernel) (da_cons (dv 4) da_nil))) (da_cons (dv 10) (da_cons (dv 2) da_nil))))))
    (dss_cons (ds_if (dt_w (dw_or (dt_cmp (od_neV (hu1000 hr (by decide))) (de_slice (dv 12) do_none (do_some de_int)) (de_slice (dv 11) do_none (do_some de_int)) (nomark _)) (dw_or1 (dt_cmp (od_neV (hu1000 hr (by decide))) (de_ix (dv 12) de_int) (de_tup (da_cons (de_op od_add (dv 5) (de_ix (de_ix (dv 11) de_int) de_int)) (da_cons (de_ix (de_ix (dv 11) de_int) de_int) da_nil))) (nomark _))))) (dss_one (ds_ret de_bl)) dss_nil)
    (dss_cons (ds_set (i := 13) sc_L_law.nd rfl (.inl rfl) (de_callX (RX := fun _ _ => False) (E := fun _ _ _ => False) c_p_states.1 (fun _ _ _ h => h.elim) takes0 (hr.mono (by omega)) rfl (da_cons (de_callTy cd_tuple B.tup rfl (by decide +kernel) (da_cons (dv 7) da_nil)) (da_cons (de_callTy cd_tuple B.tup rfl (by decide +kernel) (da_cons (dv 4) da_nil)) (da_cons (dv 10) (da_cons (dv 2) da_nil))))))
    (dss_cons (ds_set (i := 14) sc_L_law.nd rfl (.inl rfl) (de_callX (RX := fun _ _ => False) (E := fun _ _ _ => False) c_p_states.1 (fun _ _ _ h => h.elim) takes0 (hr.mono (by omega)) rfl (da_cons (de_callTy cd_tuple B.tup rfl (by decide +kernel) (da_cons (dv 7) da_nil)) (da_cons (de_op od_add (dv 5) (de_callTy cd_tuple B.tup rfl (by decide +kernel) (da_cons (dv 4) da_nil))) (da_cons (dv 10) (da_cons (dv 2) da_nil))))))
    (dss_cons (ds_if (dt_w (dw_or (dt_cmp (od_neV (hu1000 hr (by decide))) (dv 14) (de_callTy cd_tuple B.tup rfl (by decide +kernel) (da_cons (de_lc (own := [("_law_state", 15)]) (lt1 (i := 15) (by decide)) rfl sc_L_law.nd (di_tup (dv 13)) (blkOk_by (own := [("_law_state", 15)]) (N := N_L_law) (sc := defScope s_L_law) (by decide +kernel)) (fun _ _ _ _ _ => pg_name (i := 15) sc_L_law.nd rfl (Or.inl rfl)) (fun _ _ _ _ _ => dts_nil) (fun _ _ _ _ _ => (de_tup (da_cons (de_op od_add (dv 5) (de_ix (dv 15) de_int)) (da_cons (de_ix (dv 15) de_int) da_nil))))) da_nil)) (nomark _)) (dw_or1 (dt_cmp (od_neV (hu1000 hr (by decide))) (de_callB cd_len B.len rfl (by decide +kernel) (da_cons (dv 13) da_nil)) (de_op od_add (de_ix (dv 11) de_int) de_int) (nomark _))))) (dss_one (ds_ret de_bl)) dss_nil)
    (dss_one (ds_ret (de_cmp (od_eqV (hu1000 hr (by decide))) (de_callX (RX := fun _ _ => False) (E := fun _ _ _ => False) c_p_run.1 (fun _ _ _ h => h.elim) takes0 (hr.mono (by omega)) rfl (da_cons (de_tup da_nil) (da_cons (de_ix (de_ix (dv 11) de_int) de_int) (da_cons (dv 10) (da_cons (dv 2) da_nil))))) (de_tup (da_cons de_str (da_cons de_int (da_cons (de_tup (da_cons (de_ix (de_ix (dv 11) de_int) de_int) (da_cons (de_tup da_nil) da_nil))) da_nil)))) (nomark _))))))))))))))))))), ?_⟩
  refine ⟨_, rfl, a, ns, 1500, rfl, hS, h63, by decide, fun d H1 s1 nd D1 => ?_⟩
  refine law_goB (δ := [some (.ref a), some (.ref d), none, none, none, none, none, none, none, none, none, none, none, none, none, none]) D1 (.cons (.ref a) (.cons (.ref d) (Sl.nones 14))) (fun H' => q H') fun G hk => ?_
  clear D1 s1 nd
  walk_at "dd"
  refine ⟨d, rfl, hk, fun bk hB lbk => ?_⟩
  have bok := hB.bok
  walk_at "dd"
  refine ⟨d, 7, rfl, hk, by decide, by decide, fun r1 a1 b1 => ?_⟩
  walk_at "dd"
  refine wx_rng (by omega) (by omega) ?_
  refine lcs_each (fun _ y => ∃ t, y = eT t ∧ DT 2 t) (fun _ _ => trivial) (by rw [rng_len]; omega) ?_ ?_
  · intro i y hy G' k1 k0 s' e1
    walk_at "dd"
    exact ⟨d, 2, rfl, Nat.le_refl _, rfl, by walk_at "gk", fun t ht => e1 _ ⟨t, rfl, ht⟩⟩
  intro p4 G4 acc n4 s4 h4 la he
  rw [rng_len] at la
  obtain ⟨S, rfl, hS⟩ := acc_ts he
  rw [eTs_len] at la
  obtain ⟨zS, dS, gS⟩ := drawn_ts hS (by omega)
  clear he hS la
  walk_at "dd"
  have hk4 : HasDb G4 d := by walk_at "gk"
  refine ⟨d, 7, rfl, hk4, by decide, by decide, fun r2 a2 b2 => ?_⟩
  walk_at "dd"
  refine wx_rng (by omega) (by omega) ?_
  refine lcs_each (fun _ y => ∃ t, y = eT t ∧ DT 2 t) (fun _ _ => trivial) (by rw [rng_len]; omega) ?_ ?_
  · intro i y hy G' k1 k0 s' e1
    walk_at "dd"
    exact ⟨d, 2, rfl, Nat.le_refl _, rfl, by walk_at "gk", fun t ht => e1 _ ⟨t, rfl, ht⟩⟩
  intro p5 G5 acc n5 s5 h5 la he
  rw [rng_len] at la
  obtain ⟨Bn, rfl, hS⟩ := acc_ts he
  rw [eTs_len] at la
  obtain ⟨zB, dB, gB⟩ := drawn_ts hS (by omega)
  clear he hS la
  walk_at "dd"
  have hk5 : HasDb G5 d := by walk_at "gk"
  refine ⟨d, 9, rfl, hk5, by decide, by decide, fun r3 a3 b3 => ?_⟩
  obtain ⟨many, rfl⟩ := Int.eq_ofNat_of_zero_le a3
  walk_at "dd"
  refine wx_rng (by omega) (by omega) ?_
  refine lcs_each (fun _ y => ∃ t, y = eW t ∧ DW 2 t) (fun _ _ => trivial) (by rw [rng_len]; omega) ?_ ?_
  · intro i y hy G' k1 k0 s' e1
    walk_at "dd"
    exact ⟨d, 2, rfl, Nat.le_refl _, rfl, by walk_at "gk", fun t ht => e1 _ ⟨t, rfl, ht⟩⟩
  intro p6 G6 acc n6 s6 h6 la he
  rw [rng_len] at la
  obtain ⟨ws, rfl, hws⟩ := acc_ws he
  rw [eWs_len] at la
  have wk := Wk.of (n := 8) hws (by omega)
  have wz := wk.z
  have wd := wk.d
  have b2' : BT 2 = 204 := rfl
  clear he hws la
  walk_at "dd"
  refine ⟨p6, ws, 55, rfl, by decide, h6, by omega, by omega, fun ii hii => ?_⟩
  walk_at "dd"
  refine w_lstT fun p7 n7 => ?_
  refine abs_new n7 fun G7 s7 h7 => ?_
  walk_at "dd"
  have wk7 : Wk 60 60 (ws.take ii) := by
    obtain ⟨t1, t2⟩ := szWs_take ws ii
    exact ⟨gdWs_iff.mpr fun w hw => gdWs_iff.mp wk.g w (List.mem_of_mem_take hw), by omega, by omega⟩
  generalize ws.take ii = T7 at h7 wk7
  have hk7 : HasDb G7 d := by walk_at "gk"
  have h47 : G7 p4 = some (.lst (eTs S)) := s7 _ _ (s6 _ _ (s5 _ _ h4))
  clear wk wz wd h6 n7 n6 h5 n5 n4 h4 hk5 hk4 s7 s6 s5 s4 hii
  refine w_cut (fun δ' G' => ∃ (pr : Addr) (T : List Wo), δ' = [some (.ref a), some (.ref d), some (.tup (eBk bk)), none, some (.ref p4), some (.tup (eTs Bn)), some (.int (many : Int)), some (.ref pr), none, none, none, none, none, none, none, none] ∧ HasDb G' d ∧ G' p4 = some (.lst (eTs S)) ∧ G' pr = some (.lst (eWs T)) ∧ Wk 60 60 T) ?_ ?_
  · walk_at "dd"
    refine ⟨d, 4, rfl, hk7, by decide, by decide, fun r4 a4 b4 => ?_⟩
    walk_at "dd"
    refine w_iteD (fun _ => ?_) (fun _ => ?_)
    · walk_at "dd"
      refine ⟨d, p4, S, bk, 100, many, rfl, hk7, h47, gS, by omega, by omega, bok, by decide, by omega, by omega, fun pr T G8 s8 h8 wk8 => ?_⟩
      walk_at "dd"
      exact ⟨pr, T, rfl, by walk_at "gk", s8 _ _ h47, h8, wk8⟩
    · walk_at "dd"
      exact ⟨p7, T7, rfl, hk7, h47, h7, wk7⟩
  rintro δ' G8 ⟨pr, T, rfl, hk8, hp, hr8, wk⟩
  clear h7 wk7 hk7 h47
  have wz := wk.z
  have wd := wk.d
  walk_at "dd"
  refine ⟨p4, pr, S, T, bk, 100, 60, rfl, hp, hr8, ⟨gS, wk.g, by show szTs S ≤ 20000; omega, by show szWs T ≤ 20000; omega⟩, ⟨by show dpTs S ≤ 200; omega, by show dpWs T ≤ 200; omega, by show szTs S ≤ 3000; omega, by show szWs T ≤ 3000; omega⟩, bok, by decide, by decide, fun fa b ps xs G9 s9 hf hst ch h0 lx hb dx => ?_⟩
  walk_at "dd"
  rw [List.length_map, hst.len]
  have hk9 : HasDb G9 d := by walk_at "gk"
  refine ⟨d, 70, rfl, hk9, by decide, by decide, fun r5 a5 b5 => ?_⟩
  walk_at "dd"
  refine w_min ?_
  have l0 : 0 < xs.length := (List.getElem?_eq_some_iff.mp h0).1
  obtain ⟨mo, emo, lmo⟩ : ∃ mo : Nat, (if r5 < ((xs.length : Nat) : Int) - 1 then r5 else ((xs.length : Nat) : Int) - 1) = (mo : Nat) ∧ mo < xs.length := by
    by_cases h : r5 < ((xs.length : Nat) : Int) - 1
    · exact ⟨r5.toNat, by rw [if_pos h]; omega, by omega⟩
    · exact ⟨xs.length - 1, by rw [if_neg h]; omega, by omega⟩
  rw [emo]
  have hp9 := s9 _ _ hp
  have hr9 := s9 _ _ hr8
  have hx := List.getElem?_eq_getElem lmo
  generalize hsd : xs[mo] = sm at hx
  have oks := ch.ok _ (List.mem_of_getElem? hx)
  obtain ⟨dps, zzs⟩ := dx _ (List.mem_of_getElem? hx)
  have e1 := endOf_in hx
  have ch2 : Chn bk (xs.map fun s => (Bn ++ s.1, s.2)) := ch.under bok gB fun s hs => by have := (dx s hs).2; omega
  have hx2 : (xs.map fun s => (Bn ++ s.1, s.2))[mo]? = some (Bn ++ sm.1, sm.2) := by rw [List.getElem?_map, hx]; rfl
  have h02 : (xs.map fun s => (Bn ++ s.1, s.2))[0]? = some (Bn ++ S, T) := by rw [List.getElem?_map, h0]; rfl
  have e2 := endOf_in hx2
  have lx2 : (xs.map fun s => (Bn ++ s.1, s.2)).length = xs.length := List.length_map ..
  have e1 : endOf xs mo = (if sm.2.isEmpty = true then ("ended" : Str) else "on", mo, sm) := e1
  have e2 : endOf (xs.map fun s => (Bn ++ s.1, s.2)) mo = (if sm.2.isEmpty = true then ("ended" : Str) else "on", mo, (Bn ++ sm.1, sm.2)) := e2
  have nf : ((if sm.2.isEmpty = true then ("ended" : Str) else "on") = "fault") → False := by
    cases sm.2.isEmpty
    · exact fun e => absurd (show ("on" : Str) = "fault" from e) (by decide +kernel)
    · exact fun e => absurd (show ("ended" : Str) = "fault" from e) (by decide +kernel)
  have nz : PyData.strOk (if sm.2.isEmpty = true then ("ended" : Str) else "on") = true := by cases sm.2.isEmpty <;> decide +kernel
  generalize (if sm.2.isEmpty = true then ("ended" : Str) else "on") = z0 at e1 e2 nf nz
  have e1a : (endOf xs mo).1 = z0 := by rw [e1]
  have e1b : (endOf xs mo).2.1 = mo := by rw [e1]
  have e1c : (endOf xs mo).2.2 = sm := by rw [e1]
  have e2a : (endOf (xs.map fun s => (Bn ++ s.1, s.2)) mo).1 = z0 := by rw [e2]
  have e2b : (endOf (xs.map fun s => (Bn ++ s.1, s.2)) mo).2.1 = mo := by rw [e2]
  have e2c : (endOf (xs.map fun s => (Bn ++ s.1, s.2)) mo).2.2 = (Bn ++ sm.1, sm.2) := by rw [e2]
  have lB := szTs_len Bn
  have lS := szTs_len S
  have zsm : szTs sm.1 ≤ 3000 := dps.zS
  have lsm := szTs_len sm.1
  have dS1 : dpTs sm.1 ≤ 200 := dps.dS
  have dS2 : dpWs sm.2 ≤ 200 := dps.dT
  have gS1 : gdTs sm.1 := oks.gS
  have gS2 : gdWs sm.2 := oks.gT
  walk_at "dd"
  refine ⟨T, S, mo, _, bk, 100, xs, rfl, bok, by decide, .inr rfl, ch, h0, fun i s _ _ hl => absurd hl (by omega), ?_⟩
  rw [e1a, e1b, e1c]
  walk_at "dd"
  refine w_if0 (decide_eq_false nf) ?_
  walk_at "dd"
  refine w_addT (mid (by rw [eTs_len, eTs_len]; omega)) ?_
  walk_at "dd"
  rw [← eTs_app]
  refine ⟨T, Bn ++ S, mo, _, bk, 100, _, rfl, bok, by decide, .inr rfl, ch2, h02, fun i s _ _ hl => absurd hl (by omega), ?_⟩
  rw [e2a, e2b, e2c]
  walk_at "dd"
  rw [cut2, cut2]
  refine ⟨rfl, rfl, ?_, ?_, by show 1 + max 0 (max 0 0) ≤ 1000; decide, ?_⟩
  · show (PyData.strOk z0 && (true && true)) = true; rw [nz]; rfl
  · show (PyData.strOk z0 && (true && true)) = true; rw [nz]; rfl
  rw [decide_eq_true (rfl : DV.tup [.str z0, .int (mo : Int)] = .tup [.str z0, .int (mo : Int)])]
  walk_at "dd"
  rw [show eSt sm = .tup [.tup (eTs sm.1), .tup (eWs sm.2)] from rfl]
  walk_at "dd"
  refine w_addT (mid (by rw [eTs_len, eTs_len]; omega)) ?_
  walk_at "dd"
  rw [← eTs_app]
  obtain ⟨c1, c2, c3⟩ := eSt_cmp (s := (Bn ++ sm.1, sm.2)) (by show dpTs (Bn ++ sm.1) ≤ 310; rw [dpTs_app]; omega) (by show dpWs sm.2 ≤ 310; omega) (gdTs_app.mpr ⟨gB, gS1⟩) gS2
  refine ⟨c1, c1, c2, c2, by omega, ?_⟩
  rw [show decide (eSt (Bn ++ sm.1, sm.2) = DV.tup [.tup (eTs (Bn ++ sm.1)), .tup (eWs sm.2)]) = true from decide_eq_true rfl]
  walk_at "dd"
  refine ⟨T, S, mo, _, bk, 100, xs, rfl, bok, by decide, .inr rfl, ch, by omega, h0, fun i s _ _ hl => absurd hl (by omega), ?_⟩
  walk_at "dd"
  refine w_addT (mid (by rw [eTs_len, eTs_len]; omega)) ?_
  walk_at "dd"
  rw [← eTs_app]
  refine ⟨T, Bn ++ S, mo, _, bk, 100, _, rfl, bok, by decide, .inr rfl, ch2, by omega, h02, fun i s _ _ hl => absurd hl (by omega), ?_⟩
  rw [← List.map_take, List.map_map]
  walk_at "dd"
  have hdx : ∀ s ∈ xs.take (mo + 1), SDp s ∧ SOk s := fun s hs => ⟨(dx s (List.mem_of_mem_take hs)).1, ch.ok s (List.mem_of_mem_take hs)⟩
  have ltk : (xs.take (mo + 1)).length = mo + 1 := by rw [List.length_take]; omega
  have l62 : mo + 1 ≤ 1000 := by omega
  generalize xs.take (mo + 1) = ys at hdx ltk
  refine lcs_pure (fun d => match d with | .tup [.tup x, y] => some (.tup [.tup (eTs Bn ++ x), y]) | _ => none) (fun _ _ => trivial) (by rw [List.length_map]; omega) ?_ ?_
  · intro dd hdd G' k1 k0 s' h1' h0'
    obtain ⟨sy, hsy, rfl⟩ := List.mem_map.mp hdd
    have z1 : szTs sy.1 ≤ 3000 := (hdx sy hsy).1.zS
    have z2 := szTs_len sy.1
    rw [show eSt sy = .tup [.tup (eTs sy.1), .tup (eWs sy.2)] from rfl] at h1' ⊢
    walk_at "dd"
    refine w_addT (mid (by rw [eTs_len, eTs_len]; omega)) ?_
    walk_at "dd"
    exact h1' _ rfl
  intro p10 G10 n10 s10 h10
  have e10 : (ys.map eSt).filterMap (fun d => match d with | .tup [.tup x, y] => some (.tup [.tup (eTs Bn ++ x), y]) | _ => none) = ys.map (eSt ∘ fun s => (Bn ++ s.1, s.2)) := by
    rw [List.filterMap_map]
    have : ((fun d => match d with | .tup [.tup x, y] => some (DV.tup [.tup (eTs Bn ++ x), y]) | _ => none) ∘ eSt) = fun s => some ((eSt ∘ fun s : Sta => (Bn ++ s.1, s.2)) s) := by
      funext s
      show some (DV.tup [.tup (eTs Bn ++ eTs s.1), .tup (eWs s.2)]) = some (DV.tup [.tup (eTs (Bn ++ s.1)), .tup (eWs s.2)])
      rw [eTs_app]
    rw [this]
    exact List.filterMap_eq_map ▸ rfl
  rw [e10] at h10
  walk_at "dd"
  have cmp : plains (ys.map (eSt ∘ fun s => (Bn ++ s.1, s.2))) = true ∧ txBs (ys.map (eSt ∘ fun s => (Bn ++ s.1, s.2))) = true ∧ dpts (ys.map (eSt ∘ fun s => (Bn ++ s.1, s.2))) ≤ 940 := by
    rw [← List.map_map]
    refine eSts_cmp fun s hs => ?_
    obtain ⟨sy, hsy, rfl⟩ := List.mem_map.mp hs
    obtain ⟨q1, q2⟩ := hdx sy hsy
    have := q1.dS
    exact eSt_cmp (by show dpTs (Bn ++ sy.1) ≤ 310; rw [dpTs_app]; omega) (by have := q1.dT; show dpWs sy.2 ≤ 310; omega) (gdTs_app.mpr ⟨gB, q2.gS⟩) q2.gT
  obtain ⟨m1, m2, m3⟩ := cmp
  refine ⟨m1, m1, m2, m2, by show 1 + dpts _ ≤ 1000; omega, ?_⟩
  rw [decide_eq_true (rfl : DV.tup (ys.map (eSt ∘ fun s => (Bn ++ s.1, s.2))) = .tup (ys.map (eSt ∘ fun s => (Bn ++ s.1, s.2))))]
  walk_at "dd"
  refine ⟨rfl, rfl, rfl, rfl, by show 0 ≤ 1000; decide, ?_⟩
  rw [decide_eq_true (show DV.int (((ys.map eSt).length : Nat) : Int) = .int ((mo : Int) + 1) from by rw [List.length_map, ltk]; rfl)]
  walk_at "dd"
  refine ⟨[], sm.1, mo, _, bk, 100, [(sm.1, [])], rfl, bok, by decide, .inr rfl, ⟨fun i s s' h1 h2 => (nomatch h2), fun s hs => by rw [List.mem_singleton.mp hs]; exact ⟨gS1, trivial, by show szTs sm.1 ≤ 20000; omega, Nat.zero_le _⟩⟩, rfl, fun i s hi hs _ => ?_, ?_⟩
  · have : i = 0 := by have : i + 1 = 1 := hi; omega
    subst this
    cases hs; rfl
  have e3 : endOf [(sm.1, [])] mo = (("ended" : Str), 0, (sm.1, [])) := by
    cases mo with
    | zero => rfl
    | succ n => exact endOf_out (xs := [(sm.1, ([] : List Wo))]) (most := n + 1) (i := 0) (by show 1 ≤ n + 1; omega) rfl rfl
  rw [e3]
  walk_at "dd"
  obtain ⟨c1, c2, c3⟩ := eSt_cmp (s := (sm.1, [])) (by show dpTs sm.1 ≤ 310; omega) (by show 0 ≤ 310; decide) gS1 trivial
  have oke : PyData.strOk "ended" = true := by decide +kernel
  refine ⟨?_, ?_, ?_, ?_, ?_, ?_⟩
  · show (true && (true && (plain (eSt (sm.1, [])) && true))) = true; rw [c1]; rfl
  · show (true && (true && (plain (eSt (sm.1, [])) && true))) = true; rw [c1]; rfl
  · show (PyData.strOk "ended" && (true && (txB (eSt (sm.1, [])) && true))) = true; rw [c2, oke]; rfl
  · show (PyData.strOk "ended" && (true && (txB (eSt (sm.1, [])) && true))) = true; rw [c2, oke]; rfl
  · show 1 + max 0 (max 0 (max (dpt (eSt (sm.1, []))) 0)) ≤ 1000; omega
  · show DV.bl _ = .bl true
    rw [decide_eq_true]
    rfl
end
end K14
namespace K14
open PySem PySem.W L2 SX Cm DD
theorem all_mk {l : PySem.W.OpenLaw} {w : World} {K : PySem.W.Frag} {h : Heap} {mg : Str → Option Value} {fa f1 f2 f3 f4 f5 f6 f7 f8 f9 f10 f11 f12 f13 f14 f15 f16 f17 f18 f19 f20 f21 f22 f23 f24 f25 f26 f27 f28 f29 f30 f31 f32 f33 f34 f35 f36 f37 f38 f39 f40 f41 f42 f43 f44 f45 f46 f47 f48 f49 f50 : Addr} {es3 es4 : Array DictEntry} {en3 en4 : Nat} {f_run T_run : Addr} {ods_run ans_run odT_run : Option Addr} {sls_run slT_run : Array (Option Value)} {ocs_run kVs_run dcs_run pms_run cds_run cts_run ocT_run : Value} {nT_run : Nat} {f_states T_states : Addr} {ods_states ans_states odT_states : Option Addr} {sls_states slT_states : Array (Option Value)} {ocs_states kVs_states dcs_states pms_states cds_states cts_states ocT_states : Value} {nT_states : Nat} (X : K.In h) (G : h.Ns mainGlobals mg) (hfa : mg "law" = some (.ref fa))
    {od1 an1 od2 an2 od3 an3 od4 an4 od5 an5 od6 an6 od7 an7 od8 an8 od9 an9 od10 an10 od11 an11 od12 an12 od13 an13 od14 an14 od15 an15 od16 an16 od17 an17 od18 an18 od19 an19 od20 an20 od21 an21 od22 an22 od23 an23 od24 an24 od25 an25 od26 an26 od27 an27 od28 an28 od29 an29 od30 an30 od31 an31 od32 an32 od33 an33 od34 an34 od35 an35 od36 an36 od37 an37 od38 an38 od39 an39 od40 an40 od41 an41 od42 an42 od43 an43 od44 an44 od45 an45 od46 an46 od47 an47 od48 an48 od49 an49 od50 an50 : Option Addr} {sl1 sl2 sl3 sl4 sl5 sl6 sl7 sl8 sl9 sl10 sl11 sl12 sl13 sl14 sl15 sl16 sl17 sl18 sl19 sl20 sl21 sl22 sl23 sl24 sl25 sl26 sl27 sl28 sl29 sl30 sl31 sl32 sl33 sl34 sl35 sl36 sl37 sl38 sl39 sl40 sl41 sl42 sl43 sl44 sl45 sl46 sl47 sl48 sl49 sl50 : Array (Option Value)} {oc1 kV1 dc1 pm1 cd1 ct1 oc2 kV2 dc2 pm2 cd2 ct2 oc3 kV3 dc3 pm3 cd3 ct3 oc4 kV4 dc4 pm4 cd4 ct4 oc5 kV5 dc5 pm5 cd5 ct5 oc6 kV6 dc6 pm6 cd6 ct6 oc7 kV7 dc7 pm7 cd7 ct7 oc8 kV8 dc8 pm8 cd8 ct8 oc9 kV9 dc9 pm9 cd9 ct9 oc10 kV10 dc10 pm10 cd10 ct10 oc11 kV11 dc11 pm11 cd11 ct11 oc12 kV12 dc12 pm12 cd12 ct12 oc13 kV13 dc13 pm13 cd13 ct13 oc14 kV14 dc14 pm14 cd14 ct14 oc15 kV15 dc15 pm15 cd15 ct15 oc16 kV16 dc16 pm16 cd16 ct16 oc17 kV17 dc17 pm17 cd17 ct17 oc18 kV18 dc18 pm18 cd18 ct18 oc19 kV19 dc19 pm19 cd19 ct19 oc20 kV20 dc20 pm20 cd20 ct20 oc21 kV21 dc21 pm21 cd21 ct21 oc22 kV22 dc22 pm22 cd22 ct22 oc23 kV23 dc23 pm23 cd23 ct23 oc24 kV24 dc24 pm24 cd24 ct24 oc25 kV25 dc25 pm25 cd25 ct25 oc26 kV26 dc26 pm26 cd26 ct26 oc27 kV27 dc27 pm27 cd27 ct27 oc28 kV28 dc28 pm28 cd28 ct28 oc29 kV29 dc29 pm29 cd29 ct29 oc30 kV30 dc30 pm30 cd30 ct30 oc31 kV31 dc31 pm31 cd31 ct31 oc32 kV32 dc32 pm32 cd32 ct32 oc33 kV33 dc33 pm33 cd33 ct33 oc34 kV34 dc34 pm34 cd34 ct34 oc35 kV35 dc35 pm35 cd35 ct35 oc36 kV36 dc36 pm36 cd36 ct36 oc37 kV37 dc37 pm37 cd37 ct37 oc38 kV38 dc38 pm38 cd38 ct38 oc39 kV39 dc39 pm39 cd39 ct39 oc40 kV40 dc40 pm40 cd40 ct40 oc41 kV41 dc41 pm41 cd41 ct41 oc42 kV42 dc42 pm42 cd42 ct42 oc43 kV43 dc43 pm43 cd43 ct43 oc44 kV44 dc44 pm44 cd44 ct44 oc45 kV45 dc45 pm45 cd45 ct45 oc46 kV46 dc46 pm46 cd46 ct46 oc47 kV47 dc47 pm47 cd47 ct47 oc48 kV48 dc48 pm48 cd48 ct48 oc49 kV49 dc49 pm49 cd49 ct49 oc50 kV50 dc50 pm50 cd50 ct50 : Value}
    (a1 : PySem.W.nsIn K mainGlobals "push_row" = some (some (.ref f1))) (l1 : K.lookup f1 = some ⟨oc1, od1, .func (PySem.W.fnOf "push_row" "push_row" (defArgs s_p_push_row) (defBody s_p_push_row) (defScope s_p_push_row) .none kV1 dc1 pm1 an1 cd1 ct1), sl1⟩) (c1 : PySem.W.codeIn K cd1 "push_row" = true) (k1 : PySem.W.keepIn K (.ref f1) = true)
    (a2 : PySem.W.nsIn K mainGlobals "is_shuffle" = some (some (.ref f2))) (l2 : K.lookup f2 = some ⟨oc2, od2, .func (PySem.W.fnOf "is_shuffle" "is_shuffle" (defArgs s_p_is_shuffle) (defBody s_p_is_shuffle) (defScope s_p_is_shuffle) .none kV2 dc2 pm2 an2 cd2 ct2), sl2⟩) (c2 : PySem.W.codeIn K cd2 "is_shuffle" = true) (k2 : PySem.W.keepIn K (.ref f2) = true)
    (a3 : PySem.W.nsIn K mainGlobals "taken_left" = some (some (.ref f3))) (l3 : K.lookup f3 = some ⟨oc3, od3, .func (PySem.W.fnOf "taken_left" "taken_left" (defArgs s_p_taken_left) (defBody s_p_taken_left) (defScope s_p_taken_left) .none kV3 dc3 pm3 an3 cd3 ct3), sl3⟩) (c3 : PySem.W.codeIn K cd3 "taken_left" = true) (k3 : PySem.W.keepIn K (.ref f3) = true)
    (a4 : PySem.W.nsIn K mainGlobals "is_basic" = some (some (.ref f4))) (l4 : K.lookup f4 = some ⟨oc4, od4, .func (PySem.W.fnOf "is_basic" "is_basic" (defArgs s_p_is_basic) (defBody s_p_is_basic) (defScope s_p_is_basic) .none kV4 dc4 pm4 an4 cd4 ct4), sl4⟩) (c4 : PySem.W.codeIn K cd4 "is_basic" = true) (k4 : PySem.W.keepIn K (.ref f4) = true)
    (a5 : PySem.W.nsIn K mainGlobals "number_thing" = some (some (.ref f5))) (l5 : K.lookup f5 = some ⟨oc5, od5, .func (PySem.W.fnOf "number_thing" "number_thing" (defArgs s_p_number_thing) (defBody s_p_number_thing) (defScope s_p_number_thing) .none kV5 dc5 pm5 an5 cd5 ct5), sl5⟩) (c5 : PySem.W.codeIn K cd5 "number_thing" = true) (k5 : PySem.W.keepIn K (.ref f5) = true)
    (a6 : PySem.W.nsIn K mainGlobals "plus_does" = some (some (.ref f6))) (l6 : K.lookup f6 = some ⟨oc6, od6, .func (PySem.W.fnOf "plus_does" "plus_does" (defArgs s_p_plus_does) (defBody s_p_plus_does) (defScope s_p_plus_does) .none kV6 dc6 pm6 an6 cd6 ct6), sl6⟩) (c6 : PySem.W.codeIn K cd6 "plus_does" = true) (k6 : PySem.W.keepIn K (.ref f6) = true)
    (a7 : PySem.W.nsIn K mainGlobals "minus_does" = some (some (.ref f7))) (l7 : K.lookup f7 = some ⟨oc7, od7, .func (PySem.W.fnOf "minus_does" "minus_does" (defArgs s_p_minus_does) (defBody s_p_minus_does) (defScope s_p_minus_does) .none kV7 dc7 pm7 an7 cd7 ct7), sl7⟩) (c7 : PySem.W.codeIn K cd7 "minus_does" = true) (k7 : PySem.W.keepIn K (.ref f7) = true)
    (a8 : PySem.W.nsIn K mainGlobals "times_does" = some (some (.ref f8))) (l8 : K.lookup f8 = some ⟨oc8, od8, .func (PySem.W.fnOf "times_does" "times_does" (defArgs s_p_times_does) (defBody s_p_times_does) (defScope s_p_times_does) .none kV8 dc8 pm8 an8 cd8 ct8), sl8⟩) (c8 : PySem.W.codeIn K cd8 "times_does" = true) (k8 : PySem.W.keepIn K (.ref f8) = true)
    (a9 : PySem.W.nsIn K mainGlobals "less_does" = some (some (.ref f9))) (l9 : K.lookup f9 = some ⟨oc9, od9, .func (PySem.W.fnOf "less_does" "less_does" (defArgs s_p_less_does) (defBody s_p_less_does) (defScope s_p_less_does) .none kV9 dc9 pm9 an9 cd9 ct9), sl9⟩) (c9 : PySem.W.codeIn K cd9 "less_does" = true) (k9 : PySem.W.keepIn K (.ref f9) = true)
    (a10 : PySem.W.nsIn K mainGlobals "same_does" = some (some (.ref f10))) (l10 : K.lookup f10 = some ⟨oc10, od10, .func (PySem.W.fnOf "same_does" "same_does" (defArgs s_p_same_does) (defBody s_p_same_does) (defScope s_p_same_does) .none kV10 dc10 pm10 an10 cd10 ct10), sl10⟩) (c10 : PySem.W.codeIn K cd10 "same_does" = true) (k10 : PySem.W.keepIn K (.ref f10) = true)
    (a11 : PySem.W.nsIn K mainGlobals "do_does" = some (some (.ref f11))) (l11 : K.lookup f11 = some ⟨oc11, od11, .func (PySem.W.fnOf "do_does" "do_does" (defArgs s_p_do_does) (defBody s_p_do_does) (defScope s_p_do_does) .none kV11 dc11 pm11 an11 cd11 ct11), sl11⟩) (c11 : PySem.W.codeIn K cd11 "do_does" = true) (k11 : PySem.W.keepIn K (.ref f11) = true)
    (a12 : PySem.W.nsIn K mainGlobals "dip_does" = some (some (.ref f12))) (l12 : K.lookup f12 = some ⟨oc12, od12, .func (PySem.W.fnOf "dip_does" "dip_does" (defArgs s_p_dip_does) (defBody s_p_dip_does) (defScope s_p_dip_does) .none kV12 dc12 pm12 an12 cd12 ct12), sl12⟩) (c12 : PySem.W.codeIn K cd12 "dip_does" = true) (k12 : PySem.W.keepIn K (.ref f12) = true)
    (a13 : PySem.W.nsIn K mainGlobals "if_does" = some (some (.ref f13))) (l13 : K.lookup f13 = some ⟨oc13, od13, .func (PySem.W.fnOf "if_does" "if_does" (defArgs s_p_if_does) (defBody s_p_if_does) (defScope s_p_if_does) .none kV13 dc13 pm13 an13 cd13 ct13), sl13⟩) (c13 : PySem.W.codeIn K cd13 "if_does" = true) (k13 : PySem.W.keepIn K (.ref f13) = true)
    (a14 : PySem.W.nsIn K mainGlobals "while_does" = some (some (.ref f14))) (l14 : K.lookup f14 = some ⟨oc14, od14, .func (PySem.W.fnOf "while_does" "while_does" (defArgs s_p_while_does) (defBody s_p_while_does) (defScope s_p_while_does) .none kV14 dc14 pm14 an14 cd14 ct14), sl14⟩) (c14 : PySem.W.codeIn K cd14 "while_does" = true) (k14 : PySem.W.keepIn K (.ref f14) = true)
    (a15 : PySem.W.nsIn K mainGlobals "repeat_does" = some (some (.ref f15))) (l15 : K.lookup f15 = some ⟨oc15, od15, .func (PySem.W.fnOf "repeat_does" "repeat_does" (defArgs s_p_repeat_does) (defBody s_p_repeat_does) (defScope s_p_repeat_does) .none kV15 dc15 pm15 an15 cd15 ct15), sl15⟩) (c15 : PySem.W.codeIn K cd15 "repeat_does" = true) (k15 : PySem.W.keepIn K (.ref f15) = true)
    (a16 : PySem.W.nsIn K mainGlobals "join_does" = some (some (.ref f16))) (l16 : K.lookup f16 = some ⟨oc16, od16, .func (PySem.W.fnOf "join_does" "join_does" (defArgs s_p_join_does) (defBody s_p_join_does) (defScope s_p_join_does) .none kV16 dc16 pm16 an16 cd16 ct16), sl16⟩) (c16 : PySem.W.codeIn K cd16 "join_does" = true) (k16 : PySem.W.keepIn K (.ref f16) = true)
    (a17 : PySem.W.nsIn K mainGlobals "wrap_does" = some (some (.ref f17))) (l17 : K.lookup f17 = some ⟨oc17, od17, .func (PySem.W.fnOf "wrap_does" "wrap_does" (defArgs s_p_wrap_does) (defBody s_p_wrap_does) (defScope s_p_wrap_does) .none kV17 dc17 pm17 an17 cd17 ct17), sl17⟩) (c17 : PySem.W.codeIn K cd17 "wrap_does" = true) (k17 : PySem.W.keepIn K (.ref f17) = true)
    (a18 : PySem.W.nsIn K mainGlobals "put_does" = some (some (.ref f18))) (l18 : K.lookup f18 = some ⟨oc18, od18, .func (PySem.W.fnOf "put_does" "put_does" (defArgs s_p_put_does) (defBody s_p_put_does) (defScope s_p_put_does) .none kV18 dc18 pm18 an18 cd18 ct18), sl18⟩) (c18 : PySem.W.codeIn K cd18 "put_does" = true) (k18 : PySem.W.keepIn K (.ref f18) = true)
    (a19 : PySem.W.nsIn K mainGlobals "part_does" = some (some (.ref f19))) (l19 : K.lookup f19 = some ⟨oc19, od19, .func (PySem.W.fnOf "part_does" "part_does" (defArgs s_p_part_does) (defBody s_p_part_does) (defScope s_p_part_does) .none kV19 dc19 pm19 an19 cd19 ct19), sl19⟩) (c19 : PySem.W.codeIn K cd19 "part_does" = true) (k19 : PySem.W.keepIn K (.ref f19) = true)
    (a20 : PySem.W.nsIn K mainGlobals "each_does" = some (some (.ref f20))) (l20 : K.lookup f20 = some ⟨oc20, od20, .func (PySem.W.fnOf "each_does" "each_does" (defArgs s_p_each_does) (defBody s_p_each_does) (defScope s_p_each_does) .none kV20 dc20 pm20 an20 cd20 ct20), sl20⟩) (c20 : PySem.W.codeIn K cd20 "each_does" = true) (k20 : PySem.W.keepIn K (.ref f20) = true)
    (a21 : PySem.W.nsIn K mainGlobals "effect_of" = some (some (.ref f21))) (l21 : K.lookup f21 = some ⟨oc21, od21, .func (PySem.W.fnOf "effect_of" "effect_of" (defArgs s_p_effect_of) (defBody s_p_effect_of) (defScope s_p_effect_of) .none kV21 dc21 pm21 an21 cd21 ct21), sl21⟩) (c21 : PySem.W.codeIn K cd21 "effect_of" = true) (k21 : PySem.W.keepIn K (.ref f21) = true)
    (a22 : PySem.W.nsIn K mainGlobals "effect_of_basic" = some (some (.ref f22))) (l22 : K.lookup f22 = some ⟨oc22, od22, .func (PySem.W.fnOf "effect_of_basic" "effect_of_basic" (defArgs s_p_effect_of_basic) (defBody s_p_effect_of_basic) (defScope s_p_effect_of_basic) .none kV22 dc22 pm22 an22 cd22 ct22), sl22⟩) (c22 : PySem.W.codeIn K cd22 "effect_of_basic" = true) (k22 : PySem.W.keepIn K (.ref f22) = true)
    (a23 : PySem.W.nsIn K mainGlobals "effect_of_shuffle" = some (some (.ref f23))) (l23 : K.lookup f23 = some ⟨oc23, od23, .func (PySem.W.fnOf "effect_of_shuffle" "effect_of_shuffle" (defArgs s_p_effect_of_shuffle) (defBody s_p_effect_of_shuffle) (defScope s_p_effect_of_shuffle) .none kV23 dc23 pm23 an23 cd23 ct23), sl23⟩) (c23 : PySem.W.codeIn K cd23 "effect_of_shuffle" = true) (k23 : PySem.W.keepIn K (.ref f23) = true)
    (a24 : PySem.W.nsIn K mainGlobals "top_of" = some (some (.ref f24))) (l24 : K.lookup f24 = some ⟨oc24, od24, .func (PySem.W.fnOf "top_of" "top_of" (defArgs s_p_top_of) (defBody s_p_top_of) (defScope s_p_top_of) .none kV24 dc24 pm24 an24 cd24 ct24), sl24⟩) (c24 : PySem.W.codeIn K cd24 "top_of" = true) (k24 : PySem.W.keepIn K (.ref f24) = true)
    (a25 : PySem.W.nsIn K mainGlobals "held_as" = some (some (.ref f25))) (l25 : K.lookup f25 = some ⟨oc25, od25, .func (PySem.W.fnOf "held_as" "held_as" (defArgs s_p_held_as) (defBody s_p_held_as) (defScope s_p_held_as) .none kV25 dc25 pm25 an25 cd25 ct25), sl25⟩) (c25 : PySem.W.codeIn K cd25 "held_as" = true) (k25 : PySem.W.keepIn K (.ref f25) = true)
    (a26 : PySem.W.nsIn K mainGlobals "row_told" = some (some (.ref f26))) (l26 : K.lookup f26 = some ⟨oc26, od26, .func (PySem.W.fnOf "row_told" "row_told" (defArgs s_p_row_told) (defBody s_p_row_told) (defScope s_p_row_told) .none kV26 dc26 pm26 an26 cd26 ct26), sl26⟩) (c26 : PySem.W.codeIn K cd26 "row_told" = true) (k26 : PySem.W.keepIn K (.ref f26) = true)
    (a27 : PySem.W.nsIn K mainGlobals "begun" = some (some (.ref f27))) (l27 : K.lookup f27 = some ⟨oc27, od27, .func (PySem.W.fnOf "begun" "begun" (defArgs s_p_begun) (defBody s_p_begun) (defScope s_p_begun) .none kV27 dc27 pm27 an27 cd27 ct27), sl27⟩) (c27 : PySem.W.codeIn K cd27 "begun" = true) (k27 : PySem.W.keepIn K (.ref f27) = true)
    (a28 : PySem.W.nsIn K mainGlobals "advance" = some (some (.ref f28))) (l28 : K.lookup f28 = some ⟨oc28, od28, .func (PySem.W.fnOf "advance" "advance" (defArgs s_p_advance) (defBody s_p_advance) (defScope s_p_advance) .none kV28 dc28 pm28 an28 cd28 ct28), sl28⟩) (c28 : PySem.W.codeIn K cd28 "advance" = true) (k28 : PySem.W.keepIn K (.ref f28) = true)
    (a29 : PySem.W.nsIn K mainGlobals "state_of" = some (some (.ref f29))) (l29 : K.lookup f29 = some ⟨oc29, od29, .func (PySem.W.fnOf "state_of" "state_of" (defArgs s_p_state_of) (defBody s_p_state_of) (defScope s_p_state_of) .none kV29 dc29 pm29 an29 cd29 ct29), sl29⟩) (c29 : PySem.W.codeIn K cd29 "state_of" = true) (k29 : PySem.W.keepIn K (.ref f29) = true)
    (a30 : PySem.W.nsIn K mainGlobals "_law_mixed" = some (some (.ref f30))) (l30 : K.lookup f30 = some ⟨oc30, od30, .func (PySem.W.fnOf "_law_mixed" "_law_mixed" (defArgs s_L_mixed) (defBody s_L_mixed) (defScope s_L_mixed) .none kV30 dc30 pm30 an30 cd30 ct30), sl30⟩) (c30 : PySem.W.codeIn K cd30 "_law_mixed" = true) (k30 : PySem.W.keepIn K (.ref f30) = true)
    (a31 : PySem.W.nsIn K mainGlobals "_law_deck" = some (some (.ref f31))) (l31 : K.lookup f31 = some ⟨oc31, od31, .func (PySem.W.fnOf "_law_deck" "_law_deck" (defArgs s_L_deck) (defBody s_L_deck) (defScope s_L_deck) .none kV31 dc31 pm31 an31 cd31 ct31), sl31⟩) (c31 : PySem.W.codeIn K cd31 "_law_deck" = true) (k31 : PySem.W.keepIn K (.ref f31) = true)
    (a32 : PySem.W.nsIn K mainGlobals "_law_draw" = some (some (.ref f32))) (l32 : K.lookup f32 = some ⟨oc32, od32, .func (PySem.W.fnOf "_law_draw" "_law_draw" (defArgs s_L_draw) (defBody s_L_draw) (defScope s_L_draw) .none kV32 dc32 pm32 an32 cd32 ct32), sl32⟩) (c32 : PySem.W.codeIn K cd32 "_law_draw" = true) (k32 : PySem.W.keepIn K (.ref f32) = true)
    (a33 : PySem.W.nsIn K mainGlobals "_law_size" = some (some (.ref f33))) (l33 : K.lookup f33 = some ⟨oc33, od33, .func (PySem.W.fnOf "_law_size" "_law_size" (defArgs s_L_size) (defBody s_L_size) (defScope s_L_size) .none kV33 dc33 pm33 an33 cd33 ct33), sl33⟩) (c33 : PySem.W.codeIn K cd33 "_law_size" = true) (k33 : PySem.W.keepIn K (.ref f33) = true)
    (a34 : PySem.W.nsIn K mainGlobals "_law_cut" = some (some (.ref f34))) (l34 : K.lookup f34 = some ⟨oc34, od34, .func (PySem.W.fnOf "_law_cut" "_law_cut" (defArgs s_L_cut) (defBody s_L_cut) (defScope s_L_cut) .none kV34 dc34 pm34 an34 cd34 ct34), sl34⟩) (c34 : PySem.W.codeIn K cd34 "_law_cut" = true) (k34 : PySem.W.keepIn K (.ref f34) = true)
    (a35 : PySem.W.nsIn K mainGlobals "_law_number" = some (some (.ref f35))) (l35 : K.lookup f35 = some ⟨oc35, od35, .func (PySem.W.fnOf "_law_number" "_law_number" (defArgs s_L_number) (defBody s_L_number) (defScope s_L_number) .none kV35 dc35 pm35 an35 cd35 ct35), sl35⟩) (c35 : PySem.W.codeIn K cd35 "_law_number" = true) (k35 : PySem.W.keepIn K (.ref f35) = true)
    (a36 : PySem.W.nsIn K mainGlobals "_law_thing" = some (some (.ref f36))) (l36 : K.lookup f36 = some ⟨oc36, od36, .func (PySem.W.fnOf "_law_thing" "_law_thing" (defArgs s_L_thing) (defBody s_L_thing) (defScope s_L_thing) .none kV36 dc36 pm36 an36 cd36 ct36), sl36⟩) (c36 : PySem.W.codeIn K cd36 "_law_thing" = true) (k36 : PySem.W.keepIn K (.ref f36) = true)
    (a37 : PySem.W.nsIn K mainGlobals "_law_shuffle" = some (some (.ref f37))) (l37 : K.lookup f37 = some ⟨oc37, od37, .func (PySem.W.fnOf "_law_shuffle" "_law_shuffle" (defArgs s_L_shuffle) (defBody s_L_shuffle) (defScope s_L_shuffle) .none kV37 dc37 pm37 an37 cd37 ct37), sl37⟩) (c37 : PySem.W.codeIn K cd37 "_law_shuffle" = true) (k37 : PySem.W.keepIn K (.ref f37) = true)
    (a38 : PySem.W.nsIn K mainGlobals "_law_any_word" = some (some (.ref f38))) (l38 : K.lookup f38 = some ⟨oc38, od38, .func (PySem.W.fnOf "_law_any_word" "_law_any_word" (defArgs s_L_any_word) (defBody s_L_any_word) (defScope s_L_any_word) .none kV38 dc38 pm38 an38 cd38 ct38), sl38⟩) (c38 : PySem.W.codeIn K cd38 "_law_any_word" = true) (k38 : PySem.W.keepIn K (.ref f38) = true)
    (a39 : PySem.W.nsIn K mainGlobals "_law_book" = some (some (.ref f39))) (l39 : K.lookup f39 = some ⟨oc39, od39, .func (PySem.W.fnOf "_law_book" "_law_book" (defArgs s_L_book) (defBody s_L_book) (defScope s_L_book) .none kV39 dc39 pm39 an39 cd39 ct39), sl39⟩) (c39 : PySem.W.codeIn K cd39 "_law_book" = true) (k39 : PySem.W.keepIn K (.ref f39) = true)
    (a40 : PySem.W.nsIn K mainGlobals "_law_reckoned" = some (some (.ref f40))) (l40 : K.lookup f40 = some ⟨oc40, od40, .func (PySem.W.fnOf "_law_reckoned" "_law_reckoned" (defArgs s_L_reckoned) (defBody s_L_reckoned) (defScope s_L_reckoned) .none kV40 dc40 pm40 an40 cd40 ct40), sl40⟩) (c40 : PySem.W.codeIn K cd40 "_law_reckoned" = true) (k40 : PySem.W.keepIn K (.ref f40) = true)
    (a41 : PySem.W.nsIn K mainGlobals "_law_row_deed" = some (some (.ref f41))) (l41 : K.lookup f41 = some ⟨oc41, od41, .func (PySem.W.fnOf "_law_row_deed" "_law_row_deed" (defArgs s_L_row_deed) (defBody s_L_row_deed) (defScope s_L_row_deed) .none kV41 dc41 pm41 an41 cd41 ct41), sl41⟩) (c41 : PySem.W.codeIn K cd41 "_law_row_deed" = true) (k41 : PySem.W.keepIn K (.ref f41) = true)
    (a42 : PySem.W.nsIn K mainGlobals "_law_thing_deed" = some (some (.ref f42))) (l42 : K.lookup f42 = some ⟨oc42, od42, .func (PySem.W.fnOf "_law_thing_deed" "_law_thing_deed" (defArgs s_L_thing_deed) (defBody s_L_thing_deed) (defScope s_L_thing_deed) .none kV42 dc42 pm42 an42 cd42 ct42), sl42⟩) (c42 : PySem.W.codeIn K cd42 "_law_thing_deed" = true) (k42 : PySem.W.keepIn K (.ref f42) = true)
    (a43 : PySem.W.nsIn K mainGlobals "_law_kinds" = some (some (.ref f43))) (l43 : K.lookup f43 = some ⟨oc43, od43, .func (PySem.W.fnOf "_law_kinds" "_law_kinds" (defArgs s_L_kinds) (defBody s_L_kinds) (defScope s_L_kinds) .none kV43 dc43 pm43 an43 cd43 ct43), sl43⟩) (c43 : PySem.W.codeIn K cd43 "_law_kinds" = true) (k43 : PySem.W.keepIn K (.ref f43) = true)
    (a44 : PySem.W.nsIn K mainGlobals "_law_fit" = some (some (.ref f44))) (l44 : K.lookup f44 = some ⟨oc44, od44, .func (PySem.W.fnOf "_law_fit" "_law_fit" (defArgs s_L_fit) (defBody s_L_fit) (defScope s_L_fit) .none kV44 dc44 pm44 an44 cd44 ct44), sl44⟩) (c44 : PySem.W.codeIn K cd44 "_law_fit" = true) (k44 : PySem.W.keepIn K (.ref f44) = true)
    (a45 : PySem.W.nsIn K mainGlobals "_law_step" = some (some (.ref f45))) (l45 : K.lookup f45 = some ⟨oc45, od45, .func (PySem.W.fnOf "_law_step" "_law_step" (defArgs s_L_step) (defBody s_L_step) (defScope s_L_step) .none kV45 dc45 pm45 an45 cd45 ct45), sl45⟩) (c45 : PySem.W.codeIn K cd45 "_law_step" = true) (k45 : PySem.W.keepIn K (.ref f45) = true)
    (a46 : PySem.W.nsIn K mainGlobals "_law_play" = some (some (.ref f46))) (l46 : K.lookup f46 = some ⟨oc46, od46, .func (PySem.W.fnOf "_law_play" "_law_play" (defArgs s_L_play) (defBody s_L_play) (defScope s_L_play) .none kV46 dc46 pm46 an46 cd46 ct46), sl46⟩) (c46 : PySem.W.codeIn K cd46 "_law_play" = true) (k46 : PySem.W.keepIn K (.ref f46) = true)
    (a47 : PySem.W.nsIn K mainGlobals "_law_states" = some (some (.ref f47))) (l47 : K.lookup f47 = some ⟨oc47, od47, .func (PySem.W.fnOf "_law_states" "_law_states" (defArgs s_L_states) (defBody s_L_states) (defScope s_L_states) .none kV47 dc47 pm47 an47 cd47 ct47), sl47⟩) (c47 : PySem.W.codeIn K cd47 "_law_states" = true) (k47 : PySem.W.keepIn K (.ref f47) = true)
    (a48 : PySem.W.nsIn K mainGlobals "_law_words" = some (some (.ref f48))) (l48 : K.lookup f48 = some ⟨oc48, od48, .func (PySem.W.fnOf "_law_words" "_law_words" (defArgs s_L_words) (defBody s_L_words) (defScope s_L_words) .none kV48 dc48 pm48 an48 cd48 ct48), sl48⟩) (c48 : PySem.W.codeIn K cd48 "_law_words" = true) (k48 : PySem.W.keepIn K (.ref f48) = true)
    (a49 : PySem.W.nsIn K mainGlobals "_law_grown" = some (some (.ref f49))) (l49 : K.lookup f49 = some ⟨oc49, od49, .func (PySem.W.fnOf "_law_grown" "_law_grown" (defArgs s_L_grown) (defBody s_L_grown) (defScope s_L_grown) .none kV49 dc49 pm49 an49 cd49 ct49), sl49⟩) (c49 : PySem.W.codeIn K cd49 "_law_grown" = true) (k49 : PySem.W.keepIn K (.ref f49) = true)
    (a50 : PySem.W.nsIn K mainGlobals "law" = some (some (.ref f50))) (l50 : K.lookup f50 = some ⟨oc50, od50, .func (PySem.W.fnOf "law" "law" (defArgs s_L_law) (defBody s_L_law) (defScope s_L_law) .none kV50 dc50 pm50 an50 cd50 ct50), sl50⟩) (c50 : PySem.W.codeIn K cd50 "law" = true) (k50 : PySem.W.keepIn K (.ref f50) = true)
    (z_len : PySem.W.nsIn K mainGlobals "len" = some none)
    (z_isinstance : PySem.W.nsIn K mainGlobals "isinstance" = some none)
    (z_int : PySem.W.nsIn K mainGlobals "int" = some none)
    (z_str : PySem.W.nsIn K mainGlobals "str" = some none)
    (z_tuple : PySem.W.nsIn K mainGlobals "tuple" = some none)
    (z_list : PySem.W.nsIn K mainGlobals "list" = some none)
    (z_bool : PySem.W.nsIn K mainGlobals "bool" = some none)
    (z_dict : PySem.W.nsIn K mainGlobals "dict" = some none)
    (z_all : PySem.W.nsIn K mainGlobals "all" = some none)
    (z_any : PySem.W.nsIn K mainGlobals "any" = some none)
    (z_sum : PySem.W.nsIn K mainGlobals "sum" = some none)
    (z_sorted : PySem.W.nsIn K mainGlobals "sorted" = some none)
    (z_set : PySem.W.nsIn K mainGlobals "set" = some none)
    (z_range : PySem.W.nsIn K mainGlobals "range" = some none)
    (z_enumerate : PySem.W.nsIn K mainGlobals "enumerate" = some none)
    (z_zip : PySem.W.nsIn K mainGlobals "zip" = some none)
    (z_reversed : PySem.W.nsIn K mainGlobals "reversed" = some none)
    (z_min : PySem.W.nsIn K mainGlobals "min" = some none)
    {tE : Tok} (g_LETTERS : PySem.W.nsIn K mainGlobals "LETTERS" = some (some (.str "abcdefgh" tE)))
    {tM : Tok} (g_MOST_LEFT : PySem.W.nsIn K mainGlobals "MOST_LEFT" = some (some (.int 12 tM)))
    {tN : Tok} (g_NUMBERS : PySem.W.nsIn K mainGlobals "NUMBERS" = some (some (.int 1000000000000 tN)))
    {dS : Addr} (g_SORTS_TAKEN : PySem.W.nsIn K mainGlobals "SORTS_TAKEN" = some (some (.ref dS)))
    {dD : Addr} (g_DOES : PySem.W.nsIn K mainGlobals "DOES" = some (some (.ref dD)))
    {e_NoStep : Addr} (g_NoStep : PySem.W.nsIn K mainGlobals "NoStep" = some (some (.ref e_NoStep)))
    {e_NoShuffle : Addr} (g_NoShuffle : PySem.W.nsIn K mainGlobals "NoShuffle" = some (some (.ref e_NoShuffle)))
    (xt3 : K.lookup dS = some ⟨.type "dict", none, .dict es3 en3, #[]⟩)
    (xk3 : PySem.W.KeysLit w.params es3.toList)
    (xl3 : (dS == sysModules) = false)
    (xe3 : es3.toList.all (fun e => DD.BKL.any fun p => e.key.isStr p) = true)
    (xv3 : DD.BKL.all (fun z => match PySem.W.nsIn K dS z with | some (some _) => true | _ => false) = true)
    (xi3 : DD.allBas.all (fun b => match DD.itTx K dS (DD.nmBas b) with | some l => decide (l = (DD.srtB b).map DD.nmSo) | none => false) = true)
    (xt4 : K.lookup dD = some ⟨.type "dict", none, .dict es4 en4, #[]⟩)
    (xk4 : PySem.W.KeysLit w.params es4.toList)
    (y_plus_ : PySem.W.nsIn K dD "plus" = some (some (.ref f6)))
    (y_minus_ : PySem.W.nsIn K dD "minus" = some (some (.ref f7)))
    (y_times_ : PySem.W.nsIn K dD "times" = some (some (.ref f8)))
    (y_less_ : PySem.W.nsIn K dD "less" = some (some (.ref f9)))
    (y_same_ : PySem.W.nsIn K dD "same" = some (some (.ref f10)))
    (y_do_ : PySem.W.nsIn K dD "do" = some (some (.ref f11)))
    (y_dip_ : PySem.W.nsIn K dD "dip" = some (some (.ref f12)))
    (y_if_ : PySem.W.nsIn K dD "if" = some (some (.ref f13)))
    (y_while_ : PySem.W.nsIn K dD "while" = some (some (.ref f14)))
    (y_repeat_ : PySem.W.nsIn K dD "repeat" = some (some (.ref f15)))
    (y_join_ : PySem.W.nsIn K dD "join" = some (some (.ref f16)))
    (y_wrap_ : PySem.W.nsIn K dD "wrap" = some (some (.ref f17)))
    (y_put_ : PySem.W.nsIn K dD "put" = some (some (.ref f18)))
    (y_part_ : PySem.W.nsIn K dD "part" = some (some (.ref f19)))
    (y_each_ : PySem.W.nsIn K dD "each" = some (some (.ref f20)))
    (xP : PySem.W.excIn K e_NoStep [.type "ValueError", .type "Exception", .type "BaseException", .type "object"] "ValueError.__new__" = true)
    (kP : PySem.W.keepIn K (.ref e_NoStep) = true)
    (bP : PySem.W.subIn K (.ref e_NoStep) (.type "BaseException") = some true)
    (tP : PySem.W.typeIn K (.ref e_NoStep) = some (.type "type"))
    (h4 : PySem.W.hasDictIn K e_NoStep = true)
    (sNN : PySem.W.subIn K (.ref e_NoStep) (.ref e_NoStep) = some true)
    (xP2 : PySem.W.excIn K e_NoShuffle [.type "ValueError", .type "Exception", .type "BaseException", .type "object"] "ValueError.__new__" = true)
    (kP2 : PySem.W.keepIn K (.ref e_NoShuffle) = true)
    (bP2 : PySem.W.subIn K (.ref e_NoShuffle) (.type "BaseException") = some true)
    (tP2 : PySem.W.typeIn K (.ref e_NoShuffle) = some (.type "type"))
    (sa_run : PySem.W.nsIn K mainGlobals "run" = some (some (.ref f_run)))
    (sl_run : K.lookup f_run = some ⟨ocs_run, ods_run, .func (PySem.W.fnOf "run" "run" (defArgs s_p_run) (defBody s_p_run) (defScope s_p_run) (.ref T_run) kVs_run dcs_run pms_run ans_run cds_run cts_run), sls_run⟩)
    (sc_run : PySem.W.codeIn K cds_run "run" = true)
    (sk_run : PySem.W.keepIn K (.ref f_run) = true)
    (sT_run : K.lookup T_run = some ⟨ocT_run, odT_run, .seq #[Value.none] nT_run, slT_run⟩)
    (sa_states : PySem.W.nsIn K mainGlobals "states" = some (some (.ref f_states)))
    (sl_states : K.lookup f_states = some ⟨ocs_states, ods_states, .func (PySem.W.fnOf "states" "states" (defArgs s_p_states) (defBody s_p_states) (defScope s_p_states) (.ref T_states) kVs_states dcs_states pms_states ans_states cds_states cts_states), sls_states⟩)
    (sc_states : PySem.W.codeIn K cds_states "states" = true)
    (sk_states : PySem.W.keepIn K (.ref f_states) = true)
    (sT_states : K.lookup T_states = some ⟨ocT_states, odT_states, .seq #[Value.none] nT_states, slT_states⟩)
    : ∃ fd : FuncData, (∀ (s : Shared) (v : Value), BindsTo s fd ⟨[v], []⟩ [("_law_script", v)]) ∧ ∀ base : Heap, K.In base → base.Ns mainGlobals mg → FnOk l.prog w K mg base CX0 214 fa fd ["_law_script"] (spLaw K) := by
  have e := hfa.symm.trans (PySem.W.mg_of X G a50)
  cases e
  have F1 := fun_mk (st := s_p_push_row) l1 c1 k1
  have b1 := F1.binds (ps := ["row"]) fun _ _ _ _ _ _ us hl => match us, hl with | [_], _ => rfl
  have m1 := PySem.W.mg_of X G a1
  have F2 := fun_mk (st := s_p_is_shuffle) l2 c2 k2
  have b2 := F2.binds (ps := ["thing"]) fun _ _ _ _ _ _ us hl => match us, hl with | [_], _ => rfl
  have m2 := PySem.W.mg_of X G a2
  have F3 := fun_mk (st := s_p_taken_left) l3 c3 k3
  have b3 := F3.binds (ps := ["shuffle"]) fun _ _ _ _ _ _ us hl => match us, hl with | [_], _ => rfl
  have m3 := PySem.W.mg_of X G a3
  have F4 := fun_mk (st := s_p_is_basic) l4 c4 k4
  have b4 := F4.binds (ps := ["text"]) fun _ _ _ _ _ _ us hl => match us, hl with | [_], _ => rfl
  have m4 := PySem.W.mg_of X G a4
  have F5 := fun_mk (st := s_p_number_thing) l5 c5 k5
  have b5 := F5.binds (ps := ["n"]) fun _ _ _ _ _ _ us hl => match us, hl with | [_], _ => rfl
  have m5 := PySem.W.mg_of X G a5
  have F6 := fun_mk (st := s_p_plus_does) l6 c6 k6
  have b6 := F6.binds (ps := ["held"]) fun _ _ _ _ _ _ us hl => match us, hl with | [_], _ => rfl
  have m6 := PySem.W.mg_of X G a6
  have F7 := fun_mk (st := s_p_minus_does) l7 c7 k7
  have b7 := F7.binds (ps := ["held"]) fun _ _ _ _ _ _ us hl => match us, hl with | [_], _ => rfl
  have m7 := PySem.W.mg_of X G a7
  have F8 := fun_mk (st := s_p_times_does) l8 c8 k8
  have b8 := F8.binds (ps := ["held"]) fun _ _ _ _ _ _ us hl => match us, hl with | [_], _ => rfl
  have m8 := PySem.W.mg_of X G a8
  have F9 := fun_mk (st := s_p_less_does) l9 c9 k9
  have b9 := F9.binds (ps := ["held"]) fun _ _ _ _ _ _ us hl => match us, hl with | [_], _ => rfl
  have m9 := PySem.W.mg_of X G a9
  have F10 := fun_mk (st := s_p_same_does) l10 c10 k10
  have b10 := F10.binds (ps := ["held"]) fun _ _ _ _ _ _ us hl => match us, hl with | [_], _ => rfl
  have m10 := PySem.W.mg_of X G a10
  have F11 := fun_mk (st := s_p_do_does) l11 c11 k11
  have b11 := F11.binds (ps := ["held"]) fun _ _ _ _ _ _ us hl => match us, hl with | [_], _ => rfl
  have m11 := PySem.W.mg_of X G a11
  have F12 := fun_mk (st := s_p_dip_does) l12 c12 k12
  have b12 := F12.binds (ps := ["held"]) fun _ _ _ _ _ _ us hl => match us, hl with | [_], _ => rfl
  have m12 := PySem.W.mg_of X G a12
  have F13 := fun_mk (st := s_p_if_does) l13 c13 k13
  have b13 := F13.binds (ps := ["held"]) fun _ _ _ _ _ _ us hl => match us, hl with | [_], _ => rfl
  have m13 := PySem.W.mg_of X G a13
  have F14 := fun_mk (st := s_p_while_does) l14 c14 k14
  have b14 := F14.binds (ps := ["held"]) fun _ _ _ _ _ _ us hl => match us, hl with | [_], _ => rfl
  have m14 := PySem.W.mg_of X G a14
  have F15 := fun_mk (st := s_p_repeat_does) l15 c15 k15
  have b15 := F15.binds (ps := ["held"]) fun _ _ _ _ _ _ us hl => match us, hl with | [_], _ => rfl
  have m15 := PySem.W.mg_of X G a15
  have F16 := fun_mk (st := s_p_join_does) l16 c16 k16
  have b16 := F16.binds (ps := ["held"]) fun _ _ _ _ _ _ us hl => match us, hl with | [_], _ => rfl
  have m16 := PySem.W.mg_of X G a16
  have F17 := fun_mk (st := s_p_wrap_does) l17 c17 k17
  have b17 := F17.binds (ps := ["held"]) fun _ _ _ _ _ _ us hl => match us, hl with | [_], _ => rfl
  have m17 := PySem.W.mg_of X G a17
  have F18 := fun_mk (st := s_p_put_does) l18 c18 k18
  have b18 := F18.binds (ps := ["held"]) fun _ _ _ _ _ _ us hl => match us, hl with | [_], _ => rfl
  have m18 := PySem.W.mg_of X G a18
  have F19 := fun_mk (st := s_p_part_does) l19 c19 k19
  have b19 := F19.binds (ps := ["held"]) fun _ _ _ _ _ _ us hl => match us, hl with | [_], _ => rfl
  have m19 := PySem.W.mg_of X G a19
  have F20 := fun_mk (st := s_p_each_does) l20 c20 k20
  have b20 := F20.binds (ps := ["held"]) fun _ _ _ _ _ _ us hl => match us, hl with | [_], _ => rfl
  have m20 := PySem.W.mg_of X G a20
  have F21 := fun_mk (st := s_p_effect_of) l21 c21 k21
  have b21 := F21.binds (ps := ["word", "stack", "book"]) fun _ _ _ _ _ _ us hl => match us, hl with | [_, _, _], _ => rfl
  have m21 := PySem.W.mg_of X G a21
  have F22 := fun_mk (st := s_p_effect_of_basic) l22 c22 k22
  have b22 := F22.binds (ps := ["word", "stack"]) fun _ _ _ _ _ _ us hl => match us, hl with | [_, _], _ => rfl
  have m22 := PySem.W.mg_of X G a22
  have F23 := fun_mk (st := s_p_effect_of_shuffle) l23 c23 k23
  have b23 := F23.binds (ps := ["word", "stack"]) fun _ _ _ _ _ _ us hl => match us, hl with | [_, _], _ => rfl
  have m23 := PySem.W.mg_of X G a23
  have F24 := fun_mk (st := s_p_top_of) l24 c24 k24
  have b24 := F24.binds (ps := ["stack", "many"]) fun _ _ _ _ _ _ us hl => match us, hl with | [_, _], _ => rfl
  have m24 := PySem.W.mg_of X G a24
  have F25 := fun_mk (st := s_p_held_as) l25 c25 k25
  have b25 := F25.binds (ps := ["sort", "thing"]) fun _ _ _ _ _ _ us hl => match us, hl with | [_, _], _ => rfl
  have m25 := PySem.W.mg_of X G a25
  have F26 := fun_mk (st := s_p_row_told) l26 c26 k26
  have b26 := F26.binds (ps := ["name", "book"]) fun _ _ _ _ _ _ us hl => match us, hl with | [_, _], _ => rfl
  have m26 := PySem.W.mg_of X G a26
  have F27 := fun_mk (st := s_p_begun) l27 c27 k27
  have b27 := F27.binds (ps := ["row", "stack"]) fun _ _ _ _ _ _ us hl => match us, hl with | [_, _], _ => rfl
  have m27 := PySem.W.mg_of X G a27
  have F28 := fun_mk (st := s_p_advance) l28 c28 k28
  have b28 := F28.binds (ps := ["things", "todo", "book"]) fun _ _ _ _ _ _ us hl => match us, hl with | [_, _, _], _ => rfl
  have m28 := PySem.W.mg_of X G a28
  have F29 := fun_mk (st := s_p_state_of) l29 c29 k29
  have b29 := F29.binds (ps := ["things", "todo"]) fun _ _ _ _ _ _ us hl => match us, hl with | [_, _], _ => rfl
  have m29 := PySem.W.mg_of X G a29
  have F30 := fun_mk (st := s_L_mixed) l30 c30 k30
  have b30 := F30.binds (ps := ["_law_number_here"]) fun _ _ _ _ _ _ us hl => match us, hl with | [_], _ => rfl
  have m30 := PySem.W.mg_of X G a30
  have F31 := fun_mk (st := s_L_deck) l31 c31 k31
  have b31 := F31.binds (ps := ["_law_script", "_law_most"]) fun _ _ _ _ _ _ us hl => match us, hl with | [_, _], _ => rfl
  have m31 := PySem.W.mg_of X G a31
  have F32 := fun_mk (st := s_L_draw) l32 c32 k32
  have b32 := F32.binds (ps := ["_law_deck_here", "_law_most"]) fun _ _ _ _ _ _ us hl => match us, hl with | [_, _], _ => rfl
  have m32 := PySem.W.mg_of X G a32
  have F33 := fun_mk (st := s_L_size) l33 c33 k33
  have b33 := F33.binds (ps := ["_law_things"]) fun _ _ _ _ _ _ us hl => match us, hl with | [_], _ => rfl
  have m33 := PySem.W.mg_of X G a33
  have F34 := fun_mk (st := s_L_cut) l34 c34 k34
  have b34 := F34.binds (ps := ["_law_words_here", "_law_most"]) fun _ _ _ _ _ _ us hl => match us, hl with | [_, _], _ => rfl
  have m34 := PySem.W.mg_of X G a34
  have F35 := fun_mk (st := s_L_number) l35 c35 k35
  have b35 := F35.binds (ps := ["_law_deck_here"]) fun _ _ _ _ _ _ us hl => match us, hl with | [_], _ => rfl
  have m35 := PySem.W.mg_of X G a35
  have F36 := fun_mk (st := s_L_thing) l36 c36 k36
  have b36 := F36.binds (ps := ["_law_deck_here", "_law_deep"]) fun _ _ _ _ _ _ us hl => match us, hl with | [_, _], _ => rfl
  have m36 := PySem.W.mg_of X G a36
  have F37 := fun_mk (st := s_L_shuffle) l37 c37 k37
  have b37 := F37.binds (ps := ["_law_deck_here", "_law_most"]) fun _ _ _ _ _ _ us hl => match us, hl with | [_, _], _ => rfl
  have m37 := PySem.W.mg_of X G a37
  have F38 := fun_mk (st := s_L_any_word) l38 c38 k38
  have b38 := F38.binds (ps := ["_law_deck_here", "_law_deep"]) fun _ _ _ _ _ _ us hl => match us, hl with | [_, _], _ => rfl
  have m38 := PySem.W.mg_of X G a38
  have F39 := fun_mk (st := s_L_book) l39 c39 k39
  have b39 := F39.binds (ps := ["_law_deck_here"]) fun _ _ _ _ _ _ us hl => match us, hl with | [_], _ => rfl
  have m39 := PySem.W.mg_of X G a39
  have F40 := fun_mk (st := s_L_reckoned) l40 c40 k40
  have b40 := F40.binds (ps := ["_law_word", "_law_m", "_law_n"]) fun _ _ _ _ _ _ us hl => match us, hl with | [_, _, _], _ => rfl
  have m40 := PySem.W.mg_of X G a40
  have F41 := fun_mk (st := s_L_row_deed) l41 c41 k41
  have b41 := F41.binds (ps := ["_law_word", "_law_things"]) fun _ _ _ _ _ _ us hl => match us, hl with | [_, _], _ => rfl
  have m41 := PySem.W.mg_of X G a41
  have F42 := fun_mk (st := s_L_thing_deed) l42 c42 k42
  have b42 := F42.binds (ps := ["_law_word", "_law_things"]) fun _ _ _ _ _ _ us hl => match us, hl with | [_, _], _ => rfl
  have m42 := PySem.W.mg_of X G a42
  have F43 := fun_mk (st := s_L_kinds) l43 c43 k43
  have b43 := F43.binds (ps := ["_law_word"]) fun _ _ _ _ _ _ us hl => match us, hl with | [_], _ => rfl
  have m43 := PySem.W.mg_of X G a43
  have F44 := fun_mk (st := s_L_fit) l44 c44 k44
  have b44 := F44.binds (ps := ["_law_kind", "_law_thing_here"]) fun _ _ _ _ _ _ us hl => match us, hl with | [_, _], _ => rfl
  have m44 := PySem.W.mg_of X G a44
  have F45 := fun_mk (st := s_L_step) l45 c45 k45
  have b45 := F45.binds (ps := ["_law_stack", "_law_todo", "_law_book_here"]) fun _ _ _ _ _ _ us hl => match us, hl with | [_, _, _], _ => rfl
  have m45 := PySem.W.mg_of X G a45
  have F46 := fun_mk (st := s_L_play) l46 c46 k46
  have b46 := F46.binds (ps := ["_law_stack", "_law_todo", "_law_book_here", "_law_most"]) fun _ _ _ _ _ _ us hl => match us, hl with | [_, _, _, _], _ => rfl
  have m46 := PySem.W.mg_of X G a46
  have F47 := fun_mk (st := s_L_states) l47 c47 k47
  have b47 := F47.binds (ps := ["_law_stack", "_law_row", "_law_book_here", "_law_most"]) fun _ _ _ _ _ _ us hl => match us, hl with | [_, _, _, _], _ => rfl
  have m47 := PySem.W.mg_of X G a47
  have F48 := fun_mk (st := s_L_words) l48 c48 k48
  have b48 := F48.binds (ps := ["_law_deck_here", "_law_stack", "_law_deep"]) fun _ _ _ _ _ _ us hl => match us, hl with | [_, _, _], _ => rfl
  have m48 := PySem.W.mg_of X G a48
  have F49 := fun_mk (st := s_L_grown) l49 c49 k49
  have b49 := F49.binds (ps := ["_law_deck_here", "_law_stack", "_law_book_here", "_law_many"]) fun _ _ _ _ _ _ us hl => match us, hl with | [_, _, _, _], _ => rfl
  have m49 := PySem.W.mg_of X G a49
  have F50 := fun_mk (st := s_L_law) l50 c50 k50
  have y_len := PySem.W.mg_none_of X G z_len
  have y_isinstance := PySem.W.mg_none_of X G z_isinstance
  have y_int := PySem.W.mg_none_of X G z_int
  have y_str := PySem.W.mg_none_of X G z_str
  have y_tuple := PySem.W.mg_none_of X G z_tuple
  have y_list := PySem.W.mg_none_of X G z_list
  have y_bool := PySem.W.mg_none_of X G z_bool
  have y_dict := PySem.W.mg_none_of X G z_dict
  have y_all := PySem.W.mg_none_of X G z_all
  have y_any := PySem.W.mg_none_of X G z_any
  have y_sum := PySem.W.mg_none_of X G z_sum
  have y_sorted := PySem.W.mg_none_of X G z_sorted
  have y_set := PySem.W.mg_none_of X G z_set
  have y_range := PySem.W.mg_none_of X G z_range
  have y_enumerate := PySem.W.mg_none_of X G z_enumerate
  have y_zip := PySem.W.mg_none_of X G z_zip
  have y_reversed := PySem.W.mg_none_of X G z_reversed
  have y_min := PySem.W.mg_none_of X G z_min
  have v_LETTERS := PySem.W.mg_of X G g_LETTERS
  have v_MOST_LEFT := PySem.W.mg_of X G g_MOST_LEFT
  have v_NUMBERS := PySem.W.mg_of X G g_NUMBERS
  have v_SORTS_TAKEN := PySem.W.mg_of X G g_SORTS_TAKEN
  have v_DOES := PySem.W.mg_of X G g_DOES
  have v_NoStep := PySem.W.mg_of X G g_NoStep
  have v_NoShuffle := PySem.W.mg_of X G g_NoShuffle
  refine ⟨PySem.W.fnOf "law" "law" (defArgs s_L_law) (defBody s_L_law) (defScope s_L_law) .none kV50 dc50 pm50 an50 cd50 ct50, fun s v => .of_eq rfl, fun base _ _ => ?_⟩
  have B : BI mg := ⟨y_len, y_isinstance, y_int, y_str, y_tuple, y_list, y_bool, y_dict, y_all, y_any, y_sum, y_sorted, y_set, y_range, y_enumerate, y_zip, y_reversed⟩
  have t_p_push_row : At K mg "push_row" s_p_push_row ["row"] := ⟨f1, _, F1, b1, m1⟩
  have t_p_is_shuffle : At K mg "is_shuffle" s_p_is_shuffle ["thing"] := ⟨f2, _, F2, b2, m2⟩
  have t_p_taken_left : At K mg "taken_left" s_p_taken_left ["shuffle"] := ⟨f3, _, F3, b3, m3⟩
  have t_p_is_basic : At K mg "is_basic" s_p_is_basic ["text"] := ⟨f4, _, F4, b4, m4⟩
  have t_p_number_thing : At K mg "number_thing" s_p_number_thing ["n"] := ⟨f5, _, F5, b5, m5⟩
  have t_p_plus_does : At K mg "plus_does" s_p_plus_does ["held"] := ⟨f6, _, F6, b6, m6⟩
  have t_p_minus_does : At K mg "minus_does" s_p_minus_does ["held"] := ⟨f7, _, F7, b7, m7⟩
  have t_p_times_does : At K mg "times_does" s_p_times_does ["held"] := ⟨f8, _, F8, b8, m8⟩
  have t_p_less_does : At K mg "less_does" s_p_less_does ["held"] := ⟨f9, _, F9, b9, m9⟩
  have t_p_same_does : At K mg "same_does" s_p_same_does ["held"] := ⟨f10, _, F10, b10, m10⟩
  have t_p_do_does : At K mg "do_does" s_p_do_does ["held"] := ⟨f11, _, F11, b11, m11⟩
  have t_p_dip_does : At K mg "dip_does" s_p_dip_does ["held"] := ⟨f12, _, F12, b12, m12⟩
  have t_p_if_does : At K mg "if_does" s_p_if_does ["held"] := ⟨f13, _, F13, b13, m13⟩
  have t_p_while_does : At K mg "while_does" s_p_while_does ["held"] := ⟨f14, _, F14, b14, m14⟩
  have t_p_repeat_does : At K mg "repeat_does" s_p_repeat_does ["held"] := ⟨f15, _, F15, b15, m15⟩
  have t_p_join_does : At K mg "join_does" s_p_join_does ["held"] := ⟨f16, _, F16, b16, m16⟩
  have t_p_wrap_does : At K mg "wrap_does" s_p_wrap_does ["held"] := ⟨f17, _, F17, b17, m17⟩
  have t_p_put_does : At K mg "put_does" s_p_put_does ["held"] := ⟨f18, _, F18, b18, m18⟩
  have t_p_part_does : At K mg "part_does" s_p_part_does ["held"] := ⟨f19, _, F19, b19, m19⟩
  have t_p_each_does : At K mg "each_does" s_p_each_does ["held"] := ⟨f20, _, F20, b20, m20⟩
  have t_p_effect_of : At K mg "effect_of" s_p_effect_of ["word", "stack", "book"] := ⟨f21, _, F21, b21, m21⟩
  have t_p_effect_of_basic : At K mg "effect_of_basic" s_p_effect_of_basic ["word", "stack"] := ⟨f22, _, F22, b22, m22⟩
  have t_p_effect_of_shuffle : At K mg "effect_of_shuffle" s_p_effect_of_shuffle ["word", "stack"] := ⟨f23, _, F23, b23, m23⟩
  have t_p_top_of : At K mg "top_of" s_p_top_of ["stack", "many"] := ⟨f24, _, F24, b24, m24⟩
  have t_p_held_as : At K mg "held_as" s_p_held_as ["sort", "thing"] := ⟨f25, _, F25, b25, m25⟩
  have t_p_row_told : At K mg "row_told" s_p_row_told ["name", "book"] := ⟨f26, _, F26, b26, m26⟩
  have t_p_begun : At K mg "begun" s_p_begun ["row", "stack"] := ⟨f27, _, F27, b27, m27⟩
  have t_p_advance : At K mg "advance" s_p_advance ["things", "todo", "book"] := ⟨f28, _, F28, b28, m28⟩
  have t_p_state_of : At K mg "state_of" s_p_state_of ["things", "todo"] := ⟨f29, _, F29, b29, m29⟩
  have t_L_mixed : At K mg "_law_mixed" s_L_mixed ["_law_number_here"] := ⟨f30, _, F30, b30, m30⟩
  have t_L_deck : At K mg "_law_deck" s_L_deck ["_law_script", "_law_most"] := ⟨f31, _, F31, b31, m31⟩
  have t_L_draw : At K mg "_law_draw" s_L_draw ["_law_deck_here", "_law_most"] := ⟨f32, _, F32, b32, m32⟩
  have t_L_size : At K mg "_law_size" s_L_size ["_law_things"] := ⟨f33, _, F33, b33, m33⟩
  have t_L_cut : At K mg "_law_cut" s_L_cut ["_law_words_here", "_law_most"] := ⟨f34, _, F34, b34, m34⟩
  have t_L_number : At K mg "_law_number" s_L_number ["_law_deck_here"] := ⟨f35, _, F35, b35, m35⟩
  have t_L_thing : At K mg "_law_thing" s_L_thing ["_law_deck_here", "_law_deep"] := ⟨f36, _, F36, b36, m36⟩
  have t_L_shuffle : At K mg "_law_shuffle" s_L_shuffle ["_law_deck_here", "_law_most"] := ⟨f37, _, F37, b37, m37⟩
  have t_L_any_word : At K mg "_law_any_word" s_L_any_word ["_law_deck_here", "_law_deep"] := ⟨f38, _, F38, b38, m38⟩
  have t_L_book : At K mg "_law_book" s_L_book ["_law_deck_here"] := ⟨f39, _, F39, b39, m39⟩
  have t_L_reckoned : At K mg "_law_reckoned" s_L_reckoned ["_law_word", "_law_m", "_law_n"] := ⟨f40, _, F40, b40, m40⟩
  have t_L_row_deed : At K mg "_law_row_deed" s_L_row_deed ["_law_word", "_law_things"] := ⟨f41, _, F41, b41, m41⟩
  have t_L_thing_deed : At K mg "_law_thing_deed" s_L_thing_deed ["_law_word", "_law_things"] := ⟨f42, _, F42, b42, m42⟩
  have t_L_kinds : At K mg "_law_kinds" s_L_kinds ["_law_word"] := ⟨f43, _, F43, b43, m43⟩
  have t_L_fit : At K mg "_law_fit" s_L_fit ["_law_kind", "_law_thing_here"] := ⟨f44, _, F44, b44, m44⟩
  have t_L_step : At K mg "_law_step" s_L_step ["_law_stack", "_law_todo", "_law_book_here"] := ⟨f45, _, F45, b45, m45⟩
  have t_L_play : At K mg "_law_play" s_L_play ["_law_stack", "_law_todo", "_law_book_here", "_law_most"] := ⟨f46, _, F46, b46, m46⟩
  have t_L_states : At K mg "_law_states" s_L_states ["_law_stack", "_law_row", "_law_book_here", "_law_most"] := ⟨f47, _, F47, b47, m47⟩
  have t_L_words : At K mg "_law_words" s_L_words ["_law_deck_here", "_law_stack", "_law_deep"] := ⟨f48, _, F48, b48, m48⟩
  have t_L_grown : At K mg "_law_grown" s_L_grown ["_law_deck_here", "_law_stack", "_law_book_here", "_law_many"] := ⟨f49, _, F49, b49, m49⟩
  have FS_run : FunD K "run" "run" (defArgs s_p_run) (defBody s_p_run) (defScope s_p_run) [V.non] [] f_run (PySem.W.fnOf "run" "run" (defArgs s_p_run) (defBody s_p_run) (defScope s_p_run) (.ref T_run) kVs_run dcs_run pms_run ans_run cds_run cts_run) :=
    ⟨⟨_, _, _, _, _, _, _, _, _, _, rfl, sl_run, sc_run, .inr ⟨by decide, T_run, _, [Value.none], nT_run, rfl, sT_run, rfl, .cons rfl .nil⟩, .inl rfl⟩, sk_run⟩
  obtain ⟨dsS_run, vS_run, bS_run⟩ := FS_run.binds1 (ps := A_p_run) 3 0 (by decide) rfl (fun T kV doc pm an cdv ct us its h1 h2 => match us, its, h1, h2 with | [_, _, _], [_], _, _ => ⟨_, rfl, rfl⟩)
  obtain ⟨ds2_run, v2_run, b2S_run⟩ := FS_run.binds1 (ps := A_p_run) 4 1 (by decide) rfl (fun T kV doc pm an cdv ct us its h1 h2 => match us, its, h1, h2 with | [_, _, _, _], [_], _, _ => ⟨_, rfl, rfl⟩)
  cases v2_run
  have tD_run : AtD K mg "run" s_p_run A_p_run := ⟨f_run, _, FS_run, b2S_run, ⟨dsS_run, vS_run, bS_run⟩, PySem.W.mg_of X G sa_run⟩
  have FS_states : FunD K "states" "states" (defArgs s_p_states) (defBody s_p_states) (defScope s_p_states) [V.non] [] f_states (PySem.W.fnOf "states" "states" (defArgs s_p_states) (defBody s_p_states) (defScope s_p_states) (.ref T_states) kVs_states dcs_states pms_states ans_states cds_states cts_states) :=
    ⟨⟨_, _, _, _, _, _, _, _, _, _, rfl, sl_states, sc_states, .inr ⟨by decide, T_states, _, [Value.none], nT_states, rfl, sT_states, rfl, .cons rfl .nil⟩, .inl rfl⟩, sk_states⟩
  obtain ⟨dsS_states, vS_states, bS_states⟩ := FS_states.binds1 (ps := A_p_states) 3 0 (by decide) rfl (fun T kV doc pm an cdv ct us its h1 h2 => match us, its, h1, h2 with | [_, _, _], [_], _, _ => ⟨_, rfl, rfl⟩)
  obtain ⟨ds2_states, v2_states, b2S_states⟩ := FS_states.binds1 (ps := A_p_states) 4 1 (by decide) rfl (fun T kV doc pm an cdv ct us its h1 h2 => match us, its, h1, h2 with | [_, _, _, _], [_], _, _ => ⟨_, rfl, rfl⟩)
  cases v2_states
  have tD_states : AtD K mg "states" s_p_states A_p_states := ⟨f_states, _, FS_states, b2S_states, ⟨dsS_states, vS_states, bS_states⟩, PySem.W.mg_of X G sa_states⟩
  have TS : KeyD K w dS BKL := keyD_all xt3 xk3 xl3 xv3 xe3
  have hS : ∀ b, ItK K w dS (nmBas b) (.tup ((srtB b).map fun s => .str (nmSo s))) := fun b => by
    have h := List.all_eq_true.mp xi3 b (allBas_mem b)
    cases e : itTx K dS (nmBas b) with
    | none => rw [e] at h; cases h
    | some l =>
      rw [e] at h
      have h : decide (l = (srtB b).map nmSo) = true := h
      have h : l = (srtB b).map nmSo := of_decide_eq_true h
      subst h
      have h9 := itK_tx xt3 xk3 e
      rw [List.map_map] at h9
      exact h9
  have XC : ErrC K mg "NoStep" e_NoStep := ⟨v_NoStep, xP, kP, bP, tP⟩
  have XC2 : ErrC K mg "NoShuffle" e_NoShuffle := ⟨v_NoShuffle, xP2, kP2, bP2, tP2⟩
  have XM : exmOne K (.ref e_NoStep) (.ref e_NoStep) = some true := PySem.W.exm_ref bP h4 tP sNN
  have DE : FnOk l.prog w K mg base CX0 2 _ _ ["_law_script", "_law_most"] (spDeckB K) := ok_deck F31 (ok_mixed F30) b30 k30 m30 y_list y_sum y_len
  have cd := h_draw (P := l.prog) (w := w) (base := base) t_L_draw t_L_mixed
  have cn := h_L_number t_L_number B cd
  have cs := h_L_shuffle t_L_shuffle B cd
  have sz := all_size (P := l.prog) (w := w) (base := base) t_L_size B
  have cc := h_L_cut t_L_cut B (sz 4)
  have tw := all_tw t_L_thing t_L_any_word B cd cn cc cs
  have nt := h_p_number_thing (P := l.prog) (w := w) (base := base) t_p_number_thing B ⟨_, v_NUMBERS⟩
  have pr_ := h_p_push_row (P := l.prog) (w := w) (base := base) t_p_push_row B
  have hD : ∀ b, ∃ f, ItK K w dD (nmBas b) (.ref f) ∧ HasA l.prog w K mg base 2 f ["held"] (SP_dm b) := fun b => by
    cases b with
    | plus => exact ⟨f6, itK_ref xt4 xk4 y_plus_, hasA_of (h_p_plus_does (P := l.prog) (w := w) (base := base) t_p_plus_does B nt) m6⟩
    | minus => exact ⟨f7, itK_ref xt4 xk4 y_minus_, hasA_of (h_p_minus_does (P := l.prog) (w := w) (base := base) t_p_minus_does B nt) m7⟩
    | times => exact ⟨f8, itK_ref xt4 xk4 y_times_, hasA_of (h_p_times_does (P := l.prog) (w := w) (base := base) t_p_times_does B nt) m8⟩
    | less => exact ⟨f9, itK_ref xt4 xk4 y_less_, hasA_of (h_p_less_does (P := l.prog) (w := w) (base := base) t_p_less_does B nt) m9⟩
    | same => exact ⟨f10, itK_ref xt4 xk4 y_same_, hasA_of (h_p_same_does (P := l.prog) (w := w) (base := base) t_p_same_does B nt) m10⟩
    | do_ => exact ⟨f11, itK_ref xt4 xk4 y_do_, hasA_of (h_p_do_does (P := l.prog) (w := w) (base := base) t_p_do_does B) m11⟩
    | dip => exact ⟨f12, itK_ref xt4 xk4 y_dip_, hasA_of (h_p_dip_does (P := l.prog) (w := w) (base := base) t_p_dip_does B) m12⟩
    | if_ => exact ⟨f13, itK_ref xt4 xk4 y_if_, hasA_of (h_p_if_does (P := l.prog) (w := w) (base := base) t_p_if_does B) m13⟩
    | while_ => exact ⟨f14, itK_ref xt4 xk4 y_while_, hasA_of (h_p_while_does (P := l.prog) (w := w) (base := base) t_p_while_does B pr_) m14⟩
    | repeat_ => exact ⟨f15, itK_ref xt4 xk4 y_repeat_, hasA_of (h_p_repeat_does (P := l.prog) (w := w) (base := base) t_p_repeat_does B pr_ nt) m15⟩
    | join => exact ⟨f16, itK_ref xt4 xk4 y_join_, hasA_of (h_p_join_does (P := l.prog) (w := w) (base := base) t_p_join_does B) m16⟩
    | wrap => exact ⟨f17, itK_ref xt4 xk4 y_wrap_, hasA_of (h_p_wrap_does (P := l.prog) (w := w) (base := base) t_p_wrap_does B) m17⟩
    | put => exact ⟨f18, itK_ref xt4 xk4 y_put_, hasA_of (h_p_put_does (P := l.prog) (w := w) (base := base) t_p_put_does B) m18⟩
    | part => exact ⟨f19, itK_ref xt4 xk4 y_part_, hasA_of (h_p_part_does (P := l.prog) (w := w) (base := base) t_p_part_does B) m19⟩
    | each => exact ⟨f20, itK_ref xt4 xk4 y_each_, hasA_of (h_p_each_does (P := l.prog) (w := w) (base := base) t_p_each_does B pr_) m20⟩
  have to_ := h_p_top_of (P := l.prog) (w := w) (base := base) t_p_top_of B XC
  have ha := h_p_held_as (P := l.prog) (w := w) (base := base) t_p_held_as B XC
  have eb := h_p_effect_of_basic (c_p_top_of := to_) (c_p_held_as := ha) (a := t_p_effect_of_basic) (B := B) (hS := hS) (hD := hD) (g_SORTS_TAKEN := v_SORTS_TAKEN) (g_DOES := v_DOES)
  have isb := h_p_is_basic (P := l.prog) (w := w) (base := base) t_p_is_basic B TS v_SORTS_TAKEN
  have ish := h_p_is_shuffle (P := l.prog) (w := w) (base := base) t_p_is_shuffle B ⟨_, v_LETTERS⟩ ⟨_, v_MOST_LEFT⟩
  have tl := h_p_taken_left t_p_taken_left B ish XC2 ⟨_, v_LETTERS⟩
  have es := h_p_effect_of_shuffle (a := t_p_effect_of_shuffle) (B := B) (c_p_taken_left := tl) (c_p_top_of := to_)
  have rt := h_p_row_told (P := l.prog) (w := w) (base := base) t_p_row_told B XC
  have eo := h_p_effect_of (a := t_p_effect_of) (B := B) (c_p_is_basic := isb) (c_p_effect_of_basic := eb) (c_p_is_shuffle := ish) (c_p_effect_of_shuffle := es) (c_p_row_told := rt)
  have bg := h_p_begun (P := l.prog) (w := w) (base := base) t_p_begun B
  have sof := h_p_state_of (P := l.prog) (w := w) (base := base) t_p_state_of B
  have adv := h_p_advance (a := t_p_advance) (B := B) (XM := XM) (c_p_effect_of := eo) (m_NoStep := v_NoStep)
  have run_ := h_p_run (a := tD_run) (B := B) (c_p_begun := bg) (c_p_advance := adv) (c_p_state_of := sof)
  have sts := h_p_states (a := tD_states) (B := B) (c_p_begun := bg) (c_p_state_of := sof) (c_p_advance := adv)
  have knd := h_L_kinds (P := l.prog) (w := w) (base := base) t_L_kinds B
  have fit_ := h_L_fit (P := l.prog) (w := w) (base := base) t_L_fit B
  have rk := h_L_reckoned (P := l.prog) (w := w) (base := base) t_L_reckoned B
  have rd := h_L_row_deed (P := l.prog) (w := w) (base := base) t_L_row_deed B
  have td := h_L_thing_deed (P := l.prog) (w := w) (base := base) t_L_thing_deed B
  have stp := h_L_step t_L_step B knd fit_ rk rd td
  have bk := h_L_book t_L_book B cd (tw 2).2
  have ply := h_L_play t_L_play B stp (sz 210)
  have lst_ := h_L_states t_L_states B stp (sz 210)
  have wds := h_L_words t_L_words B y_min (tw 1).2 (tw 3).2 cd (tw 2).2 cn cs
  have grw := h_L_grown t_L_grown B wds cd ply (sz 210)
  exact ok_law F50 B y_min DE b31 k31 m31 run_ sts cd bk (tw 3).1 cc (tw 3).2 grw lst_
theorem walk_law {l : PySem.W.OpenLaw} {q : Program} {loose : List Str} {XP : (Str → Option Value) → Heap → Prop} {YP : World → Heap → Prop} {d : DefRec} {K : Params → PySem.W.Frag} (hn : l.most = some 63) (hdf : d.params.defaults = [])
    (hY : ∀ (w : World) (h : Heap), YP w h → (K w.params).In h)
    (F : ∀ (w : World) (mg : Str → Option Value) (fa : Addr) (h : Heap), (K w.params).In h → h.Ns mainGlobals mg → mg d.name = some (.ref fa) →
      ∃ fd : FuncData, (∀ (s : Shared) (u : Value), BindsTo s fd ⟨[u], []⟩ [("_law_script", u)]) ∧ ∀ base : Heap, (K w.params).In base → base.Ns mainGlobals mg → FnOk l.prog w (K w.params) mg base CX0 214 fa fd ["_law_script"] (spLaw (K w.params))) :
    PySem.W.WalkO q loose XP YP l.row.toRowW d [] (fun f vs => PySem.call f vs) :=
  L2.walk_of (n := 63) (k := 214) (x := "_law_script") (CX := fun _ => CX0) (sp := fun w => spLaw (K w.params)) hn (by decide) hdf ⟨rfl, by decide, by decide⟩ hY F (fun _ _ a ns hl _ hS => ⟨a, ns, rfl, hS, hl, fun _ => rfl⟩) fun _ _ _ _ _ z => z
end K14
open PySem PySem.W PyProof.Rows
set_option maxRecDepth 100000 in
set_option maxHeartbeats 0 in
theorem PySem.Challenge.cw_takeleave_k14_whole_what_lies_beneath_holds : PySem.Challenge.rw_takeleave_k14_whole_what_lies_beneath.Holds := by
  w_on; o_law; k_head; (case hw => w_witness2)
  k_fill
  refine K14.walk_law (l := PySem.Challenge.rw_takeleave_k14_whole_what_lies_beneath) rfl rfl (fun w h Y => PySem.W.kIn_of Y) ?F
  case F =>
    intro w mg fa h KX G hmg
    refine' K14.all_mk (w := w) KX G hmg ?a1 ?l1 ?c1 ?k1 ?a2 ?l2 ?c2 ?k2 ?a3 ?l3 ?c3 ?k3 ?a4 ?l4 ?c4 ?k4 ?a5 ?l5 ?c5 ?k5 ?a6 ?l6 ?c6 ?k6 ?a7 ?l7 ?c7 ?k7 ?a8 ?l8 ?c8 ?k8 ?a9 ?l9 ?c9 ?k9 ?a10 ?l10 ?c10 ?k10 ?a11 ?l11 ?c11 ?k11 ?a12 ?l12 ?c12 ?k12 ?a13 ?l13 ?c13 ?k13 ?a14 ?l14 ?c14 ?k14 ?a15 ?l15 ?c15 ?k15 ?a16 ?l16 ?c16 ?k16 ?a17 ?l17 ?c17 ?k17 ?a18 ?l18 ?c18 ?k18 ?a19 ?l19 ?c19 ?k19 ?a20 ?l20 ?c20 ?k20 ?a21 ?l21 ?c21 ?k21 ?a22 ?l22 ?c22 ?k22 ?a23 ?l23 ?c23 ?k23 ?a24 ?l24 ?c24 ?k24 ?a25 ?l25 ?c25 ?k25 ?a26 ?l26 ?c26 ?k26 ?a27 ?l27 ?c27 ?k27 ?a28 ?l28 ?c28 ?k28 ?a29 ?l29 ?c29 ?k29 ?a30 ?l30 ?c30 ?k30 ?a31 ?l31 ?c31 ?k31 ?a32 ?l32 ?c32 ?k32 ?a33 ?l33 ?c33 ?k33 ?a34 ?l34 ?c34 ?k34 ?a35 ?l35 ?c35 ?k35 ?a36 ?l36 ?c36 ?k36 ?a37 ?l37 ?c37 ?k37 ?a38 ?l38 ?c38 ?k38 ?a39 ?l39 ?c39 ?k39 ?a40 ?l40 ?c40 ?k40 ?a41 ?l41 ?c41 ?k41 ?a42 ?l42 ?c42 ?k42 ?a43 ?l43 ?c43 ?k43 ?a44 ?l44 ?c44 ?k44 ?a45 ?l45 ?c45 ?k45 ?a46 ?l46 ?c46 ?k46 ?a47 ?l47 ?c47 ?k47 ?a48 ?l48 ?c48 ?k48 ?a49 ?l49 ?c49 ?k49 ?a50 ?l50 ?c50 ?k50 ?z_len ?z_isinstance ?z_int ?z_str ?z_tuple ?z_list ?z_bool ?z_dict ?z_all ?z_any ?z_sum ?z_sorted ?z_set ?z_range ?z_enumerate ?z_zip ?z_reversed ?z_min ?g_LETTERS ?g_MOST_LEFT ?g_NUMBERS ?g_SORTS_TAKEN ?g_DOES ?g_NoStep ?g_NoShuffle ?xt3 ?xk3 ?xl3 ?xe3 ?xv3 ?xi3 ?xt4 ?xk4 ?y_plus_ ?y_minus_ ?y_times_ ?y_less_ ?y_same_ ?y_do_ ?y_dip_ ?y_if_ ?y_while_ ?y_repeat_ ?y_join_ ?y_wrap_ ?y_put_ ?y_part_ ?y_each_ ?xP ?kP ?bP ?tP ?h4 ?sNN ?xP2 ?kP2 ?bP2 ?tP2 ?sa_run ?sl_run ?sc_run ?sk_run ?sT_run ?sa_states ?sl_states ?sc_states ?sk_states ?sT_states
    (case a1 => k_is)
    (case l1 => k_is)
    (case c1 => k_is)
    (case k1 => k_is)
    (case a2 => k_is)
    (case l2 => k_is)
    (case c2 => k_is)
    (case k2 => k_is)
    (case a3 => k_is)
    (case l3 => k_is)
    (case c3 => k_is)
    (case k3 => k_is)
    (case a4 => k_is)
    (case l4 => k_is)
    (case c4 => k_is)
    (case k4 => k_is)
    (case a5 => k_is)
    (case l5 => k_is)
    (case c5 => k_is)
    (case k5 => k_is)
    (case a6 => k_is)
    (case l6 => k_is)
    (case c6 => k_is)
    (case k6 => k_is)
    (case a7 => k_is)
    (case l7 => k_is)
    (case c7 => k_is)
    (case k7 => k_is)
    (case a8 => k_is)
    (case l8 => k_is)
    (case c8 => k_is)
    (case k8 => k_is)
    (case a9 => k_is)
    (case l9 => k_is)
    (case c9 => k_is)
    (case k9 => k_is)
    (case a10 => k_is)
    (case l10 => k_is)
    (case c10 => k_is)
    (case k10 => k_is)
    (case a11 => k_is)
    (case l11 => k_is)
    (case c11 => k_is)
    (case k11 => k_is)
    (case a12 => k_is)
    (case l12 => k_is)
    (case c12 => k_is)
    (case k12 => k_is)
    (case a13 => k_is)
    (case l13 => k_is)
    (case c13 => k_is)
    (case k13 => k_is)
    (case a14 => k_is)
    (case l14 => k_is)
    (case c14 => k_is)
    (case k14 => k_is)
    (case a15 => k_is)
    (case l15 => k_is)
    (case c15 => k_is)
    (case k15 => k_is)
    (case a16 => k_is)
    (case l16 => k_is)
    (case c16 => k_is)
    (case k16 => k_is)
    (case a17 => k_is)
    (case l17 => k_is)
    (case c17 => k_is)
    (case k17 => k_is)
    (case a18 => k_is)
    (case l18 => k_is)
    (case c18 => k_is)
    (case k18 => k_is)
    (case a19 => k_is)
    (case l19 => k_is)
    (case c19 => k_is)
    (case k19 => k_is)
    (case a20 => k_is)
    (case l20 => k_is)
    (case c20 => k_is)
    (case k20 => k_is)
    (case a21 => k_is)
    (case l21 => k_is)
    (case c21 => k_is)
    (case k21 => k_is)
    (case a22 => k_is)
    (case l22 => k_is)
    (case c22 => k_is)
    (case k22 => k_is)
    (case a23 => k_is)
    (case l23 => k_is)
    (case c23 => k_is)
    (case k23 => k_is)
    (case a24 => k_is)
    (case l24 => k_is)
    (case c24 => k_is)
    (case k24 => k_is)
    (case a25 => k_is)
    (case l25 => k_is)
    (case c25 => k_is)
    (case k25 => k_is)
    (case a26 => k_is)
    (case l26 => k_is)
    (case c26 => k_is)
    (case k26 => k_is)
    (case a27 => k_is)
    (case l27 => k_is)
    (case c27 => k_is)
    (case k27 => k_is)
    (case a28 => k_is)
    (case l28 => k_is)
    (case c28 => k_is)
    (case k28 => k_is)
    (case a29 => k_is)
    (case l29 => k_is)
    (case c29 => k_is)
    (case k29 => k_is)
    (case a30 => k_is)
    (case l30 => k_is)
    (case c30 => k_is)
    (case k30 => k_is)
    (case a31 => k_is)
    (case l31 => k_is)
    (case c31 => k_is)
    (case k31 => k_is)
    (case a32 => k_is)
    (case l32 => k_is)
    (case c32 => k_is)
    (case k32 => k_is)
    (case a33 => k_is)
    (case l33 => k_is)
    (case c33 => k_is)
    (case k33 => k_is)
    (case a34 => k_is)
    (case l34 => k_is)
    (case c34 => k_is)
    (case k34 => k_is)
    (case a35 => k_is)
    (case l35 => k_is)
    (case c35 => k_is)
    (case k35 => k_is)
    (case a36 => k_is)
    (case l36 => k_is)
    (case c36 => k_is)
    (case k36 => k_is)
    (case a37 => k_is)
    (case l37 => k_is)
    (case c37 => k_is)
    (case k37 => k_is)
    (case a38 => k_is)
    (case l38 => k_is)
    (case c38 => k_is)
    (case k38 => k_is)
    (case a39 => k_is)
    (case l39 => k_is)
    (case c39 => k_is)
    (case k39 => k_is)
    (case a40 => k_is)
    (case l40 => k_is)
    (case c40 => k_is)
    (case k40 => k_is)
    (case a41 => k_is)
    (case l41 => k_is)
    (case c41 => k_is)
    (case k41 => k_is)
    (case a42 => k_is)
    (case l42 => k_is)
    (case c42 => k_is)
    (case k42 => k_is)
    (case a43 => k_is)
    (case l43 => k_is)
    (case c43 => k_is)
    (case k43 => k_is)
    (case a44 => k_is)
    (case l44 => k_is)
    (case c44 => k_is)
    (case k44 => k_is)
    (case a45 => k_is)
    (case l45 => k_is)
    (case c45 => k_is)
    (case k45 => k_is)
    (case a46 => k_is)
    (case l46 => k_is)
    (case c46 => k_is)
    (case k46 => k_is)
    (case a47 => k_is)
    (case l47 => k_is)
    (case c47 => k_is)
    (case k47 => k_is)
    (case a48 => k_is)
    (case l48 => k_is)
    (case c48 => k_is)
    (case k48 => k_is)
    (case a49 => k_is)
    (case l49 => k_is)
    (case c49 => k_is)
    (case k49 => k_is)
    (case a50 => k_is)
    (case l50 => k_is)
    (case c50 => k_is)
    (case k50 => k_is)
    (case z_len => k_is)
    (case z_isinstance => k_is)
    (case z_int => k_is)
    (case z_str => k_is)
    (case z_tuple => k_is)
    (case z_list => k_is)
    (case z_bool => k_is)
    (case z_dict => k_is)
    (case z_all => k_is)
    (case z_any => k_is)
    (case z_sum => k_is)
    (case z_sorted => k_is)
    (case z_set => k_is)
    (case z_range => k_is)
    (case z_enumerate => k_is)
    (case z_zip => k_is)
    (case z_reversed => k_is)
    (case z_min => k_is)
    (case g_LETTERS => k_is)
    (case g_MOST_LEFT => k_is)
    (case g_NUMBERS => k_is)
    (case g_SORTS_TAKEN => k_is)
    (case g_DOES => k_is)
    (case g_NoStep => k_is)
    (case g_NoShuffle => k_is)
    (case xt3 => k_is)
    (case xk3 => first | k_is | (refine ⟨⟨_, _, rfl, rfl⟩, ⟨_, _, rfl, rfl⟩, ⟨_, _, rfl, rfl⟩, ⟨_, _, rfl, rfl⟩, ⟨_, _, rfl, rfl⟩, ⟨_, _, rfl, rfl⟩, ⟨_, _, rfl, rfl⟩, ⟨_, _, rfl, rfl⟩, ⟨_, _, rfl, rfl⟩, ⟨_, _, rfl, rfl⟩, ⟨_, _, rfl, rfl⟩, ⟨_, _, rfl, rfl⟩, ⟨_, _, rfl, rfl⟩, ⟨_, _, rfl, rfl⟩, ⟨_, _, rfl, rfl⟩, trivial⟩))
    (case xl3 => first | k_is | rfl | decide)
    (case xe3 => first | rfl | k_is | decide +kernel)
    (case xv3 => first | rfl | k_is | kernel_rfl | decide +kernel)
    (case xi3 => first | rfl | k_is | kernel_rfl | decide +kernel)
    (case xt4 => k_is)
    (case xk4 => first | k_is | (refine ⟨⟨_, _, rfl, rfl⟩, ⟨_, _, rfl, rfl⟩, ⟨_, _, rfl, rfl⟩, ⟨_, _, rfl, rfl⟩, ⟨_, _, rfl, rfl⟩, ⟨_, _, rfl, rfl⟩, ⟨_, _, rfl, rfl⟩, ⟨_, _, rfl, rfl⟩, ⟨_, _, rfl, rfl⟩, ⟨_, _, rfl, rfl⟩, ⟨_, _, rfl, rfl⟩, ⟨_, _, rfl, rfl⟩, ⟨_, _, rfl, rfl⟩, ⟨_, _, rfl, rfl⟩, ⟨_, _, rfl, rfl⟩, trivial⟩))
    (case y_plus_ => k_is)
    (case y_minus_ => k_is)
    (case y_times_ => k_is)
    (case y_less_ => k_is)
    (case y_same_ => k_is)
    (case y_do_ => k_is)
    (case y_dip_ => k_is)
    (case y_if_ => k_is)
    (case y_while_ => k_is)
    (case y_repeat_ => k_is)
    (case y_join_ => k_is)
    (case y_wrap_ => k_is)
    (case y_put_ => k_is)
    (case y_part_ => k_is)
    (case y_each_ => k_is)
    (case xP => first | k_exc | k_is)
    (case kP => k_is)
    (case bP => k_is)
    (case tP => k_is)
    (case h4 => k_is)
    (case sNN => k_is)
    (case xP2 => first | k_exc | k_is)
    (case kP2 => k_is)
    (case bP2 => k_is)
    (case tP2 => k_is)
    (case sa_run => k_is)
    (case sl_run => k_is)
    (case sc_run => k_is)
    (case sk_run => k_is)
    (case sT_run => k_is)
    (case sa_states => k_is)
    (case sl_states => k_is)
    (case sc_states => k_is)
    (case sk_states => k_is)
    (case sT_states => k_is)
