import PyProof.Rows.All
import Wide.All
import OpenK.AllK
import Wide.FinOn
import HandS.ForMost
import HandS.Rev
import KE.KDictList
import HandS.Style
import HandS.More
import HandS.IsInst
import HandS.StrMore
import HandS.Wide
import HandS.Codes
import HandS.Walk
import HandS.NoneIn
import HandS.WordsExc
import PyProof.AutoSeq1
import HandS.TupAny
import HandS.Conv
import HandS.SetFor
import HandS.ListEq
import HandS.ForExc
import HandS.ExcIs
import HandS.ExcOwn
import HandS.TupLe
import HandS.Deep
import HandS.Strs
import HandS.WordsDict
import KE.GoesMore
import KE.GoesEnum
import KE.SortData
import HandS.RevRange
import HandS.DictComp
import HandS.Text
import HandS.CallLocal
import HandS.Flow
import HandS.Nested
import HandS.ExcInit
import KE.KExcSuper
import HandS.ExcField
import HandS.ExcValue
import HandS.Zip
import KE.KDictPairs
import HandS.TupSets
import PySem.Challenge.RW_takeleave_k07_refusals_made_by_hand
set_option Elab.async false
set_option linter.all false
set_option maxRecDepth 100000
set_option maxHeartbeats 4000000
namespace Cm
open PySem PySem.Spec PyProof.Rows L2 RT
section
variable {prog : Program} {w : World} {A : Around} {E : Value → Shared → Prop} {s : Shared}
/-- list.extend over a reversed list, into the empty list at T -/
theorem revExt {J l T : Addr} {vs : Array Value} {res : Value} {c : Nat} {R : Result → Shared → Prop} (hh : A.handled = none) (hJ : s.heap.IsRevIter J l ((vs.size : Int) - 1)) (hl : s.heap.IsList l vs) (nJ : l ≠ J) (hn : vs.size ≤ sizeLine)
    (nTJ : T ≠ J) (nTl : T ≠ l) (hT : s.heap.get? T = some { cls := .type "list", data := .seq #[] c })
    (hR : ∀ h' tk acc' c', (∀ b o, b ≠ T → b ≠ J → s.heap.get? b = some o → h'.get? b = some o) → h'.get? T = some { cls := .type "list", dict := none, data := .seq acc' c', slots := #[] } → ItemsOf (fun i v => vs[vs.size - 1 - i]? = some v) acc' vs.size → R (.ok (.ret res)) { s with heap := h', toks := tk }) :
    wpAny (model prog w) A.in1 (Builtin.List.listExtendWith (.ref T) (.ref J) res)
      (fun fin s' => match fin with | .done f => R (.ok f) s' | .again c' => c'.quiet = true ∧ codeAny (model prog w) A c' R s') (fun e s' => R (.error e) s') s := by
  have WS := (Walks.listRev (prog := prog) (w := w) (A := A.in1) hh J l nJ vs).toS
  have tyJ : s.TypeIs (.ref J) "list_reverseiterator" := Heap.IsRevIter.typeIs hJ
  have nf : T ∉ [J, l] := by simp only [List.mem_cons, List.not_mem_nil, or_false, not_or]; exact And.intro nTJ nTl
  have ns : Builtin.List.listSameRef (.ref T) (.ref J) = false := by simp [Builtin.List.listSameRef, nTJ]
  unfold Builtin.List.listExtendWith
  refine wpAny_bind (wpAny_typeOf tyJ ?_)
  rw [if_neg (by rw [ns]; decide)]
  refine wpAny_bind (wpAny_pyIter_revIter hJ (wpAny_bind (wpAny_holding ?_)))
  unfold Builtin.List.listLengthHint
  refine wpAny_bind (wpAny_specialOf tyJ nolen_lri ?_)
  show wpAny _ A.in1 (specialOf (Value.ref J) (Str.ofString "__length_hint__") >>= _) _ _ _
  refine wpAny_bind (wpAny_specialOf tyJ hint_lri ?_)
  generalize eid : ("list_reverseiterator.__length_hint__" : String) = idz
  wp_delta
  rw [show splitId idz = some ("list_reverseiterator", "__length_hint__") from by subst eid; decide +kernel]
  subst eid
  refine wpAny_bind (wpAny_isInstance (b := true) tyJ (by rw [isSubtype_type]; kernel_rfl) (wpAny_pure ?_))
  rw [if_neg (by decide)]
  have z0 : ((vs.size : Nat) : Int) - 1 - ((0 : Nat) : Int) = (vs.size : Int) - 1 := by omega
  refine wpAny_pure ⟨plainId_quiet F.plain_extend_loop _, codeAny_extend_loopS WS hn _ nf _ vs.size 0 _ _ _ rfl (Nat.zero_le _) ⟨Nat.zero_le _, by rw [z0]; exact hJ, hl⟩ hT (ItemsOf.nil _) fun s' acc' c' hm hS' hacc => ?_⟩
  rw [Moved.eq_with hm]
  refine hR s'.heap s'.toks acc' c' (fun b o n1 n2 e => hm.heap b o (fun q => ?_) e) hS' hacc
  rcases List.mem_cons.mp q with z | z
  · exact n1 z
  · exact n2 (List.mem_singleton.mp z)
theorem revInit {J l T : Addr} {vs : Array Value} {R : Result → Shared → Prop} (hh : A.handled = none) (hJ : s.heap.IsRevIter J l ((vs.size : Int) - 1)) (hl : s.heap.IsList l vs) (nJ : l ≠ J) (hn : vs.size ≤ sizeLine)
    (nTJ : T ≠ J) (nTl : T ≠ l) (hT : s.heap.get? T = some { cls := .type "list", data := .seq #[] })
    (hR : ∀ h' tk acc' c', (∀ b o, b ≠ T → b ≠ J → s.heap.get? b = some o → h'.get? b = some o) → h'.get? T = some { cls := .type "list", dict := none, data := .seq acc' c', slots := #[] } → ItemsOf (fun i v => vs[vs.size - 1 - i]? = some v) acc' vs.size → R (.ok (.ret .none)) { s with heap := h', toks := tk }) :
    wpAny (model prog w) A.in1 (Builtin.«list.__init__» ⟨[.ref T, .ref J], []⟩)
      (fun fin s' => match fin with | .done f => R (.ok f) s' | .again c' => c'.quiet = true ∧ codeAny (model prog w) A c' R s') (fun e s' => R (.error e) s') s := by
  show wpAny _ _ (do let old ← Builtin.List.listItems (.ref T); Builtin.List.listUpdate (.ref T) (fun _ => #[]); letGo old.toList.reverse; Builtin.List.listExtendWith (.ref T) (.ref J) .none) _ _ s
  refine wpAny_bind ?_; unfold Builtin.List.listItems
  refine wpAny_bind (wpAny_seqItems hT rfl (wpAny_pure ?_))
  show wpAny _ _ (updateSeq T (fun _ => #[]) >>= fun _ => letGo (#[] : Array Value).toList.reverse >>= fun _ => Builtin.List.listExtendWith (.ref T) (.ref J) .none) _ _ s
  refine wpAny_bind (wpAny_updateSeq hT rfl ?_)
  have hT2 := Heap.get?_update_self (Obj.mapSeq (fun _ => (#[] : Array Value))) hT rfl
  have other : ∀ b o, b ≠ T → s.heap.get? b = some o → (s.heap.update T (Obj.mapSeq (fun _ => (#[] : Array Value)))).get? b = some o :=
    fun b o hb e => (Heap.get?_update_other _ _ (Ne.symm hb)).trans e
  refine wpAny_bind (wpAny_letGo (revExt hh (hJ.at fun o e => other _ o nTJ.symm e) (hl.at fun o e => other _ o nTl.symm e) nJ hn nTJ nTl hT2 fun h' tk acc' c' hk hS' hacc => ?_))
  exact hR h' tk acc' c' (fun b o n1 n2 e => hk b o n1 n2 (other b o n1 e)) hS' hacc
theorem call_list_rev {J l : Addr} {vs : Array Value} {Q : Value → Shared → Prop} (hh : A.handled = none) (hJ : s.heap.IsRevIter J l ((vs.size : Int) - 1)) (hl : s.heap.IsList l vs) (nJ : l ≠ J) (hn : vs.size ≤ sizeLine)
    (hQ : ∀ h' tk acc' c', (∀ b o, b ≠ J → s.heap.get? b = some o → h'.get? b = some o) → h'.get? s.heap.objs.size = some { cls := .type "list", dict := none, data := .seq acc' c', slots := #[] } → ItemsOf (fun i v => vs[vs.size - 1 - i]? = some v) acc' vs.size → Q (.ref s.heap.objs.size) { s with heap := h', toks := tk }) :
    wpAny (model prog w) A (call (.type "list") [.ref J]) Q E s := by
  refine callType_codes (Q₁ := fun obj s₁ => obj = .ref s.heap.objs.size ∧ s₁ = { s with heap := s.heap.push { cls := .type "list", data := .seq #[] } }) PySem.F.called_list (PySem.F.typeCall_list_1 _) PySem.F.entry_list_init
    (code_list_new _ ⟨rfl, rfl⟩) fun obj s₁ z => ?_
  obtain ⟨rfl, rfl⟩ := z
  have hT : (s.heap.push { cls := .type "list", data := .seq #[] }).get? s.heap.objs.size = some { cls := .type "list", data := .seq #[] } := Heap.get?_push_size _ rfl
  obtain ⟨oi, hoi, _⟩ := id hJ
  obtain ⟨ol, hol, _⟩ := id hl
  refine ⟨⟨_, hT, rfl⟩, PySem.F.args_list_init_2 _ _, revInit (A := A.in1) hh (hJ.at fun o e => Heap.get?_push_of_some _ e) (hl.push _) nJ hn (Nat.ne_of_gt (Heap.lt_size hoi)) (Nat.ne_of_gt (Heap.lt_size hol)) hT (fun h' tk acc' c' hk hS' hacc => ?_)⟩
  exact ⟨rfl, hQ h' tk acc' c' (fun b o n e => hk b o (Nat.ne_of_lt (Heap.lt_size e)) n (Heap.get?_push_of_some _ e)) hS' hacc⟩
end
/-- list(reversed(x)), x a list: a new list -/
def tLstRev (K : PySem.W.Frag) (te : TE) : TE := fun σ H Q => te σ H fun v H1 => ∃ (a : Addr) (xs : List V), v = .ref a ∧ SqL K H1 a xs ∧ ∀ q, H1 q = none → Q (.ref q) (upd H1 q (.lst xs.reverse))
section
variable {X : Cx}
theorem pe_lstRev {e : Expr} {te : TE} {p p2 pos pos2 : Pos} (hc : X.calm = true) (hg : Gl X "list") (hm : X.mg "list" = none) (hg2 : Gl X "reversed") (hm2 : X.mg "reversed" = none) (he : PE X e te)
    (hs : starEach [e] X.env = (false, eval e X.env) :: starEach [] X.env := by rfl)
    (hs2 : starEach [.Call (.Name "reversed" p2) [e] [] pos2] X.env = (false, eval (.Call (.Name "reversed" p2) [e] [] pos2) X.env) :: starEach [] X.env := by rfl) :
    PE X (.Call (.Name "list" p) [.Call (.Name "reversed" p2) [e] [] pos2] [] pos) (tLstRev X.K te) := by
  refine ⟨fun pins s σ H Q I h => ?_⟩
  refine Call_ (ld_blt I hg hm (show bootBuiltins "list" = some (.type "list") by decide +kernel) (PyProof.Rows.callWith_type1 (args_cons (Call_ (ld_blt I hg2 hm2 PyProof.Rows.boot_reversed (PyProof.Rows.callWith_type1 (args_cons (thn (he.run pins s σ H _ I h) fun u s1 ⟨v, H1, I1, r1, q1⟩ => args_nil ?_) hs) hs rfl))) hs2) hs2 rfl))
  obtain ⟨a, xs, ev, hq, q⟩ := q1
  subst ev; obtain rfl : u = Value.ref a := r1
  obtain ⟨its, rv, p', hz⟩ := I1.list hq
  refine call_reversed_list p'.isList (args_nil ?_)
  have k0 : ∀ b o, s1.heap.get? b = some o → (s1.heap.push (revObj a ((its.toArray.size : Int) - 1))).get? b = some o := fun b o e' => Heap.get?_push_of_some _ e'
  have I2 : Inv X pins σ H1 { s1 with heap := s1.heap.push (revObj a ((its.toArray.size : Int) - 1)) } := I1.kept (t' := s1.toks) k0
  obtain ⟨f0, f1, f2, f3, f4, f5⟩ := I1.fpOk (H' := H1) (b := s1.heap.objs.size) (Nat.le_refl _) (I1.hok.fresh (Nat.le_refl _))
  have isl := p'.isList
  obtain ⟨ol, hol, _⟩ := id isl
  have hne : a ≠ s1.heap.objs.size := Nat.ne_of_lt (Heap.lt_size hol)
  have hn : its.toArray.size ≤ sizeLine := by rw [List.size_toArray, ← rv.length]; exact hz
  refine call_list_rev (s := { s1 with heap := s1.heap.push (revObj a ((its.toArray.size : Int) - 1)) }) (I1.ok.hd hc) ⟨_, Heap.get?_push_size _ rfl, rfl, rfl⟩ (isl.push _) hne hn fun h' tk acc c' hk hT hi => ?_
  have hk' : ∀ b o, s1.heap.get? b = some o → h'.get? b = some o := fun b o e' => hk b o (Nat.ne_of_lt (Heap.lt_size e')) (k0 b o e')
  have sz : s1.heap.objs.size ≤ (s1.heap.push (revObj a ((its.toArray.size : Int) - 1))).objs.size := by
    rw [Heap.size_push]; exact Nat.le_succ _
  refine ⟨.ref _, upd H1 _ (.lst xs.reverse), I1.laid (t' := tk) hk' sz (show ObjOk X.prog X.w _ _ _ (.lst xs.reverse) from ⟨by rw [List.length_reverse]; exact hz, acc.toList, c', vals_rev rv hi, ?_⟩), rfl, q _ (I1.hok.fresh sz)⟩
  rw [Array.toArray_toList]
  exact hT
end
end Cm
namespace Cm
open PySem PySem.W L2 SX
theorem same_new {H : Hp} {p : Addr} (h : H p = none) (o : HO) : Same H (upd H p o) := fun b u q => by rw [upd_ne (ne_of_none q h)]; exact q
theorem cut_map {α : Type} (f : α → V) (xs : List α) (lo hi : Option Int) : ∃ ys : List α, cutV (xs.map f) lo hi = ys.map f ∧ ys.length ≤ xs.length := by
  unfold cutV
  refine ⟨(xs.drop (HT.sIx (xs.map f).length 0 lo)).take (HT.sIx (xs.map f).length (xs.map f).length hi - HT.sIx (xs.map f).length 0 lo), ?_, ?_⟩
  · rw [List.map_take, List.map_drop]
  · rw [List.length_take, List.length_drop]; omega
theorem dp_ints {K : PySem.W.Frag} {H : Hp} : ∀ ns : List Int, DpAll K H (ns.map V.int) (ns.map PyData.int)
  | [] => .nil
  | n :: r => .cons (.int n) (dp_ints r)
theorem lay_ints : ∀ ns : List Int, PyData.canLayAll0 (ns.map PyData.int) = true
  | [] => rfl
  | n :: r => by
    show (PyData.canLay0 (PyData.int n) && PyData.canLayAll0 (r.map PyData.int)) = true
    rw [lay_ints r]; rfl
theorem deep_ints : ∀ ns : List Int, PyData.depthAll (ns.map PyData.int) = 0
  | [] => rfl
  | n :: r => by
    show max (PyData.depth (PyData.int n)) (PyData.depthAll (r.map PyData.int)) = 0
    rw [deep_ints r]; rfl
theorem shaped_ints (ns : List Int) : SeqAt.shaped (.list (ns.map PyData.int)) = true := by
  show (PyData.canLayAll0 (ns.map PyData.int) && decide (PyData.depthAll (ns.map PyData.int) + 1 ≤ 64)) = true
  rw [lay_ints, deep_ints]; rfl
theorem kn {H : Hp} {a t : Addr} {o o' : HO} (h : H a = some o) (n : H t = none) : upd H t o' a = some o := by rw [upd_ne (ne_of_none h n)]; exact h
/-- all but what stands at the places L is kept -/
def Kp (L : List Addr) (H H' : Hp) : Prop := ∀ b o, b ∉ L → H b = some o → H' b = some o
theorem Kp.refl (L : List Addr) (H : Hp) : Kp L H H := fun _ _ _ h => h
theorem Kp.trans {L : List Addr} {H H1 H2 : Hp} (a : Kp L H H1) (b : Kp L H1 H2) : Kp L H H2 := fun c o n h => b c o n (a c o n h)
theorem Kp.of {L : List Addr} {H H' : Hp} (s : Same H H') : Kp L H H' := fun b o _ h => s b o h
theorem Kp.new {L : List Addr} {p : Addr} {H H' : Hp} {o : HO} (a : Kp L H H') (h : H' p = none) : Kp L H (upd H' p o) := a.trans (.of (same_new h o))
theorem Kp.own {L : List Addr} {d : Addr} {H H' : Hp} {o : HO} (a : Kp L H H') (m : d ∈ L) : Kp L H (upd H' d o) := fun b u n h => by rw [upd_ne (show b ≠ d from fun z => n (by rw [z]; exact m))]; exact a b u n h
theorem Kp.mono {L M : List Addr} {H H' : Hp} (a : Kp L H H') (h : ∀ b ∈ L, b ∈ M) : Kp M H H' := fun b o n e => a b o (fun z => n (h b z)) e
theorem Kp.free {L : List Addr} {p : Addr} {H H' : Hp} (k : Kp L H H') (n : H' p = none) (m : p ∉ L) : H p = none := by
  cases e : H p with
  | none => rfl
  | some o => rw [k p o m e] at n; cases n
theorem Kp.put {L : List Addr} {p : Addr} {H H' : Hp} {o : HO} (k : Kp L H H') (n : H p = none) : Kp L H (upd H' p o) := fun b u m e => by rw [upd_ne (ne_of_none e n)]; exact k b u m e
theorem Kp.same {L : List Addr} {H0 H H' : Hp} (a : Kp L H H') (s : Same H0 H) (h : ∀ b ∈ L, H0 b = none) : Same H0 H' := fun b o e => a b o (fun z => by rw [h b z] at e; cases e) (s b o e)
end Cm
namespace Cm
open PySem PySem.W L2 SX
/-- a text, or something else that the law hands in -/
def Vl (H : Hp) (v : V) : Option (List Nat) → Prop
  | some x => v = .str (S x) ∧ x.length ≤ 1000
  | none => (v = .non ∨ (∃ b, v = .bl b) ∨ (∃ i, v = .int i) ∨ (∃ a xs, v = .ref a ∧ H a = some (.lst xs)) ∨ (∃ a kvs, v = .ref a ∧ H a = some (.dK kvs))) ∨ (∃ a xs, v = .ref a ∧ H a = some (.tup xs) ∧ (xs = [] ∨ ∃ z, xs = [.str z]))
theorem Vl.same {H H' : Hp} {v : V} {o : Option (List Nat)} (h : Vl H v o) (s : Same H H') : Vl H' v o := by
  cases o with
  | some x => exact h
  | none =>
    rcases h with (h | h | h | ⟨a, xs, e, h⟩ | ⟨a, xs, e, h⟩) | ⟨a, xs, e, h, g⟩
    · exact .inl (.inl h)
    · exact .inl (.inr (.inl h))
    · exact .inl (.inr (.inr (.inl h)))
    · exact .inl (.inr (.inr (.inr (.inl ⟨a, xs, e, s _ _ h⟩))))
    · exact .inl (.inr (.inr (.inr (.inr ⟨a, xs, e, s _ _ h⟩))))
    · exact .inr ⟨a, xs, e, s _ _ h, g⟩
end Cm
namespace Cm
open PySem PySem.W L2 SX
/-- a text of at most n signs that a text may have -/
structure Tx (z : Str) (n : Nat) : Prop where
  len : z.length ≤ n
  ch : ∀ c ∈ z.cps.toList, c < 1114112
theorem Tx.mono {a : Str} {m n : Nat} (h : Tx a m) (l : m ≤ n) : Tx a n := ⟨Nat.le_trans h.len l, h.ch⟩
theorem Tx.at_ {z : Str} {n : Nat} (h : Tx z n) {i : Int} {c : Nat} (e : atI z.cps.toList i = some c) : Tx ⟨#[c]⟩ 1 := by
  refine ⟨Nat.le_refl 1, fun d hd => ?_⟩
  have hd' : d ∈ [c] := hd
  rw [List.mem_singleton.mp hd']
  refine h.ch c ?_
  unfold atI at e
  cases q : ixN z.cps.toList.length i with
  | none => rw [q] at e; cases e
  | some j => rw [q] at e; exact List.mem_of_getElem? e
theorem Tx.sz {z : Str} {n : Nat} (h : Tx z n) (l : n ≤ 1000 := by decide) : z.length ≤ sizeLine := Nat.le_of_lt (small1000 (Nat.le_trans h.len l))
end Cm
namespace Cm
open PySem PySem.Spec PyProof.Rows L2
end Cm
namespace Cm
open PySem PySem.W L2 SX
/-! ### data of tuples, texts and numbers as it lies in the heap -/
mutual
inductive Tr (K : Frag) (H : Hp) : V → PyData → Prop
  | int (i : Int) : Tr K H (.int i) (.int i)
  | str (x : Str) : Tr K H (.str x) (.str x)
  | tup {a : Addr} {xs : List V} {ds : List PyData} : SqT K H a xs → TrAll K H xs ds → Tr K H (.ref a) (.tuple ds)
inductive TrAll (K : Frag) (H : Hp) : List V → List PyData → Prop
  | nil : TrAll K H [] []
  | cons {v : V} {vs : List V} {d : PyData} {ds : List PyData} : Tr K H v d → TrAll K H vs ds → TrAll K H (v :: vs) (d :: ds)
end
/-- tuples are kept -/
def TKs (K : Frag) (H H' : Hp) : Prop := ∀ a xs, SqT K H a xs → SqT K H' a xs
theorem TKs.refl {K : Frag} (H : Hp) : TKs K H H := fun _ _ h => h
theorem TKs.trans {K : Frag} {H H1 H2 : Hp} (a : TKs K H H1) (b : TKs K H1 H2) : TKs K H H2 := fun c x h => b c x (a c x h)
theorem TKs.of {K : Frag} {H H' : Hp} (s : Same H H') : TKs K H H' := fun a xs h => by
  rcases h with (h | ⟨o, h⟩) | h
  · exact .inl (.inl (s _ _ h))
  · exact .inl (.inr ⟨o, s _ _ h⟩)
  · exact .inr h
theorem TKs.kp {K : Frag} {L : List Addr} {H H' : Hp} (k : Kp L H H') (hl : ∀ b ∈ L, ∃ xs, H b = some (.lst xs)) : TKs K H H' := fun a xs h => by
  have nm : ∀ o, H a = some o → (∀ ys, o ≠ .lst ys) → a ∉ L := fun o e n z => by
    obtain ⟨ys, ey⟩ := hl a z
    rw [ey] at e
    exact n ys (Option.some.inj e).symm
  rcases h with (h | ⟨o, h⟩) | h
  · exact .inl (.inl (k _ _ (nm _ h (fun _ z => by cases z)) h))
  · exact .inl (.inr ⟨o, k _ _ (nm _ h (fun _ z => by cases z)) h⟩)
  · exact .inr h
theorem TKs.lst {K : Frag} {H : Hp} {d : Addr} {xs ys : List V} (h : H d = some (.lst xs)) : TKs K H (upd H d (.lst ys)) :=
  TKs.kp (L := [d]) (fun b o m e => by rw [upd_ne (fun z => m (List.mem_singleton.mpr z))]; exact e) (fun b hb => by rw [List.mem_singleton.mp hb]; exact ⟨xs, h⟩)
mutual
theorem Tr.mono {K : Frag} {H H' : Hp} (k : TKs K H H') : ∀ {v : V} {d : PyData}, Tr K H v d → Tr K H' v d
  | _, _, .int i => .int i
  | _, _, .str x => .str x
  | _, _, .tup h t => .tup (k _ _ h) (TrAll.mono k t)
theorem TrAll.mono {K : Frag} {H H' : Hp} (k : TKs K H H') : ∀ {v : List V} {d : List PyData}, TrAll K H v d → TrAll K H' v d
  | _, _, .nil => .nil
  | _, _, .cons h t => .cons (Tr.mono k h) (TrAll.mono k t)
end
mutual
theorem Tr.dp {K : Frag} {H : Hp} : ∀ {v : V} {d : PyData}, Tr K H v d → Dp K H v d
  | _, _, .int i => .int i
  | _, _, .str x => .str x
  | _, _, .tup h t => .tup h (TrAll.dp t)
theorem TrAll.dp {K : Frag} {H : Hp} : ∀ {v : List V} {d : List PyData}, TrAll K H v d → DpAll K H v d
  | _, _, .nil => .nil
  | _, _, .cons h t => .cons (Tr.dp h) (TrAll.dp t)
end
theorem TrAll.len {K : Frag} {H : Hp} : ∀ {v : List V} {d : List PyData}, TrAll K H v d → v.length = d.length
  | _, _, .nil => rfl
  | _, _, .cons _ t => congrArg (· + 1) (TrAll.len t)
theorem TrAll.append {K : Frag} {H : Hp} : ∀ {v v' : List V} {d d' : List PyData}, TrAll K H v d → TrAll K H v' d' → TrAll K H (v ++ v') (d ++ d')
  | _, _, _, _, .nil, h => h
  | _, _, _, _, .cons h t, h' => .cons h (TrAll.append t h')
theorem TrAll.get {K : Frag} {H : Hp} : ∀ {v : List V} {d : List PyData} {i : Nat} {x : V}, TrAll K H v d → v[i]? = some x → ∃ y, d[i]? = some y ∧ Tr K H x y
  | _, _, i, x, .nil, h => by simp at h
  | _, _, 0, x, .cons h t, e => ⟨_, rfl, by cases e; exact h⟩
  | _, _, i + 1, x, .cons h t, e => by
    rw [List.getElem?_cons_succ] at e ⊢
    exact TrAll.get t e
theorem TrAll.snoc {K : Frag} {H : Hp} {v : List V} {d : List PyData} {x : V} (h : TrAll K H (v ++ [x]) d) : ∃ d' y, d = d' ++ [y] ∧ TrAll K H v d' ∧ Tr K H x y := by
  induction v generalizing d with
  | nil =>
    cases h with
    | cons a b => cases b; exact ⟨[], _, rfl, .nil, a⟩
  | cons u r ih =>
    cases h with
    | cons a b =>
      obtain ⟨d', y, rfl, h1, h2⟩ := ih b
      exact ⟨_ :: d', y, rfl, .cons a h1, h2⟩
/-! ### things, rows, stacks: depth, words in all, size -/
mutual
inductive Thg : Nat → Nat → Nat → PyData → Prop
  | num {k : Nat} (n : Int) (h0 : 0 ≤ n) (h1 : n < 10 ^ 12) : Thg k 0 1 (.tuple [.str "number", .int n])
  | row {k k' w m : Nat} {ws : List PyData} : Rw k w m ws → k < k' → Thg k' w (m + 1) (.tuple [.str "row", .tuple ws])
  | lst {k k' w m : Nat} {ts : List PyData} : Stk k w m ts → k < k' → Thg k' w (m + 1) (.tuple [.str "list", .tuple ts])
inductive Rw : Nat → Nat → Nat → List PyData → Prop
  | nil {k : Nat} : Rw k 0 0 []
  | txt {k w m : Nat} {z : Str} {ws : List PyData} : Tx z 100 → Rw k w m ws → Rw k (w + 1) (m + 1) (.str z :: ws)
  | push {k w m w' m' : Nat} {t : PyData} {ws : List PyData} : Thg k w m t → Rw k w' m' ws → Rw k (w + w' + 1) (m + m' + 1) (.tuple [.str "push", t] :: ws)
inductive Stk : Nat → Nat → Nat → List PyData → Prop
  | nil {k : Nat} : Stk k 0 0 []
  | cons {k w m w' m' : Nat} {t : PyData} {ts : List PyData} : Thg k w m t → Stk k w' m' ts → Stk k (w + w') (m + m') (t :: ts)
end
theorem Rw.append {k : Nat} : ∀ {a b : List PyData} {w m w' m' : Nat}, Rw k w m a → Rw k w' m' b → Rw k (w + w') (m + m') (a ++ b)
  | _, _, _, _, _, _, .nil, h => by rw [Nat.zero_add, Nat.zero_add]; exact h
  | _, _, _, _, w', m', .txt (w := w) (m := m) h t, h' => by
    have := Rw.txt h (Rw.append t h')
    rw [show w + 1 + w' = w + w' + 1 by omega, show m + 1 + m' = m + m' + 1 by omega]
    exact this
  | _, _, _, _, w', m', .push (w := w) (m := m) (w' := x) (m' := y) h t, h' => by
    have := Rw.push h (Rw.append t h')
    rw [show w + x + 1 + w' = w + (x + w') + 1 by omega, show m + y + 1 + m' = m + (y + m') + 1 by omega]
    exact this
theorem Stk.append {k : Nat} : ∀ {a b : List PyData} {w m w' m' : Nat}, Stk k w m a → Stk k w' m' b → Stk k (w + w') (m + m') (a ++ b)
  | _, _, _, _, _, _, .nil, h => by rw [Nat.zero_add, Nat.zero_add]; exact h
  | _, _, _, _, _, _, .cons h t, h' => by
    rw [Nat.add_assoc, Nat.add_assoc]; exact .cons h (Stk.append t h')
theorem Stk.snoc {k : Nat} : ∀ {a : List PyData} {t : PyData} {w m : Nat}, Stk k w m (a ++ [t]) → ∃ w1 m1 w2 m2, Stk k w1 m1 a ∧ Thg k w2 m2 t ∧ w = w1 + w2 ∧ m = m1 + m2
  | [], t, w, m, h => by
    have h' : Stk k w m [t] := h
    cases h' with
    | cons a b => cases b; exact ⟨0, 0, _, _, .nil, a, by omega, by omega⟩
  | x :: r, t, w, m, h => by
    have h' : Stk k w m (x :: (r ++ [t])) := h
    cases h' with
    | cons a q =>
      obtain ⟨w1, m1, w2, m2, a', b, rfl, rfl⟩ := Stk.snoc q
      exact ⟨_, _, w2, m2, .cons a a', b, by omega, by omega⟩
theorem Thg.pos {k w m : Nat} {t : PyData} (h : Thg k w m t) : 1 ≤ m := by
  cases h <;> omega
theorem Stk.len {k : Nat} : ∀ {a : List PyData} {w m : Nat}, Stk k w m a → a.length ≤ m
  | _, _, _, .nil => Nat.le_refl 0
  | _, _, _, .cons h t => by
    have h1 := Stk.len t
    have h2 := h.pos
    rw [List.length_cons]; omega
theorem Rw.len {k : Nat} : ∀ {a : List PyData} {w m : Nat}, Rw k w m a → a.length ≤ m
  | _, _, _, .nil => Nat.le_refl 0
  | _, _, _, .txt h t => by have := Rw.len t; rw [List.length_cons]; omega
  | _, _, _, .push h t => by have := Rw.len t; rw [List.length_cons]; omega
theorem Rw.at_ {k : Nat} : ∀ {ws : List PyData} {w m i : Nat} {d : PyData}, Rw k w m ws → ws[i]? = some d → (∃ z, d = .str z) ∨ (∃ t, d = .tuple [.str "push", t])
  | _, _, _, i, d, .nil, h => by simp at h
  | _, _, _, 0, d, .txt (z := z) h t, e => .inl ⟨z, by cases e; rfl⟩
  | _, _, _, 0, d, .push (t := t) h _, e => .inr ⟨t, by cases e; rfl⟩
  | _, _, _, i + 1, d, .txt h t, e => Rw.at_ t e
  | _, _, _, i + 1, d, .push h t, e => Rw.at_ t e
theorem mid {n : Nat} (h : n ≤ 1000000) : n ≤ sizeLine := Nat.le_trans h (by decide)
theorem midlt {n : Nat} (h : n < 1000000) : n < sizeLine := Nat.lt_of_lt_of_le h (by decide)
mutual
theorem Thg.lay : ∀ {k w m : Nat} {t : PyData}, Thg k w m t → PyData.canLay0 t = true ∧ PyData.depth t ≤ 3 * k + 1
  | k, _, _, _, .num n h0 h1 => ⟨by show (PyData.canLay0 (.str "number") && (true && true)) = true; decide +kernel, Nat.le_add_left 1 _⟩
  | k', _, _, _, .row (k := k) (ws := ws) h l => by
    obtain ⟨a, b⟩ := Rw.lay h
    refine ⟨?_, ?_⟩
    · show (PyData.canLay0 (.str "row") && (PyData.canLayAll0 ws && true)) = true
      rw [a]; decide +kernel
    · show max 0 (max (PyData.depthAll ws + 1) 0) + 1 ≤ _
      omega
  | k', _, _, _, .lst (k := k) (ts := ts) h l => by
    obtain ⟨a, b⟩ := Stk.lay h
    refine ⟨?_, ?_⟩
    · show (PyData.canLay0 (.str "list") && (PyData.canLayAll0 ts && true)) = true
      rw [a]; decide +kernel
    · show max 0 (max (PyData.depthAll ts + 1) 0) + 1 ≤ _
      omega
theorem Rw.lay : ∀ {k w m : Nat} {ws : List PyData}, Rw k w m ws → PyData.canLayAll0 ws = true ∧ PyData.depthAll ws ≤ 3 * k + 2
  | k, _, _, _, .nil => ⟨rfl, Nat.zero_le _⟩
  | k, _, _, _, .txt (z := z) (ws := ws) h t => by
    obtain ⟨a, b⟩ := Rw.lay t
    refine ⟨?_, ?_⟩
    · show (z.cps.all (· < 0x110000) && PyData.canLayAll0 ws) = true
      rw [a, Bool.and_true, ← Array.all_toList, List.all_eq_true]
      intro c hc
      exact decide_eq_true (h.ch c hc)
    · show max 0 (PyData.depthAll ws) ≤ _
      omega
  | k, _, _, _, .push (t := t) (ws := ws) h r => by
    obtain ⟨a, b⟩ := Rw.lay r
    obtain ⟨a', b'⟩ := Thg.lay h
    refine ⟨?_, ?_⟩
    · show ((PyData.canLay0 (.str "push") && (PyData.canLay0 t && true)) && PyData.canLayAll0 ws) = true
      rw [a, a']; decide +kernel
    · show max (max 0 (max (PyData.depth t) 0) + 1) (PyData.depthAll ws) ≤ _
      omega
theorem Stk.lay : ∀ {k w m : Nat} {ts : List PyData}, Stk k w m ts → PyData.canLayAll0 ts = true ∧ PyData.depthAll ts ≤ 3 * k + 1
  | k, _, _, _, .nil => ⟨rfl, Nat.zero_le _⟩
  | k, _, _, _, .cons (t := t) (ts := ts) h r => by
    obtain ⟨a, b⟩ := Stk.lay r
    obtain ⟨a', b'⟩ := Thg.lay h
    refine ⟨?_, ?_⟩
    · show (PyData.canLay0 t && PyData.canLayAll0 ts) = true
      rw [a, a']; rfl
    · show max (PyData.depth t) (PyData.depthAll ts) ≤ _
      omega
end
theorem Stk.shaped {k w m : Nat} {ts : List PyData} (h : Stk k w m ts) (l : k ≤ 20) : SeqAt.shaped (.list ts) = true := by
  obtain ⟨a, b⟩ := h.lay
  show (PyData.canLayAll0 ts && decide (PyData.depthAll ts + 1 ≤ 64)) = true
  rw [a, Bool.true_and]; exact decide_eq_true (by omega)
end Cm
namespace Cm
open PySem PySem.W L2 SX
end Cm
namespace Cm
open PySem PySem.W L2 SX
/-! ### maps: what stays lowest -/
/-- a map as data: a number and a tuple of numbers -/
def mapD (n : Int) (ps : List Int) : PyData := .tuple [.int n, .tuple (ps.map PyData.int)]
/-- a map stands at p -/
def MapAt (K : Frag) (H : Hp) (p : Addr) (n : Int) (ps : List Int) : Prop := ∃ t, SqT K H p [.int n, .ref t] ∧ SqT K H t (ps.map V.int)
/-! ### rules -/
theorem Same.seqT {K : PySem.W.Frag} {H H' : Hp} {a : Addr} {xs : List V} (e : Same H H') (h : SqT K H a xs) : SqT K H' a xs := by
  rcases h with (h | ⟨o, h⟩) | h
  · exact .inl (.inl (e _ _ h))
  · exact .inl (.inr ⟨o, e _ _ h⟩)
  · exact .inr h
theorem MapAt.same {K : Frag} {H H' : Hp} {p : Addr} {n : Int} {ps : List Int} (h : MapAt K H p n ps) (s : Same H H') : MapAt K H' p n ps := by
  obtain ⟨t, h1, h2⟩ := h
  exact ⟨t, Same.seqT s h1, Same.seqT s h2⟩
theorem MapAt.dp {K : Frag} {H : Hp} {p : Addr} {n : Int} {ps : List Int} (h : MapAt K H p n ps) : Dp K H (.ref p) (mapD n ps) := by
  obtain ⟨t, h1, h2⟩ := h
  exact .tup h1 (.cons (.int _) (.cons (.tup h2 (dp_ints ps)) .nil))
/-! ### a tuple's method: the tuple is kept as the object that was made, which has no dict -/
/-- a tuple of xs stands at p, as an object without a dict -/
def TupO (H : Hp) (p : Addr) (xs : List V) : Prop := ∃ o : Obj, o.dict = none ∧ H p = some (.frz o (.tup xs))
theorem TupO.same {H H' : Hp} {p : Addr} {xs : List V} (h : TupO H p xs) (s : Same H H') : TupO H' p xs := by
  obtain ⟨o, d, h⟩ := h
  exact ⟨o, d, s _ _ h⟩
theorem TupO.kp {H H' : Hp} {d p : Addr} {xs ys : List V} (h : TupO H p xs) (hd : H d = some (.lst ys)) (s : Kp [d] H H') : TupO H' p xs := by
  obtain ⟨o, e, h⟩ := h
  exact ⟨o, e, s p _ (fun z => by rw [List.mem_singleton.mp z, hd] at h; cases h) h⟩
end Cm
/-! xs == [] of any list, and t[::-1] of a tuple -/
namespace PySem.SeqAt
open AutoSeq1 (wpAny_loadPart')
open MeetsSeq MeetsSeq2 MeetsSeq3 SeqRoads2
section
variable {prog : Program} {w : World}
theorem cm_list_neIn (l b : Addr) (items items2 : Array Value) (n n2 : Nat) (dd dd2 : Option Addr) (sl sl2 : Array (Option Value)) (hsz : items.size ≠ items2.size) :
    MeetsIn prog w (Builtin.«list.__eq__» ⟨[.ref l, .ref b], []⟩)
      (fun A R s => s.heap.get? l = some { cls := .type "list", dict := dd, data := .seq items n, slots := sl } ∧ s.heap.get? b = some { cls := .type "list", dict := dd2, data := .seq items2 n2, slots := sl2 } ∧
        R (.ok (.ret (.bool false))) s) := by
  intro A R s h
  obtain ⟨hp, g, d, tk, os⟩ := s; obtain ⟨hl, hb, h⟩ := h
  have f3 := AutoSeq1.sub_list_list
  have hne : (items.size != items2.size) = true := by simp [hsz]
  wp_walk using wpAny_loadPart' hl, wpAny_loadPart' hb
  exact h
theorem cm_rcP_ne {A : Around} {s : Shared} {l b : Addr} {items items2 : Array Value} (hl : s.heap.IsList l items) (hb : s.heap.IsList b items2) (hsz : items.size ≠ items2.size) (hu : A.units < cLine)
    (E Q : Value → Shared → Prop) (h : Q (.bool false) s) : wpAny (model prog w) A (richCompare .Eq (.ref l) (.ref b)) Q E s := by
  obtain ⟨⟨cls, dd, data, sl⟩, ho, hc, n, hd⟩ := id hl
  obtain ⟨⟨cls2, dd2, data2, sl2⟩, ho2, hc2, n2, hd2⟩ := id hb
  simp only at hc hd hc2 hd2
  subst hc hd hc2 hd2
  have ta : s.TypeIs (.ref l) "list" := ⟨_, ho, rfl⟩
  have tb : s.TypeIs (.ref b) "list" := ⟨_, ho2, rfl⟩
  exact wpAny_richCompare_same_room (op := .Eq) ta tb F.slot_list_eq (call_meetsIn F.slot_list_eq ta F.entry_list_eq (F.args_list_eq_2 _ _) (cm_list_neIn l b items items2 n n2 dd dd2 sl sl2 hsz)
    ⟨ho, ho2, show Value.bool false ≠ Value.notImplemented ∧ Q (.bool false) s from ⟨(fun x => nomatch x), h⟩⟩) hu
end
end PySem.SeqAt
namespace Cm
open PySem PySem.Spec PyProof.Rows PySem.W L2 SX
section
variable {X : Cx}
/-- xs == [] -/
def rEqNil (K : Frag) : R2 := fun x y H Q => ∃ a b xs, x = .ref a ∧ y = .ref b ∧ SqL K H a xs ∧ SqL K H b [] ∧ Q (.bl xs.isEmpty) H
theorem op_eqNil (hu : X.A.units + 64 < cLine) : OpR X (compareOp .Eq) (rEqNil X.K) := by
  intro pins s σ H x y v u Q I rx ry h
  obtain ⟨a, b, xs, rfl, rfl, ha, hb, q⟩ := h
  cases rx
  cases ry
  obtain ⟨us, r1, p1, _⟩ := I.list ha
  obtain ⟨ws, r2, p2, _⟩ := I.list hb
  cases r2
  cases r1 with
  | nil =>
    refine SeqAt.rcP_lists (e := fun _ => true) p1.isList p2.isList rfl (by omega) (fun j h1 h2 => ?_) _ _ ⟨.bl true, H, I, rfl, q⟩
    exact absurd h1 (Nat.not_lt_zero j)
  | cons h t =>
    refine SeqAt.cm_rcP_ne p1.isList p2.isList (by simp) (by omega) _ _ ⟨.bl false, H, I, rfl, q⟩
end
end Cm
namespace Cm
open PySem PySem.Spec PyProof.Rows PySem.W L2 SX
end Cm
namespace Cm
open PySem PySem.Spec PyProof.Rows PySem.W L2 SX
section
variable {X : Cx}
/-- t == () -/
def rEqNilT (K : Frag) : R2 := fun x y H Q => ∃ a b xs, x = .ref a ∧ y = .ref b ∧ SqT K H a xs ∧ SqT K H b [] ∧ Q (.bl xs.isEmpty) H
theorem op_eqNilT (hu : X.A.units + 64 < cLine) : OpR X (compareOp .Eq) (rEqNilT X.K) := by
  intro pins s σ H x y v u Q I rx ry h
  obtain ⟨a, b, xs, rfl, rfl, ha, hb, q⟩ := h
  cases rx
  cases ry
  obtain ⟨us, r1, p1, _⟩ := I.tuple ha
  obtain ⟨ws, r2, p2, _⟩ := I.tuple hb
  cases r2
  have e : xs.isEmpty = ((List.range (min us.toArray.size (#[] : Array Value).size)).all (fun _ => true) && us.toArray.size == (#[] : Array Value).size) := by
    cases r1 with
    | nil => rfl
    | cons h t => rw [List.size_toArray]; rfl
  rw [e] at q
  obtain ⟨⟨cls, dd, data, sl⟩, ho, hc, n, hd⟩ := id p1
  obtain ⟨⟨cls2, dd2, data2, sl2⟩, ho2, hc2, n2, hd2⟩ := id p2
  simp only at hc hd hc2 hd2
  subst hc hd hc2 hd2
  refine richCompare_meets_room (op := .Eq) ⟨_, ho, rfl⟩ ⟨_, ho2, rfl⟩ F.slot_tuple_eq F.entry_tuple_eq (F.args_tuple_eq_2 _ _) (SeqAt.tuple_eqAt a b us.toArray #[] n n2 dd dd2 sl sl2 (fun _ => true)) ?_ (by omega)
  exact ⟨ho, ho2, (fun j h1 h2 => absurd h2 (Nat.not_lt_zero j)), (fun z => nomatch z), ⟨.bl _, H, I, rfl, q⟩⟩
end
end Cm
namespace Cm
open PySem PySem.W L2 SX
/-! ### isinstance of a caught error, its class and dict told by the reading -/
end Cm
/-! an error that is caught and held beyond its suite: behind the suite its place is told by what its object is -/
namespace Cm
open PySem PySem.W L2 SX
/-- an error of the class cls, with the dict d, stands at a -/
def ExcAt (a : Addr) (cls : Value) (d : Option Addr) : Heap → Prop := fun h => ∃ oe vs, h.get? a = some oe ∧ Zc cls d oe ∧ oe.data = .fields vs
def eOb (a : Addr) (cls : Value) (d : Option Addr) : HO := .ext (ExcAt a cls d)
theorem eOb_ok {P : Program} {w : World} {H : Hp} {h : Heap} {a : Addr} {cls : Value} {d : Option Addr} {oe : Obj} {vs : Array Value} (e : h.get? a = some oe) (z : Zc cls d oe) (f : oe.data = .fields vs) : ObjOk P w H h a (eOb a cls d) :=
  ⟨⟨oe, vs, e, z, f⟩, ⟨oe, e⟩, fun h1 h2 ⟨o1, v1, e1, z1, f1⟩ k => ⟨o1, v1, k _ e1, z1, f1⟩⟩
section
open PySem.Spec PyProof.Rows
variable {X : Cx} {pins : List (Addr × Obj)} {σ : L2.St} {H : Hp} {s : Shared}
variable {x n : Str} {c : Value} {i : Nat} {body suite : List Stmt} {b₀ : Stmt} {np pos pos' : Pos} {tb : WX → TS} {ts : Addr → Value → Option Addr → TS} {Wout : WX}
/-! ### isinstance of an error that is held -/
def rIsH (K : PySem.W.Frag) : List V → Hp → VK → Prop := fun xs H Q => ∃ (a D : Addr) (c : V) (cv : Value) (b : Bool), xs = [.ref a, c] ∧ ExcC K D ∧ H a = some (eOb a (.ref D) none) ∧ (∀ u, RelV c u → u = cv) ∧ PySem.W.kitOne K (.ref D) cv = some b ∧ Q (.bl b) H
theorem eOb_inst {P : Program} {w : World} {h : Heap} {a D : Addr} (x : ObjOk P w H h a (eOb a (.ref D) none)) : ∃ oe, PySem.W.InstAt h a oe D none := by
  obtain ⟨⟨oe, vs, e, z, f⟩, _⟩ := x
  obtain ⟨oc, od, oda, osl⟩ := oe
  obtain ⟨h1, h2⟩ := z
  dsimp only at h1 h2 f
  subst h1 h2 f
  exact ⟨_, e, rfl, rfl, trivial⟩
theorem call_isH : CallR X (.builtin "isinstance") (rIsH X.K) := by
  intro pins s σ H xs us Q I r h
  obtain ⟨a, D, c, cv, b, rfl, C, ha, hcv, e, q⟩ := h
  obtain ⟨u1, u2, rfl, r1, r2⟩ := r.two
  cases r1
  have ec := hcv _ r2
  subst ec
  obtain ⟨oe, J⟩ := eOb_inst (I.hok a _ ha)
  exact PySem.W.kia_one (PySem.W.handS_kitx_exc C.hg C.hk C.hs C.hd C.ha C.hn C.ht C.hm) I.kIn J e (fun z => nomatch z) fun tk => ⟨.bl b, H, I.tok tk, rfl, q⟩
end
end Cm
/-! The layer of data: tuples are values, what can change stands in a store of its own. -/
namespace DD
open PySem PySem.W L2 SX Cm
inductive DV where
  | non | bl (b : Bool) | int (i : Int) | str (z : Str) | ty (n : String) | tup (xs : List DV) | ref (a : Addr)
noncomputable instance : DecidableEq DV := fun a b => Classical.propDecidable (a = b)
mutual
inductive RV (K : Frag) (H : Hp) : V → DV → Prop
  | non : RV K H .non .non
  | bl (b : Bool) : RV K H (.bl b) (.bl b)
  | int (i : Int) : RV K H (.int i) (.int i)
  | str (z : Str) : RV K H (.str z) (.str z)
  | ty (n : String) : RV K H (.ty n) (.ty n)
  | ref (a : Addr) : RV K H (.ref a) (.ref a)
  | tup {a : Addr} {xs : List V} {ds : List DV} : SqT K H a xs → RVs K H xs ds → RV K H (.ref a) (.tup ds)
inductive RVs (K : Frag) (H : Hp) : List V → List DV → Prop
  | nil : RVs K H [] []
  | cons {v : V} {vs : List V} {d : DV} {ds : List DV} : RV K H v d → RVs K H vs ds → RVs K H (v :: vs) (d :: ds)
end
mutual
theorem RV.mono {K : Frag} {H H' : Hp} (k : TKs K H H') : ∀ {v : V} {d : DV}, RV K H v d → RV K H' v d
  | _, _, .non => .non
  | _, _, .bl b => .bl b
  | _, _, .int i => .int i
  | _, _, .str z => .str z
  | _, _, .ty n => .ty n
  | _, _, .ref a => .ref a
  | _, _, .tup h t => .tup (k _ _ h) (RVs.mono k t)
theorem RVs.mono {K : Frag} {H H' : Hp} (k : TKs K H H') : ∀ {v : List V} {d : List DV}, RVs K H v d → RVs K H' v d
  | _, _, .nil => .nil
  | _, _, .cons h t => .cons (RV.mono k h) (RVs.mono k t)
end
section
variable {K : Frag} {H H' : Hp}
theorem RVs.len : ∀ {v : List V} {d : List DV}, RVs K H v d → v.length = d.length
  | _, _, .nil => rfl
  | _, _, .cons _ t => congrArg (· + 1) (RVs.len t)
theorem RVs.append : ∀ {v v' : List V} {d d' : List DV}, RVs K H v d → RVs K H v' d' → RVs K H (v ++ v') (d ++ d')
  | _, _, _, _, .nil, h => h
  | _, _, _, _, .cons h t, h' => .cons h (RVs.append t h')
theorem RVs.get : ∀ {v : List V} {d : List DV} {i : Nat} {y : DV}, RVs K H v d → d[i]? = some y → ∃ x, v[i]? = some x ∧ RV K H x y
  | _, _, _, _, .nil, e => by simp at e
  | _, _, 0, _, .cons h t, e => by cases e; exact ⟨_, rfl, h⟩
  | _, _, i + 1, _, .cons h t, e => RVs.get (i := i) t (by simpa using e)
theorem RVs.drop : ∀ (n : Nat) {v : List V} {d : List DV}, RVs K H v d → RVs K H (v.drop n) (d.drop n)
  | 0, _, _, h => h
  | _ + 1, _, _, .nil => .nil
  | n + 1, _, _, .cons _ t => RVs.drop n t
theorem RVs.take : ∀ (n : Nat) {v : List V} {d : List DV}, RVs K H v d → RVs K H (v.take n) (d.take n)
  | 0, _, _, _ => .nil
  | _ + 1, _, _, .nil => .nil
  | n + 1, _, _, .cons h t => .cons h (RVs.take n t)
theorem RVs.reverse : ∀ {v : List V} {d : List DV}, RVs K H v d → RVs K H v.reverse d.reverse
  | _, _, .nil => .nil
  | _, _, .cons h t => by rw [List.reverse_cons, List.reverse_cons]; exact (RVs.reverse t).append (.cons h .nil)
theorem RVs.set {x : V} {y : DV} (r : RV K H x y) : ∀ {v : List V} {d : List DV} (i : Nat), RVs K H v d → RVs K H (v.set i x) (d.set i y)
  | _, _, _, .nil => .nil
  | _, _, 0, .cons _ t => .cons r t
  | _, _, i + 1, .cons h t => .cons h (RVs.set r i t)
theorem RVs.dropLast : ∀ {v : List V} {d : List DV}, RVs K H v d → RVs K H v.dropLast d.dropLast
  | _, _, .nil => .nil
  | _, _, .cons h .nil => .nil
  | _, _, .cons h (.cons h' t) => .cons h (RVs.dropLast (.cons h' t))
theorem RVs.isEmpty {v : List V} {d : List DV} (h : RVs K H v d) : v.isEmpty = d.isEmpty := by cases h <;> rfl
theorem RVs.ints : ∀ (ns : List Int), RVs K H (ns.map V.int) (ns.map DV.int)
  | [] => .nil
  | n :: r => .cons (.int n) (RVs.ints r)
theorem RV.tupD {v : V} {ds : List DV} (h : RV K H v (.tup ds)) : ∃ a xs, v = .ref a ∧ SqT K H a xs ∧ RVs K H xs ds := by
  cases h with
  | tup a b => exact ⟨_, _, rfl, a, b⟩
end
/-! ### the store -/
inductive DO where
  | lst (xs : List DV)
  /-- a list that is only read -/
  | ro (xs : List DV)
  | dct (kvs : List (Key × DV))
  /-- a list of one number, whatever it is -/
  | cnt
  /-- a tuple kept as the object that was made -/
  | ptp (ds : List DV)
  /-- an instance of the class at C, its attributes -/
  | obj (C : Addr) (fs : List (Str × DV))
  /-- a caught error of this class -/
  | err (cls : Value)
  /-- what is true of the objects at L, the first of which it is -/
  | abs (L : List Addr) (φ : Hp → Prop)
  /-- whatever is told of the object at its place, that more tuples do not change -/
  | gen (p : Frag → Hp → Addr → Prop)
abbrev DG := Addr → Option DO
def dupd (G : DG) (a : Addr) (o : DO) : DG := fun b => if b = a then some o else G b
theorem dupd_same {G : DG} {a : Addr} {o : DO} : dupd G a o a = some o := if_pos rfl
theorem dupd_ne {G : DG} {a b : Addr} {o : DO} (h : b ≠ a) : dupd G a o b = G b := if_neg h
theorem dupd_dupd {G : DG} {a : Addr} {o o' : DO} : dupd (dupd G a o) a o' = dupd G a o' := by
  funext b; unfold dupd; split <;> rfl
inductive KRV (K : Frag) (H : Hp) : List (Key × V) → List (Key × DV) → Prop
  | nil : KRV K H [] []
  | cons {k : Key} {v : V} {d : DV} {vs : List (Key × V)} {ds : List (Key × DV)} : RV K H v d → KRV K H vs ds → KRV K H ((k, v) :: vs) ((k, d) :: ds)
theorem KRV.mono {K : Frag} {H H' : Hp} (k : TKs K H H') {vs : List (Key × V)} {ds : List (Key × DV)} (h : KRV K H vs ds) : KRV K H' vs ds := by
  induction h with
  | nil => exact .nil
  | cons h _ ih => exact .cons (h.mono k) ih
inductive FRV (K : Frag) (H : Hp) : List (Str × V) → List (Str × DV) → Prop
  | nil : FRV K H [] []
  | cons {k : Str} {v : V} {d : DV} {vs : List (Str × V)} {ds : List (Str × DV)} : RV K H v d → FRV K H vs ds → FRV K H ((k, v) :: vs) ((k, d) :: ds)
theorem FRV.mono {K : Frag} {H H' : Hp} (k : TKs K H H') {vs : List (Str × V)} {ds : List (Str × DV)} (h : FRV K H vs ds) : FRV K H' vs ds := by
  induction h with
  | nil => exact .nil
  | cons h _ ih => exact .cons (h.mono k) ih
def OR (K : Frag) (H : Hp) (O : Addr → Option Addr) (a : Addr) : DO → Prop
  | .lst ds => ∃ xs, H a = some (.lst xs) ∧ RVs K H xs ds
  | .ro ds => ∃ xs, Rd H a (.lst xs) ∧ RVs K H xs ds
  | .dct kvs => ∃ ks, H a = some (.dK ks) ∧ KRV K H ks kvs
  | .cnt => ∃ n : Int, H a = some (.lst [.int n])
  | .ptp ds => ∃ o xs, o.dict = Option.none ∧ H a = some (.frz o (.tup xs)) ∧ RVs K H xs ds
  | .obj C fs => ∃ dx vs, H a = some (.ins C dx vs) ∧ FRV K H vs fs
  | .err cls => H a = some (eOb a cls Option.none)
  | .abs L φ => a ∈ L ∧ (∃ xs, H a = some (.lst xs)) ∧ φ H ∧ (∀ H1 H2, (∀ b ∈ L, H1 b = H2 b) → φ H1 → φ H2) ∧ ∀ b ∈ L, b ≠ a → O b = some a
  | .gen p => (∃ u, H a = some u) ∧ p K H a ∧ ∀ H1 H2, TKs K H1 H2 → H2 a = H1 a → p K H1 a → p K H2 a
/-- the store stands in the heap; O: who owns what does not stand in the store -/
structure WdO (K : Frag) (H : Hp) (O : Addr → Option Addr) (G : DG) : Prop where
  own : ∀ b a, O b = some a → G b = none ∧ ∃ xs, H b = some (.lst xs)
  ob : ∀ a o, G a = some o → OR K H O a o
def Wd (K : Frag) (H : Hp) (G : DG) : Prop := ∃ O, WdO K H O G
section
variable {K : Frag} {H H' : Hp} {G G' : DG} {O : Addr → Option Addr} {a p : Addr} {o : DO}
theorem OR.some (h : OR K H O a o) : ∃ u, H a = some u := by
  cases o with
  | lst ds => obtain ⟨xs, e, _⟩ := h; exact ⟨_, e⟩
  | ro ds =>
    obtain ⟨xs, e | ⟨o, e⟩, _⟩ := h
    · exact ⟨_, e⟩
    · exact ⟨_, e⟩
  | dct kvs => obtain ⟨xs, e, _⟩ := h; exact ⟨_, e⟩
  | cnt => obtain ⟨xs, e⟩ := h; exact ⟨_, e⟩
  | ptp ds => obtain ⟨_, _, _, e, _⟩ := h; exact ⟨_, e⟩
  | obj C fs => obtain ⟨_, _, e, _⟩ := h; exact ⟨_, e⟩
  | err cls => exact ⟨_, h⟩
  | abs L φ => obtain ⟨xs, e⟩ := h.2.1; exact ⟨_, e⟩
  | gen p => exact h.1
theorem WdO.free (w : WdO K H O G) (n : H p = none) : G p = none ∧ O p = none := by
  refine ⟨?_, ?_⟩
  · cases e : G p with
    | none => rfl
    | some o => obtain ⟨u, h⟩ := (w.ob p o e).some; rw [n] at h; cases h
  · cases e : O p with
    | none => rfl
    | some o => obtain ⟨_, xs, h⟩ := w.own p o e; rw [n] at h; cases h
theorem Wd.free (w : Wd K H G) (n : H p = none) : G p = none := by
  obtain ⟨O, w⟩ := w
  exact (w.free n).1
/-- what stays of an object where its addresses stay -/
theorem OR.keep (w : WdO K H O G) (t : TKs K H H') (e : G a = Option.some o) (h : ∀ b, (b = a ∨ O b = Option.some a) → H' b = H b) : OR K H' O a o := by
  have x := w.ob a o e
  have ha : H' a = H a := h a (.inl rfl)
  cases o with
  | lst ds => obtain ⟨xs, e, r⟩ := x; exact ⟨xs, by rw [ha]; exact e, r.mono t⟩
  | ro ds =>
    obtain ⟨xs, e | ⟨o, e⟩, r⟩ := x
    · exact ⟨xs, .inl (by rw [ha]; exact e), r.mono t⟩
    · exact ⟨xs, .inr ⟨o, by rw [ha]; exact e⟩, r.mono t⟩
  | dct kvs => obtain ⟨ks, e, r⟩ := x; exact ⟨ks, by rw [ha]; exact e, r.mono t⟩
  | cnt => obtain ⟨n, e⟩ := x; exact ⟨n, by rw [ha]; exact e⟩
  | ptp ds => obtain ⟨u, xs, d, e, r⟩ := x; exact ⟨u, xs, d, by rw [ha]; exact e, r.mono t⟩
  | obj C fs => obtain ⟨dx, vs, e, r⟩ := x; exact ⟨dx, vs, by rw [ha]; exact e, r.mono t⟩
  | err cls => show H' a = _; rw [ha]; exact x
  | abs L φ =>
    obtain ⟨m, ⟨u, hu⟩, hφ, loc, ow⟩ := x
    refine ⟨m, ⟨u, by rw [ha]; exact hu⟩, loc H H' (fun b hb => ?_) hφ, loc, ow⟩
    by_cases hba : b = a
    · rw [hba]; exact ha.symm
    · exact (h b (.inr (ow b hb hba))).symm
  | gen p =>
    obtain ⟨⟨u, hu⟩, hp, k⟩ := x
    exact ⟨⟨u, by rw [ha]; exact hu⟩, k H H' t ha hp, k⟩
theorem Wd.same (w : Wd K H G) (s : Same H H') : Wd K H' G := by
  obtain ⟨O, w⟩ := w
  refine ⟨O, ⟨fun b a e => ?_, fun a o e => OR.keep w (TKs.of s) e fun b hb => ?_⟩⟩
  · obtain ⟨h1, xs, h2⟩ := w.own b a e
    exact ⟨h1, xs, s _ _ h2⟩
  · obtain ⟨u, hu⟩ : ∃ u, H b = Option.some u := by
      rcases hb with rfl | hb
      · exact (w.ob _ o e).some
      · obtain ⟨_, xs, h⟩ := w.own b a hb; exact ⟨_, h⟩
    rw [hu, s _ _ hu]
/-- less is known -/
def Sub (G G' : DG) : Prop := ∀ a o, G a = Option.some o → G' a = Option.some o
theorem Sub.refl (G : DG) : Sub G G := fun _ _ h => h
theorem Sub.trans {A B C : DG} (h : Sub A B) (g : Sub B C) : Sub A C := fun a o e => g a o (h a o e)
theorem Sub.new (h : Sub G G') (n : G p = none) : Sub G (dupd G' p o) := fun a u e => by
  rw [dupd_ne (fun z => by rw [z, n] at e; cases e)]; exact h a u e
theorem Sub.set (h : Sub G G') : Sub (dupd G p o) (dupd G' p o) := fun a u e => by
  by_cases z : a = p
  · subst z; rw [dupd_same] at e ⊢; exact e
  · rw [dupd_ne z] at e ⊢; exact h a u e
theorem Wd.sub (w : Wd K H G') (s : Sub G G') : Wd K H G := by
  obtain ⟨O, w⟩ := w
  refine ⟨O, ⟨fun b a e => ⟨?_, (w.own b a e).2⟩, fun a o e => w.ob a o (s a o e)⟩⟩
  cases h : G b with
  | none => rfl
  | some u => have := s b u h; rw [(w.own b a e).1] at this; cases this
/-- the store's object at p is changed, in the heap too -/
theorem Wd.put {o' : DO} {u' : HO} (w : Wd K H G) (hp : ∃ o, G p = Option.some o ∧ ∀ L φ, o ≠ .abs L φ) (t : TKs K H (upd H p u')) (h' : ∀ O, OR K (upd H p u') O p o') : Wd K (upd H p u') (dupd G p o') := by
  obtain ⟨O, w⟩ := w
  obtain ⟨o, ep, na⟩ := hp
  have op : O p = none := by
    cases e : O p with
    | none => rfl
    | some c => have := (w.own p c e).1; rw [ep] at this; cases this
  refine ⟨O, ⟨fun b a e => ?_, fun a o1 e => ?_⟩⟩
  · obtain ⟨h1, xs, h2⟩ := w.own b a e
    have bp : b ≠ p := fun z => by rw [z, op] at e; cases e
    exact ⟨by rw [dupd_ne bp]; exact h1, xs, by rw [upd_ne bp]; exact h2⟩
  · by_cases hap : a = p
    · subst hap
      rw [dupd_same] at e
      cases e
      exact h' O
    · rw [dupd_ne hap] at e
      exact OR.keep w t e fun b hb => upd_ne (fun z => by
        rcases hb with hb | hb
        · exact hap (hb.symm.trans z)
        · rw [z, op] at hb; cases hb)
/-- a new object -/
theorem Wd.new {u : HO} (w : Wd K H G) (n : H p = none) (h : ∀ O, OR K (upd H p u) O p o) : Wd K (upd H p u) (dupd G p o) := by
  have w' := w.same (same_new n u)
  obtain ⟨O, w⟩ := w
  have fr := w.free n
  refine ⟨O, ⟨fun b a e => ?_, fun a o1 e => ?_⟩⟩
  · obtain ⟨h1, xs, h2⟩ := w.own b a e
    have bp : b ≠ p := fun z => by rw [z, fr.2] at e; cases e
    exact ⟨by rw [dupd_ne bp]; exact h1, xs, by rw [upd_ne bp]; exact h2⟩
  · by_cases hap : a = p
    · subst hap
      rw [dupd_same] at e
      cases e
      exact h O
    · rw [dupd_ne hap] at e
      exact OR.keep w (TKs.of (same_new n u)) e fun b hb => upd_ne (fun z => by
        rcases hb with hb | hb
        · exact hap (hb.symm.trans z)
        · rw [z, fr.2] at hb; cases hb)
end
end DD
namespace DD
open PySem PySem.W L2 SX Cm
abbrev DSt := List (Option DV)
abbrev DK := DV → DG → Prop
abbrev TD := DSt → DG → DK → Prop
abbrev TDT := DSt → DG → (Bool → DG → Prop) → Prop
abbrev TDA := DSt → DG → (List DV → DG → Prop) → Prop
structure DEnds where
  nx : DSt → DG → Prop
  rt : DK
  bk : DSt → DG → Prop := fun _ _ => False
  ct : DSt → DG → Prop := fun _ _ => False
abbrev TDS := DEnds → DSt → DG → Prop
/-! ### slots -/
inductive Sl (K : Frag) (H : Hp) : St → DSt → Prop
  | nil : Sl K H [] []
  | non {σ : St} {δ : DSt} : Sl K H σ δ → Sl K H (none :: σ) (none :: δ)
  | cons {v : V} {d : DV} {σ : St} {δ : DSt} : RV K H v d → Sl K H σ δ → Sl K H (some v :: σ) (some d :: δ)
section
variable {K : Frag} {H H' : Hp}
theorem Sl.mono (k : TKs K H H') {σ : St} {δ : DSt} (h : Sl K H σ δ) : Sl K H' σ δ := by
  induction h with
  | nil => exact .nil
  | non _ ih => exact .non ih
  | cons r _ ih => exact .cons (r.mono k) ih
theorem Sl.get : ∀ {σ : St} {δ : DSt} {i : Nat} {d : DV}, Sl K H σ δ → δ[i]? = some (some d) → ∃ v, σ[i]? = some (some v) ∧ RV K H v d
  | _, _, _, _, .nil, e => by simp at e
  | _, _, 0, _, .non _, e => by simp at e
  | _, _, 0, _, .cons r _, e => by simp at e; subst e; exact ⟨_, rfl, r⟩
  | _, _, i + 1, _, .non t, e => Sl.get (i := i) t (by simpa using e)
  | _, _, i + 1, _, .cons _ t, e => Sl.get (i := i) t (by simpa using e)
theorem Sl.set {v : V} {d : DV} (r : RV K H v d) : ∀ {σ : St} {δ : DSt} (i : Nat), Sl K H σ δ → Sl K H (σ.set i (some v)) (δ.set i (some d))
  | _, _, _, .nil => .nil
  | _, _, 0, .non t => .cons r t
  | _, _, 0, .cons _ t => .cons r t
  | _, _, i + 1, .non t => .non (Sl.set r i t)
  | _, _, i + 1, .cons h t => .cons h (Sl.set r i t)
theorem Sl.unset : ∀ {σ : St} {δ : DSt} (i : Nat), Sl K H σ δ → Sl K H (σ.set i none) (δ.set i none)
  | _, _, _, .nil => .nil
  | _, _, 0, .non t => .non t
  | _, _, 0, .cons _ t => .non t
  | _, _, i + 1, .non t => .non (Sl.unset i t)
  | _, _, i + 1, .cons h t => .cons h (Sl.unset i t)
theorem RVs.atI {v : List V} {d : List DV} {i : Int} {y : DV} (h : RVs K H v d) (e : L2.atI d i = some y) : ∃ x, L2.atI v i = some x ∧ RV K H x y := by
  unfold L2.atI at *
  rw [h.len]
  cases hj : ixN d.length i with
  | none => rw [hj] at e; cases e
  | some j =>
    rw [hj] at e
    obtain ⟨x, h1, h2⟩ := h.get e
    exact ⟨x, h1, h2⟩
/-- a slice -/
def cutD {α : Type} (xs : List α) (lo hi : Option Int) : List α := (xs.drop (HT.sIx xs.length 0 lo)).take (HT.sIx xs.length xs.length hi - HT.sIx xs.length 0 lo)
end
/-! ### what a reading of data says of the heap -/
def Fin (K : Frag) (H : Hp) (R : DK) (Q : VK) : Prop := ∀ d G v H', R d G → TKs K H H' → Wd K H' G → RV K H' v d → Q v H'
def up (K : Frag) (t : TD) : TE := fun σ H Q => ∃ δ G R, Sl K H σ δ ∧ Wd K H G ∧ t δ G R ∧ Fin K H R Q
def upT (K : Frag) (t : TDT) : TT := fun σ H Q => ∃ δ G R, Sl K H σ δ ∧ Wd K H G ∧ t δ G R ∧ ∀ b G' H', R b G' → TKs K H H' → Wd K H' G' → Q b H'
def upA (K : Frag) (t : TDA) : TA := fun σ H Q => ∃ δ G R, Sl K H σ δ ∧ Wd K H G ∧ t δ G R ∧ ∀ ds G' vs H', R ds G' → TKs K H H' → Wd K H' G' → RVs K H' vs ds → Q vs H'
/-- the ends of data and the ends of the heap -/
structure Links (K : Frag) (H : Hp) (D' : DEnds) (D : Ends) : Prop where
  nx : ∀ σ δ G H', D'.nx δ G → TKs K H H' → Wd K H' G → Sl K H' σ δ → D.nx σ H'
  rt : ∀ d G v H', D'.rt d G → TKs K H H' → Wd K H' G → RV K H' v d → D.rt v H'
  bk : ∀ σ δ G H', D'.bk δ G → TKs K H H' → Wd K H' G → Sl K H' σ δ → D.bk σ H'
  ct : ∀ σ δ G H', D'.ct δ G → TKs K H H' → Wd K H' G → Sl K H' σ δ → D.ct σ H'
def upS (K : Frag) (t : TDS) : TS := fun D σ H => ∃ D' δ G, Sl K H σ δ ∧ Wd K H G ∧ Links K H D' D ∧ t D' δ G
section
variable {K : Frag} {H H1 : Hp}
theorem Fin.step {R : DK} {Q : VK} (f : Fin K H R Q) (t : TKs K H H1) : Fin K H1 R Q := fun d G v H' r t' w rv => f d G v H' r (t.trans t') w rv
theorem Links.step {D' : DEnds} {D : Ends} (l : Links K H D' D) (t : TKs K H H1) : Links K H1 D' D :=
  ⟨fun σ δ G H' r t' => l.nx σ δ G H' r (t.trans t'), fun d G v H' r t' => l.rt d G v H' r (t.trans t'), fun σ δ G H' r t' => l.bk σ δ G H' r (t.trans t'), fun σ δ G H' r t' => l.ct σ δ G H' r (t.trans t')⟩
end
section
variable {X : Cx}
theorem PE_mono {e : Expr} {t t' : TE} (h : PE X e t) (i : ∀ σ H Q, t' σ H Q → t σ H Q) : PE X e t' := ⟨fun pins s σ H Q I q => h.run pins s σ H Q I (i σ H Q q)⟩
theorem PT_mono {e : Expr} {t t' : TT} (h : PT X e t) (i : ∀ σ H Q, t' σ H Q → t σ H Q) : PT X e t' := ⟨fun pins s σ H Q I q => h.run pins s σ H Q I (i σ H Q q)⟩
theorem PW_mono {e : Expr} {t t' : TT} (h : PW X e t) (i : ∀ σ H Q, t' σ H Q → t σ H Q) : PW X e t' := ⟨fun wh pins s σ H Q I q => h.run wh pins s σ H Q I (i σ H Q q)⟩
theorem PA_mono {e : List Expr} {t t' : TA} (h : PA X e t) (i : ∀ σ H Q, t' σ H Q → t σ H Q) : PA X e t' := ⟨fun pos pins s σ H Q I q => h.run pos pins s σ H Q I (i σ H Q q)⟩
theorem PS_mono {e : Stmt} {t t' : TS} (h : PS X e t) (i : ∀ D σ H, t' D σ H → t D σ H) : PS X e t' := ⟨fun pins s σ H D I q => h.run pins s σ H D I (i D σ H q)⟩
theorem PSs_mono {e : List Stmt} {t t' : TS} (h : PSs X e t) (i : ∀ D σ H, t' D σ H → t D σ H) : PSs X e t' := ⟨fun pins s σ H D I q => h.run pins s σ H D I (i D σ H q)⟩
abbrev DE (X : Cx) (e : Expr) (t : TD) : Prop := PE X e (up X.K t)
abbrev DT (X : Cx) (e : Expr) (t : TDT) : Prop := PT X e (upT X.K t)
abbrev DW (X : Cx) (e : Expr) (t : TDT) : Prop := PW X e (upT X.K t)
abbrev DA (X : Cx) (e : List Expr) (t : TDA) : Prop := PA X e (upA X.K t)
abbrev DS (X : Cx) (e : Stmt) (t : TDS) : Prop := PS X e (upS X.K t)
abbrev DSs (X : Cx) (e : List Stmt) (t : TDS) : Prop := PSs X e (upS X.K t)
/-! ### names, constants -/
def dVar (i : Nat) : TD := fun δ G Q => ∃ d, δ[i]? = some (some d) ∧ Q d G
def dC (d : DV) : TD := fun _ G Q => Q d G
theorem de_var {i : Nat} {x : Str} {pos : Pos} (hN : X.N[i]? = some x) (hv : Vis X.env.scope x) (hd : (x == ("__debug__" : Str)) = false := by decide) (hcd : (x == ("__classdict__" : Str)) = false := by decide) : DE X (.Name x pos) (dVar i) :=
  PE_mono (pe_var hN hv hd hcd) fun σ H Q ⟨δ, G, R, sl, w, ⟨d, e, r⟩, f⟩ => by
    obtain ⟨v, e', rv⟩ := sl.get e
    exact ⟨v, e', f d G v H r (TKs.refl H) w rv⟩
theorem de_c {e : Expr} {v : V} {d : DV} (h : PE X e (tC v)) (r : ∀ H, RV X.K H v d) : DE X e (dC d) :=
  PE_mono h fun σ H Q ⟨δ, G, R, sl, w, q, f⟩ => f d G v H q (TKs.refl H) w (r H)
theorem de_int {i : Int} {j pos} : DE X (.Constant (.int i) j pos) (dC (.int i)) := de_c pe_int fun _ => .int i
theorem de_bl {b : Bool} {j pos} : DE X (.Constant (.bool b) j pos) (dC (.bl b)) := de_c pe_bl fun _ => .bl b
theorem de_str {x : Str} {j pos} : DE X (.Constant (.str x) j pos) (dC (.str x)) := de_c pe_str fun _ => .str x
theorem de_gref {x : Str} {a : Addr} {pos : Pos} (hm : X.mg x = some (.ref a)) (hg : Gl X x) (hd : (x == ("__debug__" : Str)) = false := by decide) : DE X (.Name x pos) (dC (.ref a)) := de_c (pe_glob (v := .ref a) hg hm rfl hd) fun _ => .ref a
theorem de_ty {x : Str} {n : String} {pos : Pos} (hm : X.mg x = none) (hg : Gl X x) (hv : bootBuiltins x = some (.type n)) (hn : x ≠ "__name__" := by decide) (hd : (x == ("__debug__" : Str)) = false := by decide) : DE X (.Name x pos) (dC (.ty n)) := de_c (pe_bltn (v := .ty n) hg hm hv rfl hn hd) fun _ => .ty n
/-! ### operators -/
abbrev D2 := DV → DV → DG → DK → Prop
def dOp (b : D2) (ta tb : TD) : TD := fun δ G Q => ta δ G fun x G1 => tb δ G1 fun y G2 => b x y G2 Q
def Ok2 (K : Frag) (r : R2) (b : D2) : Prop := ∀ x y vx vy H G R Q, RV K H vx x → RV K H vy y → Wd K H G → b x y G R → Fin K H R Q → r vx vy H Q
def OpD (X : Cx) (f : Value → Value → Sem Value) (b : D2) : Prop := ∃ r, OpR X f r ∧ Ok2 X.K r b
theorem bin_up {r : R2} {b : D2} {K : Frag} (ok : Ok2 K r b) {ta tb : TD} {σ : St} {H : Hp} {Q : VK} (h : up K (dOp b ta tb) σ H Q) : tOp r (up K ta) (up K tb) σ H Q := by
  obtain ⟨δ, G, R, sl, w, q, f⟩ := h
  exact ⟨δ, G, _, sl, w, q, fun x G1 vx H1 q1 t1 w1 r1 => ⟨δ, G1, _, sl.mono t1, w1, q1, fun y G2 vy H2 q2 t2 w2 r2 => ok x y vx vy H2 G2 R Q (r1.mono t2) r2 w2 q2 (f.step (t1.trans t2))⟩⟩
theorem de_op {op : Operator} {b : D2} {e1 e2 : Expr} {ta tb : TD} {pos : Pos} (ho : OpD X (binaryOp op) b) (ha : DE X e1 ta) (hb : DE X e2 tb) : DE X (.BinOp e1 op e2 pos) (dOp b ta tb) := by
  obtain ⟨r, hr, ok⟩ := ho
  exact PE_mono (pe_op hr ha hb) fun σ H Q h => bin_up ok h
theorem de_cmp {op : CmpOp} {b : D2} {e1 e2 : Expr} {ta tb : TD} {pos : Pos} (ho : OpD X (compareOp op) b) (ha : DE X e1 ta) (hb : DE X e2 tb) (hm : behindInMarks op e2 = false) : DE X (.Compare e1 [op] [e2] pos) (dOp b ta tb) := by
  obtain ⟨r, hr, ok⟩ := ho
  exact PE_mono (pe_cmpR hr ha hb hm) fun σ H Q h => bin_up ok h
def dTest (t : TD) : TDT := fun δ G Q => t δ G fun d G' => ∃ k, d = .bl k ∧ Q k G'
theorem test_up {K : Frag} {t : TD} {σ : St} {H : Hp} {Q : Bool → Hp → Prop} (h : upT K (dTest t) σ H Q) : up K t σ H fun x H' => ∃ k, x = .bl k ∧ Q k H' := by
  obtain ⟨δ, G, R, sl, w, q, f⟩ := h
  refine ⟨δ, G, _, sl, w, q, fun d G' v H' ⟨k, e, r⟩ t' w' rv => ?_⟩
  subst e
  cases rv
  exact ⟨k, rfl, f k G' H' r t' w'⟩
theorem dt_cmp {op : CmpOp} {b : D2} {e1 e2 : Expr} {ta tb : TD} {pos : Pos} (ho : OpD X (compareOp op) b) (ha : DE X e1 ta) (hb : DE X e2 tb) (hm : behindInMarks op e2 = false) : DT X (.Compare e1 [op] [e2] pos) (dTest (dOp b ta tb)) := by
  obtain ⟨r, hr, ok⟩ := ho
  refine PT_mono (pt_cmpR hr ha hb hm) fun σ H Q h => ?_
  have := test_up h
  exact bin_up ok this
theorem Ok2.or {K : Frag} {r r' : R2} {b : D2} (h : ∀ x y vx vy H G R Q, RV K H vx x → RV K H vy y → Wd K H G → b x y G R → Fin K H R Q → r vx vy H Q ∨ r' vx vy H Q) : Ok2 K (fun x y H Q => r x y H Q ∨ r' x y H Q) b := h
/-- sums: numbers, texts, tuples, lists -/
def bAdd : D2
  | .int i, .int j, G, Q => Q (.int (i + j)) G
  | .str a, .str b, G, Q => a.length + b.length ≤ sizeLine ∧ Q (.str (a ++ b)) G
  | .tup a, .tup b, G, Q => a.length + b.length ≤ sizeLine ∧ Q (.tup (a ++ b)) G
  | .ref p, .ref q, G, Q => ∃ xs ys, G p = some (.lst xs) ∧ G q = some (.lst ys) ∧ xs.length + ys.length ≤ sizeLine ∧ ∀ r, G r = none → Q (.ref r) (dupd G r (.lst (xs ++ ys)))
  | _, _, _, _ => False
theorem od_add : OpD X (binaryOp .Add) bAdd := by
  refine ⟨_, op_add.or (op_add_str.or (op_catA.or op_cat)), fun x y vx vy H G R Q rx ry w h f => ?_⟩
  cases rx with
  | int i =>
    cases ry with
    | int j => exact .inl ⟨i, j, rfl, rfl, f _ G _ H h (TKs.refl H) w (.int _)⟩
    | _ => exact h.elim
  | str a =>
    cases ry with
    | str b => exact .inr (.inl ⟨a, b, rfl, rfl, h.1, f _ G _ H h.2 (TKs.refl H) w (.str _)⟩)
    | _ => exact h.elim
  | tup sa ra =>
    rename_i p xs ds
    cases ry with
    | tup sb rb =>
      rename_i q ys es
      obtain ⟨hl, hq⟩ := h
      refine .inr (.inr (.inl ⟨p, q, xs, ys, rfl, rfl, sa, sb, by rw [ra.len, rb.len]; exact hl, fun e => ?_, fun _ e => ?_, fun _ _ r nr => ?_⟩))
      · subst e
        cases ra
        exact f _ G _ H hq (TKs.refl H) w (.tup sb rb)
      · subst e
        cases rb
        rw [List.append_nil] at hq
        exact f _ G _ H hq (TKs.refl H) w (.tup sa ra)
      · have s := same_new nr (.tup (xs ++ ys))
        exact f _ G _ _ hq (TKs.of s) (w.same s) (.tup (SqT.of upd_same) ((ra.append rb).mono (.of s)))
    | _ => exact h.elim
  | ref p =>
    cases ry with
    | ref q =>
      obtain ⟨xs, ys, e1, e2, hl, hq⟩ := h
      obtain ⟨O, w'⟩ := id w
      obtain ⟨us, h1, r1⟩ := w'.ob p _ e1
      obtain ⟨vs, h2, r2⟩ := w'.ob q _ e2
      refine .inr (.inr (.inr ⟨p, q, us, vs, rfl, rfl, h1, h2, by rw [r1.len, r2.len]; exact hl, fun r nr => ?_⟩))
      have s := same_new nr (.lst (us ++ vs))
      exact f _ _ _ _ (hq r (w.free nr)) (TKs.of s) (w.new nr fun O => ⟨_, upd_same, (r1.append r2).mono (.of s)⟩) (.ref r)
    | _ => exact h.elim
  | _ => exact h.elim
/-- two numbers -/
def bInt (C : Int → Int → Prop) (g : Int → Int → DV) : D2
  | .int i, .int j, G, Q => C i j ∧ Q (g i j) G
  | _, _, _, _ => False
theorem od_int {op : Operator} {C : Int → Int → Prop} {g : Int → Int → Int} (h : OpR X (binaryOp op) (rI C fun i j => .int (g i j))) : OpD X (binaryOp op) (bInt C fun i j => .int (g i j)) := by
  refine ⟨_, h, fun x y vx vy H G R Q rx ry w h f => ?_⟩
  cases rx with
  | int i =>
    cases ry with
    | int j => exact ⟨i, j, rfl, rfl, h.1, f _ G _ H h.2 (TKs.refl H) w (.int _)⟩
    | _ => exact h.elim
  | _ => exact h.elim
def bSub : D2
  | .int i, .int j, G, Q => Q (.int (i - j)) G
  | _, _, _, _ => False
theorem od_mul : OpD X (binaryOp .Mult) (bInt CMul fun i j => .int (i * j)) := od_int op_mul
theorem od_pow : OpD X (binaryOp .Pow) (bInt CPow fun i j => .int (i ^ j.toNat)) := od_int op_pow
/-- comparisons of numbers and texts -/
def bCmp (g : Int → Int → Bool) (s : List Nat → List Nat → Bool) : D2
  | .int i, .int j, G, Q => Q (.bl (g i j)) G
  | .str a, .str b, G, Q => Q (.bl (s a.cps.toList b.cps.toList)) G
  | _, _, _, _ => False
/-- is None, is True .. -/
def bIs (neg : Bool) : D2
  | x, .non, G, Q => Q (.bl (if neg then !decide (x = .non) else decide (x = .non))) G
  | .bl a, .bl b, G, Q => Q (.bl (if neg then !decide (a = b) else decide (a = b))) G
  | _, _, _, _ => False
end
end DD
namespace Cm
open PySem PySem.W L2 SX PySem.Spec PyProof.Rows
end Cm
namespace DD
open PySem PySem.W L2 SX Cm
/-! ### data as the comparisons see it -/
mutual
def dat : DV → PyData
  | .non => .none
  | .bl b => .bool b
  | .int i => .int i
  | .str z => .str z
  | .tup ds => .tuple (dats ds)
  | .ref _ => .none
  | .ty _ => .none
def dats : List DV → List PyData
  | [] => []
  | d :: r => dat d :: dats r
end
mutual
/-- no reference and no type within -/
def pure_ : DV → Bool
  | .ref _ => false
  | .ty _ => false
  | .tup ds => pures ds
  | _ => true
def pures : List DV → Bool
  | [] => true
  | d :: r => pure_ d && pures r
end
mutual
/-- nor a truth -/
def plain : DV → Bool
  | .ref _ => false
  | .ty _ => false
  | .bl _ => false
  | .tup ds => plains ds
  | _ => true
def plains : List DV → Bool
  | [] => true
  | d :: r => plain d && plains r
end
mutual
theorem plain_pure : ∀ d : DV, plain d = true → pure_ d = true
  | .non, _ => rfl
  | .int _, _ => rfl
  | .str _, _ => rfl
  | .tup ds, h => plains_pure ds h
  | .bl _, h => rfl
  | .ref _, h => h
  | .ty _, h => h
theorem plains_pure : ∀ ds : List DV, plains ds = true → pures ds = true
  | [], _ => rfl
  | d :: r, h => by
    have h' : (plain d && plains r) = true := h
    rw [Bool.and_eq_true] at h'
    show (pure_ d && pures r) = true
    rw [plain_pure d h'.1, plains_pure r h'.2]; rfl
end
mutual
theorem eqv_plain : ∀ x y : DV, plain x = true → plain y = true → PyData.eqv (dat x) (dat y) = decide (x = y)
  | .non, .non, _, _ => (decide_eq_true rfl).symm
  | .int i, .int j, _, _ => by
    show (i == j) = _
    by_cases h : i = j
    · rw [h, decide_eq_true rfl, beq_self_eq_true]
    · rw [decide_eq_false (fun z => h (DV.int.inj z)), beq_eq_false_iff_ne.mpr h]
  | .str i, .str j, _, _ => by
    show (i == j) = _
    by_cases h : i = j
    · rw [h, decide_eq_true rfl, beq_self_eq_true]
    · rw [decide_eq_false (fun z => h (DV.str.inj z)), beq_eq_false_iff_ne.mpr h]
  | .tup a, .tup b, h, g => by
    show PyData.eqvAll (dats a) (dats b) = _
    rw [eqvs_plain a b h g]
    by_cases e : a = b
    · rw [e, decide_eq_true rfl, decide_eq_true rfl]
    · rw [decide_eq_false e, decide_eq_false (fun z => e (DV.tup.inj z))]
  | .non, .int _, _, _ => (decide_eq_false (by intro z; cases z)).symm
  | .non, .str _, _, _ => (decide_eq_false (by intro z; cases z)).symm
  | .non, .tup _, _, _ => (decide_eq_false (by intro z; cases z)).symm
  | .int _, .non, _, _ => (decide_eq_false (by intro z; cases z)).symm
  | .int _, .str _, _, _ => (decide_eq_false (by intro z; cases z)).symm
  | .int _, .tup _, _, _ => (decide_eq_false (by intro z; cases z)).symm
  | .str _, .non, _, _ => (decide_eq_false (by intro z; cases z)).symm
  | .str _, .int _, _, _ => (decide_eq_false (by intro z; cases z)).symm
  | .str _, .tup _, _, _ => (decide_eq_false (by intro z; cases z)).symm
  | .tup _, .non, _, _ => (decide_eq_false (by intro z; cases z)).symm
  | .tup _, .int _, _, _ => (decide_eq_false (by intro z; cases z)).symm
  | .tup _, .str _, _, _ => (decide_eq_false (by intro z; cases z)).symm
theorem eqvs_plain : ∀ x y : List DV, plains x = true → plains y = true → PyData.eqvAll (dats x) (dats y) = decide (x = y)
  | [], [], _, _ => (decide_eq_true rfl).symm
  | [], _ :: _, _, _ => (decide_eq_false (by intro z; cases z)).symm
  | _ :: _, [], _, _ => (decide_eq_false (by intro z; cases z)).symm
  | a :: r, b :: s, h, g => by
    have h' : (plain a && plains r) = true := h
    have g' : (plain b && plains s) = true := g
    rw [Bool.and_eq_true] at h' g'
    show (PyData.eqv (dat a) (dat b) && PyData.eqvAll (dats r) (dats s)) = _
    rw [eqv_plain a b h'.1 g'.1, eqvs_plain r s h'.2 g'.2]
    by_cases e : a = b
    · by_cases e' : r = s
      · rw [decide_eq_true e, decide_eq_true e', decide_eq_true (by rw [e, e'])]; rfl
      · rw [decide_eq_false e', Bool.and_false, decide_eq_false (fun z => e' (List.cons.inj z).2)]
    · rw [decide_eq_false e, Bool.false_and, decide_eq_false (fun z => e (List.cons.inj z).1)]
end
mutual
theorem RV.dp {K : Frag} {H : Hp} : ∀ {v : V} {d : DV}, RV K H v d → pure_ d = true → Dp K H v (dat d)
  | _, _, .non, _ => .non
  | _, _, .bl b, _ => .bl b
  | _, _, .int i, _ => .int i
  | _, _, .str z, _ => .str z
  | _, _, .ty n, h => by cases h
  | _, _, .ref a, h => by cases h
  | _, _, .tup s t, h => .tup s (RVs.dp t h)
theorem RVs.dp {K : Frag} {H : Hp} : ∀ {v : List V} {d : List DV}, RVs K H v d → pures d = true → DpAll K H v (dats d)
  | _, _, .nil, _ => .nil
  | _, _, .cons (d := d) (ds := ds) h t, g => by
    have g' : (pure_ d && pures ds) = true := g
    rw [Bool.and_eq_true] at g'
    exact .cons (RV.dp h g'.1) (RVs.dp t g'.2)
end
mutual
/-- how deep -/
def dpt : DV → Nat
  | .tup ds => 1 + dpts ds
  | _ => 0
def dpts : List DV → Nat
  | [] => 0
  | d :: r => max (dpt d) (dpts r)
end
mutual
/-- its texts are texts -/
def txB : DV → Bool
  | .str z => PyData.strOk z
  | .tup ds => txBs ds
  | _ => true
def txBs : List DV → Bool
  | [] => true
  | d :: r => txB d && txBs r
end
mutual
theorem lay_dat : ∀ d : DV, txB d = true → PyData.canLay0 (dat d) = true ∧ PyData.depth (dat d) ≤ dpt d
  | .non, _ => ⟨by simp only [dat, PyData.canLay0], by simp only [dat, PyData.depth]; exact Nat.zero_le _⟩
  | .bl _, _ => ⟨by simp only [dat, PyData.canLay0], by simp only [dat, PyData.depth]; exact Nat.zero_le _⟩
  | .int _, _ => ⟨by simp only [dat, PyData.canLay0], by simp only [dat, PyData.depth]; exact Nat.zero_le _⟩
  | .ref _, _ => ⟨by simp only [dat, PyData.canLay0], by simp only [dat, PyData.depth]; exact Nat.zero_le _⟩
  | .ty _, _ => ⟨by simp only [dat, PyData.canLay0], by simp only [dat, PyData.depth]; exact Nat.zero_le _⟩
  | .str z, h => ⟨by simp only [dat, PyData.canLay0]; exact h, by simp only [dat, PyData.depth]; exact Nat.zero_le _⟩
  | .tup ds, h => by
    obtain ⟨a, b⟩ := lays_dat ds h
    refine ⟨by simp only [dat, PyData.canLay0]; exact a, ?_⟩
    simp only [dat, PyData.depth, dpt]
    omega
theorem lays_dat : ∀ ds : List DV, txBs ds = true → PyData.canLayAll0 (dats ds) = true ∧ PyData.depthAll (dats ds) ≤ dpts ds
  | [], _ => ⟨by simp only [dats, PyData.canLayAll0], by simp only [dats, PyData.depthAll]; exact Nat.zero_le _⟩
  | d :: r, h => by
    have h' : (txB d && txBs r) = true := h
    rw [Bool.and_eq_true] at h'
    obtain ⟨a, b⟩ := lay_dat d h'.1
    obtain ⟨a', b'⟩ := lays_dat r h'.2
    refine ⟨by simp only [dats, PyData.canLayAll0, a, a']; rfl, ?_⟩
    simp only [dats, PyData.depthAll, dpts]
    omega
end
theorem shp {d : DV} (h : txB d = true) (l : dpt d ≤ 60) : SeqAt.shaped (dat d) = true := by
  obtain ⟨a, b⟩ := lay_dat d h
  unfold SeqAt.shaped
  rw [a, decide_eq_true (show (dat d).depth ≤ 64 by omega)]; rfl
theorem shpL {ds : List DV} (h : txBs ds = true) (l : dpts ds ≤ 60) : SeqAt.shaped (.list (dats ds)) = true := by
  obtain ⟨a, b⟩ := lays_dat ds h
  have e : (PyData.list (dats ds)).depth ≤ 64 := by simp only [PyData.depth]; omega
  unfold SeqAt.shaped
  rw [decide_eq_true e, Bool.and_true]
  simp only [PyData.canLay0]; exact a
/-- what can be compared -/
structure Cmp (d : DV) : Prop where
  pu : pure_ d = true
  tx : txB d = true
  dp : dpt d ≤ 60
structure Cmps (ds : List DV) : Prop where
  pu : pures ds = true
  tx : txBs ds = true
  dp : dpts ds ≤ 60
theorem shpT {ds : List DV} (c : Cmps ds) : SeqAt.shaped (.tuple (dats ds)) = true := by
  obtain ⟨a, b⟩ := lays_dat ds c.tx
  have l := c.dp
  have e : (PyData.tuple (dats ds)).depth ≤ 64 := by simp only [PyData.depth]; omega
  unfold SeqAt.shaped
  rw [decide_eq_true e, Bool.and_true]
  simp only [PyData.canLay0]; exact a
section
variable {X : Cx}
theorem wd_list {K : Frag} {H : Hp} {G : DG} {p : Addr} {ds : List DV} (w : Wd K H G) (e : G p = some (.lst ds)) : ∃ xs, H p = some (.lst xs) ∧ RVs K H xs ds := by
  obtain ⟨O, w⟩ := w
  exact w.ob p _ e
/-- a list that can be read -/
def Ls (G : DG) (p : Addr) (ds : List DV) : Prop := G p = some (.lst ds) ∨ G p = some (.ro ds)
theorem wd_seq {K : Frag} {H : Hp} {G : DG} {p : Addr} {ds : List DV} (w : Wd K H G) (e : Ls G p ds) : ∃ xs, SqL K H p xs ∧ RVs K H xs ds := by
  obtain ⟨O, w⟩ := w
  rcases e with e | e
  · obtain ⟨xs, h, r⟩ := w.ob p _ e
    exact ⟨xs, SqL.of h, r⟩
  · obtain ⟨xs, h, r⟩ := w.ob p _ e
    exact ⟨xs, .inl h, r⟩
/-- not, where n -/
def ng : Bool → Bool → Bool
  | true, b => !b
  | false, b => b
/-- == and != (n: !=) -/
def bEq (n : Bool) : D2
  | .str a, .str b, G, Q => Q (.bl (ng n (decide (a = b)))) G
  | .int a, .int b, G, Q => Q (.bl (ng n (decide (a = b)))) G
  | .bl a, .bl b, G, Q => Q (.bl (ng n (decide (a = b)))) G
  | .str a, .non, G, Q => Q (.bl n) G
  | .int a, .non, G, Q => Q (.bl n) G
  | .str a, .int b, G, Q => Q (.bl n) G
  | .int a, .str b, G, Q => Q (.bl n) G
  | .bl a, .str b, G, Q => Q (.bl n) G
  | .non, .str b, G, Q => Q (.bl n) G
  | .ref p, .ref q, G, Q => ∃ xs ys, Ls G p xs ∧ Ls G q ys ∧ ((n = false ∧ ys = [] ∧ Q (.bl xs.isEmpty) G) ∨ (Cmps xs ∧ Cmps ys ∧ Q (.bl (ng n (PyData.eqvAll (dats xs) (dats ys)))) G))
  | .tup a, .tup b, G, Q => (n = false ∧ b = [] ∧ Q (.bl a.isEmpty) G) ∨ (Cmps a ∧ Cmps b ∧ Q (.bl (ng n (PyData.eqvAll (dats a) (dats b)))) G)
  | x, y, G, Q => Cmp x ∧ Cmp y ∧ Q (.bl (ng n (PyData.eqv (dat x) (dat y)))) G
theorem dV_str (a b : Str) : decide (V.str a = V.str b) = decide (a = b) := by
  by_cases e : a = b
  · rw [decide_eq_true e, decide_eq_true (by rw [e])]
  · rw [decide_eq_false e, decide_eq_false (fun z => e (V.str.inj z))]
theorem dV_int (a b : Int) : decide (V.int a = V.int b) = decide (a = b) := by
  by_cases e : a = b
  · rw [decide_eq_true e, decide_eq_true (by rw [e])]
  · rw [decide_eq_false e, decide_eq_false (fun z => e (V.int.inj z))]
theorem dV_bl (a b : Bool) : decide (V.bl a = V.bl b) = decide (a = b) := by
  by_cases e : a = b
  · rw [decide_eq_true e, decide_eq_true (by rw [e])]
  · rw [decide_eq_false e, decide_eq_false (fun z => e (V.bl.inj z))]
theorem flat_up {K : Frag} {H : Hp} {G : DG} {R : DK} {Q : VK} {b : Bool} (w : Wd K H G) (f : Fin K H R Q) (h : R (.bl b) G) : Q (.bl b) H := f _ G _ H h (TKs.refl H) w (.bl b)
theorem od_eq (hu : X.A.units + 64 < cLine) : OpD X (compareOp .Eq) (bEq false) := by
  refine ⟨_, op_eq.or ((op_eqNil hu).or ((op_eqNilT hu).or (op_eqD hu))), fun x y vx vy H G R Q rx ry w h f => ?_⟩
  have gen : (Cmp x ∧ Cmp y ∧ R (.bl (ng false (PyData.eqv (dat x) (dat y)))) G) → (rEq vx vy H Q ∨ rEqNil X.K vx vy H Q ∨ rEqNilT X.K vx vy H Q ∨ rEqD X.K vx vy H Q) := fun ⟨c1, c2, q⟩ =>
    .inr (.inr (.inr ⟨_, _, rx.dp c1.pu, ry.dp c2.pu, shp c1.tx c1.dp, shp c2.tx c2.dp, flat_up w f q⟩))
  have no : decide (vx = vy) = false → scal vx vy = true → R (.bl false) G → (rEq vx vy H Q ∨ rEqNil X.K vx vy H Q ∨ rEqNilT X.K vx vy H Q ∨ rEqD X.K vx vy H Q) := fun e s q => .inl ⟨s, by rw [e]; exact flat_up w f q⟩
  cases rx with
  | str a =>
    cases ry with
    | str b => exact .inl ⟨rfl, by rw [dV_str]; exact flat_up w f h⟩
    | non => exact no (decide_eq_false (by intro z; cases z)) rfl h
    | int b => exact no (decide_eq_false (by intro z; cases z)) rfl h
    | _ => exact gen h
  | int a =>
    cases ry with
    | int b => exact .inl ⟨rfl, by rw [dV_int]; exact flat_up w f h⟩
    | non => exact no (decide_eq_false (by intro z; cases z)) rfl h
    | str b => exact no (decide_eq_false (by intro z; cases z)) rfl h
    | _ => exact gen h
  | bl a =>
    cases ry with
    | bl b => exact .inl ⟨rfl, by rw [dV_bl]; exact flat_up w f h⟩
    | str b => exact no (decide_eq_false (by intro z; cases z)) rfl h
    | _ => exact gen h
  | non =>
    cases ry with
    | str b => exact no (decide_eq_false (by intro z; cases z)) rfl h
    | _ => exact gen h
  | ty n => cases ry <;> exact gen h
  | tup s r =>
    cases ry with
    | tup s' r' =>
      rcases h with ⟨_, e, q⟩ | ⟨c1, c2, q⟩
      · subst e
        cases r'
        exact .inr (.inr (.inl ⟨_, _, _, rfl, rfl, s, s', by rw [r.isEmpty]; exact flat_up w f q⟩))
      · exact .inr (.inr (.inr ⟨_, _, .tup s (r.dp c1.pu), .tup s' (r'.dp c2.pu), shpT c1, shpT c2, flat_up w f q⟩))
    | _ => exact gen h
  | ref p =>
    cases ry with
    | ref q =>
      obtain ⟨xs, ys, l1, l2, ⟨_, e, q⟩ | ⟨c1, c2, q⟩⟩ := h
      · obtain ⟨us, h1, r1⟩ := wd_seq w l1
        obtain ⟨vs, h2, r2⟩ := wd_seq w l2
        subst e
        cases r2
        exact .inr (.inl ⟨_, _, _, rfl, rfl, h1, h2, by rw [r1.isEmpty]; exact flat_up w f q⟩)
      · obtain ⟨us, h1, r1⟩ := wd_seq w l1
        obtain ⟨vs, h2, r2⟩ := wd_seq w l2
        exact .inr (.inr (.inr ⟨_, _, .lst h1 (r1.dp c1.pu), .lst h2 (r2.dp c2.pu), shpL c1.tx c1.dp, shpL c2.tx c2.dp, flat_up w f q⟩))
    | _ => exact gen h
theorem od_ne (hu : X.A.units + 64 < cLine) : OpD X (compareOp .NotEq) (bEq true) := by
  refine ⟨_, op_ne.or (op_neD hu), fun x y vx vy H G R Q rx ry w h f => ?_⟩
  have gen : (Cmp x ∧ Cmp y ∧ R (.bl (ng true (PyData.eqv (dat x) (dat y)))) G) → (rNe vx vy H Q ∨ rNeD X.K vx vy H Q) := fun ⟨c1, c2, q⟩ =>
    .inr ⟨_, _, rx.dp c1.pu, ry.dp c2.pu, shp c1.tx c1.dp, shp c2.tx c2.dp, flat_up w f q⟩
  have no : decide (vx = vy) = false → scal vx vy = true → R (.bl true) G → (rNe vx vy H Q ∨ rNeD X.K vx vy H Q) := fun e s q => .inl ⟨s, by rw [e]; exact flat_up w f q⟩
  cases rx with
  | str a =>
    cases ry with
    | str b => exact .inl ⟨rfl, by rw [dV_str]; exact flat_up w f h⟩
    | non => exact no (decide_eq_false (by intro z; cases z)) rfl h
    | int b => exact no (decide_eq_false (by intro z; cases z)) rfl h
    | _ => exact gen h
  | int a =>
    cases ry with
    | int b => exact .inl ⟨rfl, by rw [dV_int]; exact flat_up w f h⟩
    | non => exact no (decide_eq_false (by intro z; cases z)) rfl h
    | str b => exact no (decide_eq_false (by intro z; cases z)) rfl h
    | _ => exact gen h
  | bl a =>
    cases ry with
    | bl b => exact .inl ⟨rfl, by rw [dV_bl]; exact flat_up w f h⟩
    | str b => exact no (decide_eq_false (by intro z; cases z)) rfl h
    | _ => exact gen h
  | non =>
    cases ry with
    | str b => exact no (decide_eq_false (by intro z; cases z)) rfl h
    | _ => exact gen h
  | ty n => cases ry <;> exact gen h
  | tup s r =>
    cases ry with
    | tup s' r' =>
      rcases h with ⟨e, _⟩ | ⟨c1, c2, q⟩
      · cases e
      · exact .inr ⟨_, _, .tup s (r.dp c1.pu), .tup s' (r'.dp c2.pu), shpT c1, shpT c2, flat_up w f q⟩
    | _ => exact gen h
  | ref p =>
    cases ry with
    | ref q =>
      obtain ⟨xs, ys, l1, l2, ⟨e, _⟩ | ⟨c1, c2, q⟩⟩ := h
      · cases e
      · obtain ⟨us, h1, r1⟩ := wd_seq w l1
        obtain ⟨vs, h2, r2⟩ := wd_seq w l2
        exact .inr ⟨_, _, .lst h1 (r1.dp c1.pu), .lst h2 (r2.dp c2.pu), shpL c1.tx c1.dp, shpL c2.tx c2.dp, flat_up w f q⟩
    | _ => exact gen h
/-! ### in -/
def toV : DV → V
  | .non => .non
  | .bl b => .bl b
  | .int i => .int i
  | .str z => .str z
  | _ => .ref 0
def flatD : DV → Bool
  | .non => true
  | .bl _ => true
  | .int _ => true
  | .str _ => true
  | _ => false
def inD (x : DV) (ds : List DV) : Bool := inV (toV x) (ds.map toV)
def bIn (n : Bool) : D2
  | .str a, .str b, G, Q => ∃ c, a = ⟨#[c]⟩ ∧ Q (.bl (ng n (decide (c ∈ b.cps.toList)))) G
  | x, .tup ds, G, Q => flatD x = true ∧ ds.all flatD = true ∧ Q (.bl (ng n (inD x ds))) G
  | x, .ref p, G, Q => ∃ ds, Ls G p ds ∧ flatD x = true ∧ ds.all flatD = true ∧ Q (.bl (ng n (inD x ds))) G
  | _, _, _, _ => False
end
end DD
namespace DD
open PySem PySem.W L2 SX Cm
section
variable {X : Cx}
/-! ### x[i] -/
def bIx : D2
  | .tup ds, .int i, G, Q => ∃ d, atI ds i = some d ∧ Q d G
  | .str z, .int i, G, Q => z.length ≤ sizeLine ∧ ∃ c, atI z.cps.toList i = some c ∧ Q (.str ⟨#[c]⟩) G
  | .ref p, .int i, G, Q => (∃ ds d, Ls G p ds ∧ atI ds i = some d ∧ Q d G) ∨ (G p = some .cnt ∧ i = 0 ∧ ∀ n, Q (.int n) G)
  | _, _, _, _ => False
theorem de_ix {e1 e2 : Expr} {ta tb : TD} {pos : Pos} (ha : DE X e1 ta) (hb : DE X e2 tb) (hs : PlainIx e2 := by exact fun _ _ => rfl) : DE X (.Subscript e1 e2 pos) (dOp bIx ta tb) := by
  refine PE_mono (pe_ix (ix_seq (X := X)) ha hb hs) fun σ H Q h => bin_up (r := rIx X.K) (fun x y vx vy H G R Q rx ry w h f => ?_) h
  cases ry with
  | int i =>
    cases rx with
    | tup s r =>
      obtain ⟨d, e, q⟩ := h
      obtain ⟨v, e', rv⟩ := r.atI e
      exact .inr (.inl ⟨_, _, i, v, rfl, rfl, s, e', f _ G _ H q (TKs.refl H) w rv⟩)
    | str z =>
      obtain ⟨hl, c, e, q⟩ := h
      exact .inr (.inr ⟨z, i, c, rfl, rfl, hl, e, f _ G _ H q (TKs.refl H) w (.str _)⟩)
    | ref p =>
      rcases h with ⟨ds, d, l, e, q⟩ | ⟨l, rfl, q⟩
      · obtain ⟨us, hs, r⟩ := wd_seq w l
        obtain ⟨v, e', rv⟩ := r.atI e
        exact .inl ⟨p, us, i, v, rfl, rfl, hs, e', f _ G _ H q (TKs.refl H) w rv⟩
      · obtain ⟨O, w'⟩ := id w
        obtain ⟨n, hn⟩ := w'.ob p _ l
        exact .inl ⟨p, _, 0, .int n, rfl, rfl, SqL.of hn, atI_nat (j := 0) rfl, f _ G _ H (q n) (TKs.refl H) w (.int n)⟩
    | _ => exact h.elim
  | _ => cases rx <;> exact h.elim
/-! ### slices -/
abbrev TDO := DSt → DG → (Option Int → DG → Prop) → Prop
def dNone : TDO := fun _ G Q => Q none G
def dSome (t : TD) : TDO := fun δ G Q => t δ G fun d G' => ∃ i, d = .int i ∧ Q (some i) G'
def bSl : DV → Option Int → Option Int → DG → DK → Prop
  | .tup ds, lo, hi, G, Q => Q (.tup (cutD ds lo hi)) G
  | .str z, lo, hi, G, Q => z.length ≤ sizeLine ∧ Q (.str (cutS z lo hi)) G
  | .ref p, lo, hi, G, Q => ∃ ds, Ls G p ds ∧ ∀ r, G r = none → Q (.ref r) (dupd G r (.lst (cutD ds lo hi)))
  | _, _, _, _, _ => False
def dSl (te : TD) (tl th : TDO) : TD := fun δ G Q => te δ G fun x G1 => tl δ G1 fun l G2 => th δ G2 fun u G3 => bSl x l u G3 Q
/-- t[::-1] -/
def dRev (te : TD) : TD := fun δ G Q => te δ G fun x G1 => ∃ ds, x = .tup ds ∧ Q (.tup ds.reverse) G1
/-! ### tests -/
def bTru : DV → DG → (Bool → DG → Prop) → Prop
  | .non, G, Q => Q false G
  | .bl b, G, Q => Q b G
  | .int i, G, Q => Q (i != 0) G
  | .str z, G, Q => z.length ≤ sizeLine ∧ Q ((z.length : Int) != 0) G
  | .tup ds, G, Q => Q (!ds.isEmpty) G
  | .ref p, G, Q => (∃ ds, Ls G p ds ∧ Q (!ds.isEmpty) G) ∨ (∃ kvs, G p = some (.dct kvs) ∧ Q (!kvs.isEmpty) G)
  | .ty _, _, _ => False
def dTru (t : TD) : TDT := fun δ G Q => t δ G fun d G' => bTru d G' Q
theorem KRV.isEmpty {K : Frag} {H : Hp} {v : List (Key × V)} {d : List (Key × DV)} (h : KRV K H v d) : v.isEmpty = d.isEmpty := by cases h <;> rfl
theorem dt_e {e : Expr} {t : TD} (he : DE X e t) (hp : ∀ whole, isTrue e X.env whole = (do let v ← whole; standAt e.pos; holding [v] (truthy v)) := by intro _; rfl) : DT X e (dTru t) := by
  refine PT_mono (pt_truth he hp) fun σ H Q ⟨δ, G, R, sl, w, q, f⟩ => ⟨δ, G, _, sl, w, q, fun d G' v H' h t' w' rv => ?_⟩
  cases rv with
  | non => exact ⟨_, rfl, f _ _ _ h t' w'⟩
  | bl b => exact ⟨_, rfl, f _ _ _ h t' w'⟩
  | int i => exact ⟨_, rfl, f _ _ _ h t' w'⟩
  | str z => exact ⟨_, ⟨h.1, rfl⟩, f _ _ _ h.2 t' w'⟩
  | ty n => exact h.elim
  | tup s r => exact ⟨_, .inr (.inl ⟨_, s, by rw [r.isEmpty]⟩), f _ _ _ h t' w'⟩
  | ref p =>
    rcases h with ⟨ds, l, q⟩ | ⟨kvs, l, q⟩
    · obtain ⟨us, hs, r⟩ := wd_seq w' l
      exact ⟨_, .inl ⟨_, hs, by rw [r.isEmpty]⟩, f _ _ _ q t' w'⟩
    · obtain ⟨O, wo⟩ := id w'
      obtain ⟨ks, hk, r⟩ := wo.ob p _ l
      exact ⟨_, .inr (.inr ⟨_, hk, by rw [r.isEmpty]⟩), f _ _ _ q t' w'⟩
def dAnd (t u : TDT) : TDT := fun δ G Q => t δ G fun c G1 => if c = true then u δ G1 Q else Q false G1
def dOr (t u : TDT) : TDT := fun δ G Q => t δ G fun c G1 => if c = true then Q true G1 else u δ G1 Q
def dNot (t : TDT) : TDT := fun δ G Q => t δ G fun c G1 => Q (!c) G1
variable {a b c : Expr} {rest : List Expr} {ta tb : TDT} {pos : Pos}
theorem dw_or1 (ha : DT X a ta) : DW X (.BoolOp .Or [a] pos) ta := pw_or1 ha
theorem dw_or (ha : DT X a ta) (hb : DW X (.BoolOp .Or (b :: rest) pos) tb) : DW X (.BoolOp .Or (a :: b :: rest) pos) (dOr ta tb) :=
  PW_mono (pw_or ha hb) fun σ H Q ⟨δ, G, R, sl, w, q, f⟩ => ⟨δ, G, _, sl, w, q, fun k G' H' h t' w' => by
    cases k with
    | false => exact iteF ⟨δ, G', R, sl.mono t', w', h, fun k2 G2 H2 q2 t2 w2 => f k2 G2 H2 q2 (t'.trans t2) w2⟩
    | true => exact iteT (f _ _ _ h t' w')⟩
theorem dt_w (h : DW X a ta) : DT X a ta := PW.pt h
theorem dt_not (ha : DT X a ta) : DT X (.UnaryOp .Not a pos) (dNot ta) :=
  PT_mono (pt_not ha) fun σ H Q ⟨δ, G, R, sl, w, q, f⟩ => ⟨δ, G, _, sl, w, q, fun k G' H' h t' w' => f _ _ _ h t' w'⟩
/-! and, or, not as values: truths -/
variable {ua ub : TD}
def dAndV (t u : TD) : TD := fun δ G Q => t δ G fun x G1 => ∃ c, x = .bl c ∧ if c = true then u δ G1 Q else Q (.bl false) G1
def dOrV (t u : TD) : TD := fun δ G Q => t δ G fun x G1 => ∃ c, x = .bl c ∧ if c = true then Q (.bl true) G1 else u δ G1 Q
def dNotV (t : TD) : TD := fun δ G Q => t δ G fun x G1 => ∃ c, x = .bl c ∧ Q (.bl (!c)) G1
def dNeg (t : TD) : TD := fun δ G Q => t δ G fun x G1 => ∃ i, x = .int i ∧ Q (.int (-i)) G1
theorem de_neg (ha : DE X a ua) : DE X (.UnaryOp .USub a pos) (dNeg ua) :=
  PE_mono (pe_un un_neg ha) fun σ H Q ⟨δ, G, R, sl, w, q, f⟩ => ⟨δ, G, _, sl, w, q, fun d G' v H' ⟨c, e, h⟩ t' w' rv => by
    subst e
    cases rv
    exact ⟨c, rfl, f _ _ _ _ h t' w' (.int _)⟩⟩
def dIf (t : TDT) (u v : TD) : TD := fun δ G Q => t δ G fun c G1 => if c = true then u δ G1 Q else v δ G1 Q
/-! ### arguments, displays -/
def dNil : TDA := fun _ G Q => Q [] G
def dCons (t : TD) (u : TDA) : TDA := fun δ G Q => t δ G fun x G1 => u δ G1 fun xs G2 => Q (x :: xs) G2
variable {e : Expr} {es : List Expr} {te : TD} {ts : TDA}
theorem da_nil : DA X [] dNil := PA_mono pa_nil fun σ H Q ⟨δ, G, R, sl, w, q, f⟩ => f _ _ _ _ q (TKs.refl _) w .nil
theorem da_cons (ha : DE X e te) (hr : DA X es ts) (hs : starEach (e :: es) X.env = (false, eval e X.env) :: starEach es X.env := by rfl) : DA X (e :: es) (dCons te ts) :=
  PA_mono (pa_cons ha hr hs) fun σ H Q ⟨δ, G, R, sl, w, q, f⟩ => ⟨δ, G, _, sl, w, q, fun d G1 v H1 h1 t1 w1 r1 => ⟨δ, G1, _, sl.mono t1, w1, h1, fun ds G2 vs H2 h2 t2 w2 r2 => f _ _ _ _ h2 (t1.trans t2) w2 (.cons (r1.mono t2) r2)⟩⟩
def dTup (t : TDA) : TD := fun δ G Q => t δ G fun ds G1 => ds.length ≤ sizeLine ∧ Q (.tup ds) G1
def dLst (t : TDA) : TD := fun δ G Q => t δ G fun ds G1 => ds.length ≤ sizeLine ∧ ∀ p, G1 p = none → Q (.ref p) (dupd G1 p (.lst ds))
theorem de_tup {x1} (h : DA X es ts) : DE X (.Tuple es x1 pos) (dTup ts) :=
  PE_mono (pe_tup h) fun σ H Q ⟨δ, G, R, sl, w, q, f⟩ => ⟨δ, G, _, sl, w, q, fun ds G1 vs H1 h1 t1 w1 r1 => ⟨by rw [r1.len]; exact h1.1, fun p np => by
    have s' := same_new np (.tup vs)
    exact f _ _ _ _ h1.2 (t1.trans (TKs.of s')) (w1.same s') (.tup (SqT.of upd_same) (r1.mono (.of s')))⟩⟩
theorem de_lst (h : DA X es ts) : DE X (.List es pos) (dLst ts) :=
  PE_mono (pe_lst h) fun σ H Q ⟨δ, G, R, sl, w, q, f⟩ => ⟨δ, G, _, sl, w, q, fun ds G1 vs H1 h1 t1 w1 r1 => ⟨by rw [r1.len]; exact h1.1, fun p np => by
    have s' := same_new np (.lst vs)
    exact f _ _ _ _ (h1.2 p (w1.free np)) (t1.trans (TKs.of s')) (w1.new np fun O => ⟨_, upd_same, r1.mono (.of s')⟩) (.ref p)⟩⟩
/-! ### calls of builtins -/
abbrev DC := List DV → DG → DK → Prop
def CallD (X : Cx) (f : Value) (b : DC) : Prop := ∃ r, CallR X f r ∧ ∀ ds vs H G R Q, RVs X.K H vs ds → Wd X.K H G → b ds G R → Fin X.K H R Q → r vs H Q
def dCB (b : DC) (t : TDA) : TD := fun δ G Q => t δ G fun ds G1 => b ds G1 Q
theorem de_callB {x : Str} {id : String} {b : DC} {p pos : Pos} (hc : CallD X (.builtin id) b) (hm : X.mg x = none) (hg : Gl X x) (hv : bootBuiltins x = some (.builtin id)) (ha : DA X (e :: es) ts) (hn : x ≠ "__name__" := by decide) (hdb : (x == ("__debug__" : Str)) = false := by decide)
    (he : starEach (e :: es) X.env = (false, eval e X.env) :: starEach es X.env := by rfl) (hpl : (backTo pos (starEach es X.env)).any (·.1) = false := by rfl) : DE X (.Call (.Name x p) (e :: es) [] pos) (dCB b ts) := by
  obtain ⟨r, hr, ok⟩ := hc
  exact PE_mono (pe_callB hr hg hm hv ha hn hdb he hpl) fun σ H Q ⟨δ, G, R, sl, w, q, f⟩ => ⟨δ, G, _, sl, w, q, fun ds G1 vs H1 h1 t1 w1 r1 => ok ds vs H1 G1 R Q r1 w1 h1 (f.step t1)⟩
theorem de_callTy {x : Str} {T : String} {b : DC} {p pos : Pos} (hc : CallD X (.type T) b) (hm : X.mg x = none) (hg : Gl X x) (hv : bootBuiltins x = some (.type T)) (ha : DA X (e :: es) ts) (hn : x ≠ "__name__" := by decide) (hdb : (x == ("__debug__" : Str)) = false := by decide)
    (he : starEach (e :: es) X.env = (false, eval e X.env) :: starEach es X.env := by rfl) (hpl : (backTo pos (starEach es X.env)).any (·.1) = false := by rfl) : DE X (.Call (.Name x p) (e :: es) [] pos) (dCB b ts) := by
  obtain ⟨r, hr, ok⟩ := hc
  exact PE_mono (pe_callTy hr hg hm hv ha hn hdb he hpl) fun σ H Q ⟨δ, G, R, sl, w, q, f⟩ => ⟨δ, G, _, sl, w, q, fun ds G1 vs H1 h1 t1 w1 r1 => ok ds vs H1 G1 R Q r1 w1 h1 (f.step t1)⟩
end
end DD
namespace DD
open PySem PySem.W L2 SX Cm
section
variable {X : Cx}
/-! ### builtins -/
def bLen : DC
  | [.tup ds], G, Q => Q (.int ds.length) G
  | [.str z], G, Q => z.length ≤ sizeLine ∧ Q (.int z.length) G
  | [.ref p], G, Q => (∃ ds, Ls G p ds ∧ Q (.int ds.length) G) ∨ (∃ kvs, G p = some (.dct kvs) ∧ Q (.int kvs.length) G)
  | _, _, _ => False
theorem KRV.len {K : Frag} {H : Hp} {v : List (Key × V)} {d : List (Key × DV)} (h : KRV K H v d) : v.length = d.length := by
  induction h with
  | nil => rfl
  | cons _ _ ih => exact congrArg (· + 1) ih
/-- the type of a value, where it is known -/
def tyN : DV → String
  | .non => "NoneType"
  | .bl _ => "bool"
  | .int _ => "int"
  | .str _ => "str"
  | .tup _ => "tuple"
  | .ty _ => "type"
  | .ref _ => "object"
/-- isinstance of built-in types -/
def tyB (a t : String) : Bool := a == t || (a == "bool" && t == "int")
def tysK : List String := ["tuple", "str", "int", "bool", "list", "dict"]
def TyAt (G : DG) : DV → String → Prop
  | .ref p, a => (a = "list" ∧ (G p = some .cnt ∨ (∃ ds, Ls G p ds))) ∨ (a = "dict" ∧ ∃ kvs, G p = some (.dct kvs))
  | .ty _, _ => False
  | d, a => a = tyN d
def bIsi : DC
  | [x, .ty t], G, Q => t ∈ tysK ∧ ∃ a b, TyAt G x a ∧ tyB a t = b ∧ Q (.bl b) G
  | _, _, _ => False
def bInt1 : DC
  | [.int i], G, Q => Q (.int i) G
  | [.bl k], G, Q => Q (.int (if k = true then 1 else 0)) G
  | _, _, _ => False
def bTuple : DC
  | [.tup ds], G, Q => Q (.tup ds) G
  | [.ref p], G, Q => ∃ ds, Ls G p ds ∧ Q (.tup ds) G
  | _, _, _ => False
theorem cd_tuple : CallD X (.type "tuple") bTuple := by
  refine ⟨_, call_tuple_of, fun ds vs H G R Q r w h f => ?_⟩
  cases r with
  | nil => exact h.elim
  | cons rv rt =>
    cases rt with
    | cons _ _ => cases rv <;> exact h.elim
    | nil =>
      cases rv with
      | tup s r => exact ⟨_, _, rfl, .inr ⟨s, f _ _ _ _ h (TKs.refl H) w (.tup s r)⟩⟩
      | ref p =>
        obtain ⟨ds, l, q⟩ := h
        obtain ⟨us, hs, r⟩ := wd_seq w l
        refine ⟨p, us, rfl, .inl ⟨hs, fun l nl => ?_⟩⟩
        have s' := same_new nl (.tup us)
        exact f _ _ _ _ q (TKs.of s') (w.same s') (.tup (SqT.of upd_same) (r.mono (.of s')))
      | _ => exact h.elim
/-! ### methods -/
abbrev DM := DV → List DV → DG → DK → Prop
def rcv (T : String) (x : DV) (G : DG) : Prop := match x with
  | .str _ => T = "str"
  | .ref p => (T = "list" ∧ ∃ ds, Ls G p ds) ∨ (T = "dict" ∧ ∃ kvs, G p = some (.dct kvs))
  | _ => False
def dBM (T : String) (b : DM) (to : TD) (t : TDA) : TD := fun δ G Q => to δ G fun x G1 => rcv T x G1 ∧ t δ G1 fun ds G2 => b x ds G2 Q
def dBM0 (T : String) (b : DM) (to : TD) : TD := fun δ G Q => to δ G fun x G1 => rcv T x G1 ∧ b x [] G1 Q
variable {o e : Expr} {es : List Expr} {to : TD} {t : TDA} {name : Str} {apos cpos : Pos} {T id : String} {b : DM}
/-- a change of one of the store's lists -/
theorem put_lst {K : Frag} {H : Hp} {G : DG} {p : Addr} {ds es : List DV} {xs ys : List V} (w : Wd K H G) (e : G p = some (.lst ds)) (h : H p = some (.lst xs)) (r : RVs K H ys es) : TKs K H (upd H p (.lst ys)) ∧ Wd K (upd H p (.lst ys)) (dupd G p (.lst es)) := by
  have t : TKs K H (upd H p (.lst ys)) := TKs.lst h
  exact ⟨t, w.put ⟨_, e, fun L φ z => by cases z⟩ t fun O => ⟨ys, upd_same, r.mono t⟩⟩
end
end DD
namespace DD
open PySem PySem.W L2 SX Cm
section
variable {X : Cx}
/-! ### blocks -/
def dNext : TDS := fun D δ G => D.nx δ G
def dSeq (t u : TDS) : TDS := fun D δ G => t { D with nx := u D } δ G
variable {st : Stmt} {rest : List Stmt} {t u : TDS}
theorem dss_nil : DSs X [] dNext := PSs_mono pss_nil fun D σ H ⟨D', δ, G, sl, w, l, h⟩ => l.nx σ δ G H h (TKs.refl H) w sl
theorem seq_up {K : Frag} {D : Ends} {σ : St} {H : Hp} (h : upS K (dSeq t u) D σ H) : tSeq (upS K t) (upS K u) D σ H := by
  obtain ⟨D', δ, G, sl, w, l, h⟩ := h
  exact ⟨{ D' with nx := u D' }, δ, G, sl, w, ⟨fun σ1 δ1 G1 H1 q t1 w1 s1 => ⟨D', δ1, G1, s1, w1, l.step t1, q⟩, l.rt, l.bk, l.ct⟩, h⟩
theorem dss_cons (h1 : DS X st t) (h2 : DSs X rest u) : DSs X (st :: rest) (dSeq t u) := PSs_mono (pss_cons h1 h2) fun D σ H h => seq_up h
theorem dss_one (h1 : DS X st t) : DSs X [st] t := pss_one h1
def dBreak : TDS := fun D δ G => D.bk δ G
def dCont : TDS := fun D δ G => D.ct δ G
def dDrop (te : TD) : TDS := fun D δ G => te δ G fun _ G1 => D.nx δ G1
def dRet (te : TD) : TDS := fun D δ G => te δ G D.rt
theorem ds_ret {e : Expr} {te : TD} {pos : Pos} (he : DE X e te) : DS X (.Return (some e) pos) (dRet te) :=
  PS_mono (ps_ret he) fun D σ H ⟨D', δ, G, sl, w, l, h⟩ => ⟨δ, G, _, sl, w, h, fun d G1 v H1 q t1 w1 r1 => l.rt d G1 v H1 q t1 w1 r1⟩
def dRetN : TDS := fun D _ G => D.rt .non G
def dIfS (c : TDT) (t u : TDS) : TDS := fun D δ G => c δ G fun b G1 => if b = true then t D δ G1 else u D δ G1
theorem ds_if {c : Expr} {a b : List Stmt} {tc : TDT} {pos : Pos} (hc : DT X c tc) (ha : DSs X a t) (hb : DSs X b u) : DS X (.If c a b pos) (dIfS tc t u) :=
  PS_mono (ps_if hc ha hb) fun D σ H ⟨D', δ, G, sl, w, l, h⟩ => ⟨δ, G, _, sl, w, h, fun k G1 H1 q t1 w1 => by
    cases k with
    | true => exact iteT ⟨D', δ, G1, sl.mono t1, w1, l.step t1, q⟩
    | false => exact iteF ⟨D', δ, G1, sl.mono t1, w1, l.step t1, q⟩⟩
/-! ### targets -/
abbrev TDG := DV → DSt → DG → (DSt → DG → Prop) → Prop
abbrev TDGs := List DV → DSt → DG → (DSt → DG → Prop) → Prop
def FinG (K : Frag) (H : Hp) (R : DSt → DG → Prop) (Q : St → Hp → Prop) : Prop := ∀ δ G σ H', R δ G → TKs K H H' → Wd K H' G → Sl K H' σ δ → Q σ H'
theorem FinG.step {K : Frag} {H H1 : Hp} {R : DSt → DG → Prop} {Q : St → Hp → Prop} (f : FinG K H R Q) (t : TKs K H H1) : FinG K H1 R Q := fun δ G σ H' r t' => f δ G σ H' r (t.trans t')
def upG (K : Frag) (g : TDG) : TG := fun v σ H Q => ∃ d δ G R, RV K H v d ∧ Sl K H σ δ ∧ Wd K H G ∧ g d δ G R ∧ FinG K H R Q
abbrev DGt (X : Cx) (e : Expr) (g : TDG) : Prop := PG X e (upG X.K g)
theorem PG_mono {e : Expr} {t t' : TG} (h : PG X e t) (i : ∀ v σ H Q, t' v σ H Q → t v σ H Q) : PG X e t' := ⟨fun pins s σ H v u Q I r q => h.run pins s σ H v u Q I r (i v σ H Q q)⟩
def gN (i : Nat) : TDG := fun d δ G Q => Q (δ.set i (some d)) G
theorem dg_name {i : Nat} {x : Str} {pos : Pos} (hN : X.N.Nodup) (hi : X.N[i]? = some x) (hx : Loc X.env.scope x) (hf : X.fn x = true ∨ X.env.scope.names.lookup x = some .local := by first | exact .inl rfl | exact .inr rfl | assumption) : DGt X (.Name x pos) (gN i) :=
  PG_mono (pg_name hN hi hx hf) fun v σ H Q ⟨d, δ, G, R, r, sl, w, h, f⟩ => f _ _ _ _ h (TKs.refl H) w (sl.set r i)
def gN0 : TDGs := fun ds δ G Q => ds = [] ∧ Q δ G
def gNC (t : TDG) (u : TDGs) : TDGs := fun ds δ G Q => ∃ d r, ds = d :: r ∧ t d δ G fun δ' G' => u r δ' G' Q
def gT (n : Nat) (t : TDGs) : TDG := fun d δ G Q => ∃ ds, d = .tup ds ∧ ds.length = n ∧ t ds δ G Q
/-- xs[i] = v -/
def bSet : DV → DV → DV → DG → (DG → Prop) → Prop
  | .ref p, .int i, v, G, Q => (∃ ds j, G p = some (.lst ds) ∧ ixN ds.length i = some j ∧ Q (dupd G p (.lst (ds.set j v)))) ∨ (G p = some .cnt ∧ i = 0 ∧ (∃ n, v = .int n) ∧ Q G)
  | _, _, _, _, _ => False
def gSb (to ti : TD) : TDG := fun v δ G Q => to δ G fun o G1 => ti δ G1 fun i G2 => bSet o i v G2 fun G3 => Q δ G3
def dAsg (te : TD) (g : TDG) : TDS := fun D δ G => te δ G fun d G1 => g d δ G1 D.nx
theorem ds_set {i : Nat} {x : Str} {e : Expr} {te : TD} {pos' pos : Pos} (hN : X.N.Nodup) (hi : X.N[i]? = some x) (hx : Loc X.env.scope x) (he : DE X e te) (hs : swapsWith e (some (.Name x pos')) pos.line X.env = pure false := by rfl) (hf : X.fn x = true ∨ X.env.scope.names.lookup x = some .local := by first | exact .inl rfl | exact .inr rfl | assumption) : DS X (.Assign [.Name x pos'] e pos) (dAsg te (gN i)) :=
  PS_mono (ps_set hN hi hx he hs hf) fun D σ H ⟨D', δ, G, sl, w, l, h⟩ => ⟨δ, G, _, sl, w, h, fun d G1 v H1 q t1 w1 r1 => l.nx _ _ G1 H1 q t1 w1 ((sl.mono t1).set r1 i)⟩
def dPar (i j : Nat) (t : TDA) : TDS := fun D δ G => t δ G fun ds G1 => ∃ a b, ds = [a, b] ∧ D.nx ((δ.set i (some a)).set j (some b)) G1
end
end DD
namespace DD
open PySem PySem.W L2 SX Cm
/-! ### what is walked: its items, and what must stay so -/
abbrev TDI := DSt → DG → (List DV → (DG → Prop) → DG → Prop) → Prop
structure JRel (K : Frag) (H0 : Hp) (J : It) (ds : List DV) (st : DG → Prop) : Prop where
  go : ∀ i H G, TKs K H0 H → Wd K H G → st G → i < ds.length → J.go i H
  yld : ∀ i H G x H', TKs K H0 H → Wd K H G → st G → i < ds.length → J.yld i H x H' → Same H H' ∧ ∃ d, ds[i]? = some d ∧ RV K H' x d
  stop : ∀ i H G, TKs K H0 H → Wd K H G → st G → i = ds.length → J.stop i H
def upI (K : Frag) (ti : TDI) : TI := fun σ H R' => ∃ δ G R, Sl K H σ δ ∧ Wd K H G ∧ ti δ G R ∧ ∀ ds st G1 H1 J, R ds st G1 → TKs K H H1 → Wd K H1 G1 → JRel K H1 J ds st → R' J H1
section
variable {X : Cx} {tg : Expr}
abbrev DI (X : Cx) (tg iter : Expr) (ti : TDI) : Prop := PI X tg iter (upI X.K ti)
theorem PI_mono {e : Expr} {t t' : TI} (h : PI X tg e t) (i : ∀ σ H R, t' σ H R → t σ H R) : PI X tg e t' := ⟨fun pins s σ H Q I q => h.run pins s σ H Q I (i σ H Q q)⟩
/-- over a tuple -/
def dITup (t : TD) : TDI := fun δ G R => t δ G fun d G1 => ∃ ds, d = .tup ds ∧ R ds (fun _ => True) G1
/-- over a list, which stays as it is -/
def dIList (t : TD) : TDI := fun δ G R => t δ G fun d G1 => ∃ p ds, d = .ref p ∧ Ls G1 p ds ∧ R ds (fun G => Ls G p ds) G1
def signs (z : Str) : List DV := z.cps.toList.map fun c => .str ⟨#[c]⟩
def dIStr (t : TD) : TDI := fun δ G R => t δ G fun d G1 => ∃ z, d = .str z ∧ R (signs z) (fun _ => True) G1
/-- range(n), range(a, b) -/
def rng (lo : Int) (n : Nat) : List DV := (List.range n).map fun i => .int (lo + (i : Nat))
theorem rng_len (lo : Int) (n : Nat) : (rng lo n).length = n := by unfold rng; rw [List.length_map, List.length_range]
theorem rng_get {lo : Int} {n i : Nat} (h : i < n) : (rng lo n)[i]? = some (.int (lo + (i : Nat))) := by
  unfold rng
  rw [List.getElem?_map, List.getElem?_range h]; rfl
theorem rng_rel {K : Frag} {H : Hp} {lo : Int} {n : Nat} : JRel K H (Itr lo n) (rng lo n) (fun _ => True) :=
  ⟨fun i H2 G2 t2 w2 l2 hi => by rw [rng_len] at hi; exact hi, fun i H2 G2 x H3 t2 w2 l2 hi y => by
    obtain ⟨rfl, rfl⟩ := y
    rw [rng_len] at hi
    exact ⟨Same.refl _, .int (lo + i), rng_get hi, .int _⟩, fun i H2 G2 t2 w2 l2 hi => by rw [rng_len] at hi; exact Nat.le_of_eq hi.symm⟩
def dIRng (t : TDA) : TDI := fun δ G R => t δ G fun ds G1 => ∃ j : Int, ds = [.int j] ∧ -(2 ^ 62) ≤ j ∧ j < 2 ^ 62 ∧ R (rng 0 j.toNat) (fun _ => True) G1
theorem di_range {a : Expr} {t : TDA} {p pos : Pos} (hm : X.mg "range" = none) (hg : Gl X "range") (ha : DA X [a] t) (hs : starEach [a] X.env = [(false, eval a X.env)] := by rfl) : DI X tg (.Call (.Name "range" p) [a] [] pos) (dIRng t) :=
  PI_mono (pi_range1 hg hm ha hs) fun σ H R' ⟨δ, G, R, sl, w, q, f⟩ => ⟨δ, G, _, sl, w, q, fun ds G1 vs H1 ⟨j, e, h1, h2, q1⟩ t1 w1 r1 => by
    subst e
    cases r1 with
    | cons ra rb =>
      cases rb
      cases ra
      exact ⟨j, rfl, h1, h2, f _ _ _ _ _ q1 t1 w1 rng_rel⟩⟩
def dIRng2 (t : TDA) : TDI := fun δ G R => t δ G fun ds G1 => ∃ i j : Int, ds = [.int i, .int j] ∧ (-(2 ^ 62) ≤ i ∧ i < 2 ^ 62 ∧ -(2 ^ 62) ≤ j ∧ j < 2 ^ 62) ∧ R (rng i (j - i).toNat) (fun _ => True) G1
/-- enumerate of a list -/
def nmbd (ds : List DV) : List DV := ds.zipIdx.map fun p => .tup [.int (p.2 : Nat), p.1]
variable {elts : List Expr} {kk : Nat} {tpos : Pos}
def dIEnum (t : TDA) : TDI := fun δ G R => t δ G fun xs G1 => ∃ p ds, xs = [.ref p] ∧ Ls G1 p ds ∧ R (nmbd ds) (fun G => Ls G p ds) G1
/-- reversed of a list -/
def dIRev (t : TDA) : TDI := fun δ G R => t δ G fun xs G1 => ∃ p ds, xs = [.ref p] ∧ Ls G1 p ds ∧ R ds.reverse (fun G => Ls G p ds) G1
/-! ### for -/
def dFor (ti : TDI) (g : TDG) (tb : TDS) : TDS := fun D δ G => ti δ G fun ds st G1 => ∃ Pv : Nat → DSt → DG → Prop, Pv 0 δ G1 ∧ (∀ i δ G, Pv i δ G → st G) ∧
  (∀ i d δ G, ds[i]? = some d → Pv i δ G → g d δ G fun δ2 G2 => tb { D with nx := Pv (i + 1), ct := Pv (i + 1), bk := D.nx } δ2 G2) ∧ (∀ δ G, Pv ds.length δ G → D.nx δ G)
theorem ds_for {iter : Expr} {body : List Stmt} {ti : TDI} {g : TDG} {tb : TDS} {pos : Pos} (hp : PassesOwn (model X.prog X.w) X.A X.env X.xe) (hc : X.calm = true) (hi : DI X tg iter ti) (hg : DGt X tg g) (hb : DSs X body tb)
    (hs : ∀ x, foldedSetIterable iter X.env x = pure x := by intro _; rfl) : DS X (.For tg iter body [] pos) (dFor ti g tb) := by
  refine PS_mono (ps_for hp hc hi hg hb hs) fun D σ H ⟨D', δ, G, sl, w, l, h⟩ => ⟨δ, G, _, sl, w, h, fun ds st G1 H1 J ⟨Pv, p0, pst, ps, pd⟩ t1 w1 j => ?_⟩
  refine ⟨fun i m σ H2 => ∃ δ G, Pv i δ G ∧ TKs X.K H1 H2 ∧ Wd X.K H2 G ∧ Sl X.K H2 σ δ ∧ i ≤ ds.length ∧ m = ds.length - i, ⟨_, δ, G1, p0, TKs.refl _, w1, sl.mono t1, Nat.zero_le _, rfl⟩, ?_⟩
  rintro i m σ2 H2 ⟨δ2, G2, p2, t2, w2, sl2, hi2, rfl⟩
  by_cases hlt : i < ds.length
  · refine .inr ⟨j.go i H2 G2 t2 w2 (pst _ _ _ p2) hlt, fun σ3 H3 => ∃ δ G, Pv (i + 1) δ G ∧ TKs X.K H1 H3 ∧ Wd X.K H3 G ∧ Sl X.K H3 σ3 δ, fun σ3 H3 ⟨δ3, G3, p3, t3, w3, sl3⟩ => ⟨_, by omega, δ3, G3, p3, t3, w3, sl3, hlt, rfl⟩, fun x H3 y => ?_⟩
    obtain ⟨s3, d, hd, rd⟩ := j.yld i H2 G2 x H3 t2 w2 (pst _ _ _ p2) hlt y
    have t3 := TKs.of (K := X.K) s3
    refine ⟨d, δ2, G2, _, rd, sl2.mono t3, w2.same s3, ps i d δ2 G2 hd p2, fun δ4 G4 σ4 H4 q4 t4 w4 sl4 => ⟨{ D' with nx := Pv (i + 1), ct := Pv (i + 1), bk := D'.nx }, δ4, G4, sl4, w4, ?_, q4⟩⟩
    have t14 := t2.trans (t3.trans t4)
    have t04 := t1.trans t14
    exact ⟨fun σ5 δ5 G5 H5 q5 t5 w5 sl5 => ⟨δ5, G5, q5, t14.trans t5, w5, sl5⟩, fun d5 G5 v5 H5 q5 t5 w5 r5 => l.rt _ _ _ _ q5 (t04.trans t5) w5 r5,
      fun σ5 δ5 G5 H5 q5 t5 w5 sl5 => l.nx _ _ _ _ q5 (t04.trans t5) w5 sl5, fun σ5 δ5 G5 H5 q5 t5 w5 sl5 => ⟨δ5, G5, q5, t14.trans t5, w5, sl5⟩⟩
  · have e : i = ds.length := by omega
    subst e
    exact .inl ⟨j.stop _ H2 G2 t2 w2 (pst _ _ _ p2) rfl, l.nx _ _ _ _ (pd _ _ p2) (t1.trans t2) w2 sl2⟩
/-! ### while -/
end
end DD
namespace DD
open PySem PySem.W L2 SX Cm
/-! ### comprehensions -/
def wipeD (δ : DSt) : List Nat → DSt
  | [] => δ
  | v :: vs => (wipeD δ vs).set v none
theorem Sl.wipe {K : Frag} {H : Hp} {σ : St} {δ : DSt} (h : Sl K H σ δ) : ∀ vs : List Nat, Sl K H (L2.wipe σ vs) (wipeD δ vs)
  | [] => h
  | v :: vs => (Sl.wipe h vs).unset v
theorem set_comm' {α : Type} : ∀ (σ : List α) (i j : Nat) (x y : α), i ≠ j → (σ.set i x).set j y = (σ.set j y).set i x
  | [], _, _, _, _, _ => rfl
  | a :: r, 0, 0, _, _, h => absurd rfl h
  | a :: r, 0, j + 1, _, _, _ => rfl
  | a :: r, i + 1, 0, _, _, _ => rfl
  | a :: r, i + 1, j + 1, x, y, h => by
    show a :: _ = a :: _
    rw [set_comm' r i j x y (fun z => h (by rw [z]))]
theorem set_set' {α : Type} : ∀ (σ : List α) (i : Nat) (x y : α), (σ.set i x).set i y = σ.set i y
  | [], _, _, _ => rfl
  | a :: r, 0, _, _ => rfl
  | a :: r, i + 1, x, y => by
    show a :: _ = a :: _
    rw [set_set' r i x y]
theorem wipe_out (i : Nat) (x : Option V) : ∀ (vs : List Nat) (σ : St), i ∉ vs → wipe (σ.set i x) vs = (wipe σ vs).set i x
  | [], _, _ => rfl
  | v :: vs, σ, h => by
    have h1 : i ≠ v := fun z => h (by rw [z]; exact List.mem_cons_self ..)
    have h2 : i ∉ vs := fun z => h (List.mem_cons_of_mem _ z)
    show (wipe (σ.set i x) vs).set v none = ((wipe σ vs).set v none).set i x
    rw [wipe_out i x vs σ h2, set_comm' _ _ _ _ _ h1]
theorem wipe_in (i : Nat) (x : Option V) : ∀ (vs : List Nat) (σ : St), i ∈ vs → wipe (σ.set i x) vs = wipe σ vs
  | [], _, h => nomatch h
  | v :: vs, σ, h => by
    show (wipe (σ.set i x) vs).set v none = (wipe σ vs).set v none
    by_cases hi : i ∈ vs
    · rw [wipe_in i x vs σ hi]
    · rw [wipe_out i x vs σ hi]
      have e : i = v := by
        rcases List.mem_cons.mp h with e | e
        · exact e
        · exact absurd e hi
      rw [e, set_set']
theorem wipe_wipe (σ : St) : ∀ vs : List Nat, wipe (wipe σ vs) vs = wipe σ vs := fun vs => by
  have go : ∀ (ws vs : List Nat), (∀ v ∈ ws, v ∈ vs) → wipe (wipe σ ws) vs = wipe σ vs := by
    intro ws
    induction ws with
    | nil => intro vs _; rfl
    | cons w ws ih =>
      intro vs h
      show wipe ((wipe σ ws).set w none) vs = _
      rw [wipe_in w none vs _ (h w (List.mem_cons_self ..)), ih vs fun v hv => h v (List.mem_cons_of_mem _ hv)]
  exact go vs vs fun v hv => hv
/-- a target of a comprehension: slots alone -/
abbrev TL := DV → DSt → (DSt → Prop) → Prop
def LT (K : Frag) (vs : List Nat) (g : TG) (ld : TL) : Prop := ∀ v d σ δ H R Q, RV K H v d → Sl K H σ δ → ld d δ R → (∀ σ2 δ2, Sl K H σ2 δ2 → wipe σ2 vs = wipe σ vs → R δ2 → Q σ2 H) → g v σ H Q
def l1 (i : Nat) : TL := fun d δ R => R (δ.set i (some d))
def l2 (i j : Nat) : TL := fun d δ R => ∃ a b, d = .tup [a, b] ∧ R ((δ.set i (some a)).set j (some b))
def l3 (i j k : Nat) : TL := fun d δ R => ∃ a b c, d = .tup [a, b, c] ∧ R (((δ.set i (some a)).set j (some b)).set k (some c))
theorem lt1 {K : Frag} {vs : List Nat} {i : Nat} (h : i ∈ vs) : LT K vs (gName i) (l1 i) := fun v d σ δ H R Q r sl q f => f _ _ (sl.set r i) (wipe_in i _ vs σ h) q
def dYes : TDT := fun _ G Q => Q true G
/-- a comprehension: the list that is made stands at p; Pv by the turn, what is made so far, the store -/
def dLc (ti : TDI) (ld : TL) (tt : TDT) (te : TD) (vs : List Nat) : TD := fun δ G Q => ti δ G fun ds st G1 => ∀ p, G1 p = none → ∃ Pv : Nat → List DV → DG → Prop, Pv 0 [] (dupd G1 p (.lst [])) ∧ (∀ i acc G, Pv i acc G → st G) ∧
  (∀ i d acc G, ds[i]? = some d → Pv i acc G → ld d (wipeD δ vs) fun δ2 => tt δ2 G fun b G3 => if b = true then te δ2 G3 fun y G4 => G4 p = some (.lst acc) ∧ acc.length < sizeLine ∧ Pv (i + 1) (acc ++ [y]) (dupd G4 p (.lst (acc ++ [y]))) else Pv (i + 1) acc G3) ∧
  (∀ acc G, Pv ds.length acc G → Q (.ref p) G)
theorem lc_up {K : Frag} {ti : TDI} {g : TG} {ld : TL} {tt : TDT} {te : TD} {vs : List Nat} (lt : LT K vs g ld) {σ : St} {H : Hp} {Q : VK} (h : up K (dLc ti ld tt te vs) σ H Q) : tLc (upI K ti) g (upT K tt) (up K te) vs σ H Q := by
  obtain ⟨δ, G, R, sl, w, h, f⟩ := h
  refine ⟨δ, G, _, sl, w, h, fun ds st G1 H1 J q t1 w1 j p np => ?_⟩
  obtain ⟨Pv, p0, pst, ps, pd⟩ := q p (w1.free np)
  have s0 : Same H1 (upd H1 p (.lst [])) := same_new np _
  refine ⟨fun i m H2 => ∃ acc G, Pv i acc G ∧ TKs K H1 H2 ∧ Wd K H2 G ∧ i ≤ ds.length ∧ m = ds.length - i, ⟨_, [], _, p0, TKs.of s0, w1.new np fun O => ⟨[], upd_same, .nil⟩, Nat.zero_le _, rfl⟩, ?_⟩
  rintro i m H2 ⟨acc, G2, p2, t2, w2, hi, rfl⟩
  by_cases hlt : i < ds.length
  · refine .inr ⟨j.go i H2 G2 t2 w2 (pst _ _ _ p2) hlt, fun H3 => ∃ acc G, Pv (i + 1) acc G ∧ TKs K H1 H3 ∧ Wd K H3 G, fun H3 ⟨acc3, G3, p3, t3, w3⟩ => ⟨_, by omega, acc3, G3, p3, t3, w3, hlt, rfl⟩, fun x H3 y => ?_⟩
    obtain ⟨s3, d, hd, rd⟩ := j.yld i H2 G2 x H3 t2 w2 (pst _ _ _ p2) hlt y
    have t3 := TKs.of (K := K) s3
    have t13 := t2.trans t3
    have w3 := w2.same s3
    refine lt x d _ (wipeD δ vs) H3 _ _ rd (((sl.mono t1).mono t13).wipe vs) (ps i d acc G2 hd p2) fun σ4 δ4 sl4 e4 q4 => ⟨by rw [e4]; exact wipe_wipe σ vs, δ4, G2, _, sl4, w3, q4, fun b G5 H5 q5 t5 w5 => ?_⟩
    have t15 := t13.trans t5
    cases b with
    | false => exact iteF ⟨acc, G5, q5, t15, w5⟩
    | true =>
      refine iteT ⟨δ4, G5, _, sl4.mono t5, w5, q5, fun y G6 vy H6 ⟨e6, l6, q6⟩ t6 w6 r6 => ?_⟩
      obtain ⟨us, hu, ru⟩ := wd_list w6 e6
      obtain ⟨t7, w7⟩ := put_lst w6 e6 hu (ru.append (.cons r6 .nil))
      exact ⟨us, hu, by rw [ru.len]; exact l6, _, _, q6, (t15.trans t6).trans t7, w7⟩
  · have e : i = ds.length := by omega
    subst e
    exact .inl ⟨j.stop _ H2 G2 t2 w2 (pst _ _ _ p2) rfl, f _ _ _ _ (pd _ _ p2) (t1.trans t2) w2 (.ref p)⟩
section
variable {X : Cx}
theorem de_lc {elt tg iter : Expr} {ifs : List Expr} {scope : Scope} {own : List (Str × Nat)} {pos : Pos} {ti : TDI} {g : TG} {ld : TL} {tt : TDT} {te : TD} (lt : LT X.K (own.map (·.2)) g ld) (hc : X.calm = true) (hN : X.N.Nodup) (hi : DI X tg iter ti) (ok : BlkOk X.N X.env.scope scope own)
    (hg : ∀ (s : Shared) (H : Hp) (C : Addr) (cl : List (Str × Addr)) (fp : List Addr), PG (X.blk s H scope (compEnvC scope cl C X.env) fp) tg g) (ht : ∀ (s : Shared) (H : Hp) (C : Addr) (cl : List (Str × Addr)) (fp : List Addr), PTs (X.blk s H scope (compEnvC scope cl C X.env) fp) ifs (upT X.K tt))
    (he : ∀ (s : Shared) (H : Hp) (C : Addr) (cl : List (Str × Addr)) (fp : List Addr), PE (X.blk s H scope (compEnvC scope cl C X.env) fp) elt (up X.K te)) (hs : ∀ x, foldedSetIterable iter X.env x = pure x := by intro _; rfl) :
    DE X (.ListComp elt [⟨tg, iter, ifs, 0⟩] scope pos) (dLc ti ld tt te (own.map (·.2))) := PE_mono (pe_lc hc hN hi ok hg ht he hs) fun σ H Q h => lc_up lt h
theorem ds_setLc {i : Nat} {y : Str} {py : Pos} {elt tg iter : Expr} {ifs : List Expr} {scope : Scope} {own : List (Str × Nat)} {pos spos : Pos} {ti : TDI} {g : TG} {ld : TL} {tt : TDT} {te : TD} (lt : LT X.K (own.map (·.2)) g ld) (hc : X.calm = true) (hN : X.N.Nodup) (hy : X.N[i]? = some y) (hyl : X.env.scope.names.lookup y = some .local)
    (hsw : swapsWith (.ListComp elt [⟨tg, iter, ifs, 0⟩] scope pos) (some (.Name y py)) spos.line X.env = pure true) (hi : DI X tg iter ti) (ok : BlkOk X.N X.env.scope scope own)
    (hg : ∀ (s : Shared) (H : Hp) (C : Addr) (cl : List (Str × Addr)) (fp : List Addr), PG (X.blk s H scope (compEnvC scope cl C X.env) fp) tg g) (ht : ∀ (s : Shared) (H : Hp) (C : Addr) (cl : List (Str × Addr)) (fp : List Addr), PTs (X.blk s H scope (compEnvC scope cl C X.env) fp) ifs (upT X.K tt))
    (he : ∀ (s : Shared) (H : Hp) (C : Addr) (cl : List (Str × Addr)) (fp : List Addr), PE (X.blk s H scope (compEnvC scope cl C X.env) fp) elt (up X.K te)) (hs : ∀ x, foldedSetIterable iter X.env x = pure x := by intro _; rfl) :
    DS X (.Assign [.Name y py] (.ListComp elt [⟨tg, iter, ifs, 0⟩] scope pos) spos) (dAsg (dLc ti ld tt te (own.map (·.2))) (gN i)) := PS_mono (ps_setLc hc hN hy hyl hsw hi ok hg ht he hs) fun D σ H ⟨D', δ, G, sl, w, l, h⟩ => by
  refine lc_up lt (Q := fun v H1 => gName i v σ H1 D.nx) ⟨δ, G, _, sl, w, h, fun d G1 v H1 q t1 w1 r1 => ?_⟩
  exact l.nx _ _ _ _ q t1 w1 ((sl.mono t1).set r1 i)
theorem dts_nil : PTs X [] (upT X.K dYes) := ⟨fun pins s σ H Q I ⟨δ, G, R, sl, w, h, f⟩ => pts_nil.run pins s σ H Q I (f _ _ _ h (TKs.refl H) w)⟩
end
/-- elements that leave the store as it is -/
theorem lc_pure {ds : List DV} {st : DG → Prop} {ld : TL} {tt : TDT} {te : TD} {vs : List Nat} {δ : DSt} {G1 : DG} {Q : DK} (f : DV → Option DV) (hsc : ∀ p o, G1 p = none → st (dupd G1 p o)) (hl : ds.length ≤ 1000000)
    (h : ∀ d ∈ ds, ∀ (G : DG) (k1 : DK) (k0 : DG → Prop), (∃ p acc, G1 p = none ∧ G = dupd G1 p (.lst acc)) → (∀ y, f d = some y → k1 y G) → (f d = none → k0 G) →
      ld d (wipeD δ vs) fun δ2 => tt δ2 G fun b G3 => if b = true then te δ2 G3 k1 else k0 G3)
    (q : ∀ p, G1 p = none → Q (.ref p) (dupd G1 p (.lst (ds.filterMap f)))) :
    ∀ p, G1 p = none → ∃ Pv : Nat → List DV → DG → Prop, Pv 0 [] (dupd G1 p (.lst [])) ∧ (∀ i acc G, Pv i acc G → st G) ∧
      (∀ i d acc G, ds[i]? = some d → Pv i acc G → ld d (wipeD δ vs) fun δ2 => tt δ2 G fun b G3 => if b = true then te δ2 G3 fun y G4 => G4 p = some (.lst acc) ∧ acc.length < sizeLine ∧ Pv (i + 1) (acc ++ [y]) (dupd G4 p (.lst (acc ++ [y]))) else Pv (i + 1) acc G3) ∧
      (∀ acc G, Pv ds.length acc G → Q (.ref p) G) := by
  intro p np
  refine ⟨fun i acc G => acc = (ds.take i).filterMap f ∧ i ≤ ds.length ∧ G = dupd G1 p (.lst acc), ⟨rfl, Nat.zero_le _, rfl⟩, fun i acc G ⟨_, _, e⟩ => by rw [e]; exact hsc p _ np, ?_, ?_⟩
  · rintro i d acc G hd ⟨ea, hi, rfl⟩
    have hlt : i < ds.length := (List.getElem?_eq_some_iff.mp hd).1
    have et : ds.take (i + 1) = ds.take i ++ [d] := by rw [List.take_add_one, hd]; rfl
    have la : acc.length ≤ i := by rw [ea]; exact Nat.le_trans (List.length_filterMap_le _ _) (by rw [List.length_take]; omega)
    refine h d (List.mem_of_getElem? hd) _ _ _ ⟨p, acc, np, rfl⟩ (fun y hf => ?_) (fun hf => ?_)
    · refine ⟨dupd_same, midlt (by omega), ?_, hlt, dupd_dupd⟩
      rw [et, List.filterMap_append, ← ea]
      show acc ++ [y] = acc ++ List.filterMap f [d]
      rw [List.filterMap_cons_some hf]; rfl
    · refine ⟨?_, hlt, rfl⟩
      rw [et, List.filterMap_append, ← ea, List.filterMap_cons_none hf, List.filterMap_nil, List.append_nil]
  · rintro acc G ⟨ea, _, rfl⟩
    rw [ea, List.take_length]
    exact q p np
end DD
namespace DD
open PySem PySem.W L2 SX Cm
/-! ### defs -/
abbrev DSp := List DV → DG → DK → Prop
def toSp (K : Frag) (n : Nat) (dsp : DSp) : Sp := fun vs H Q _ => ∃ ds G R, RVs K H vs ds ∧ Wd K H G ∧ ds.length = n ∧ dsp ds G R ∧ Fin K H R Q
theorem _root_.PySem.W.L2.Fun.look {K : Frag} {x qual : Str} {st : Stmt} {f : Addr} {fd : FuncData} (F : Fun K x qual st f fd) : ∃ oc od osl, K.lookup f = some ⟨oc, od, .func fd, osl⟩ := by
  obtain ⟨oc, od, kV, doc, pm, an, cdv, ct, osl, rfl, lk, _⟩ := F.ex
  exact ⟨oc, od, osl, lk⟩
/-- the def nm keeps a promise about data, by level k -/
def Has (P : Program) (w : World) (K : Frag) (mg : Str → Option Value) (base : Heap) (k : Nat) (nm : Str) (ps : List Str) (dsp : DSp) : Prop :=
  ∃ f fd, FnOk P w K mg base CX0 k f fd ps (toSp K ps.length dsp) ∧ L2.Binds K fd ps [] ∧ keepIn K (.ref f) = true ∧ mg nm = some (.ref f) ∧ ∃ oc od osl, K.lookup f = some ⟨oc, od, .func fd, osl⟩
section
variable {P : Program} {w : World} {K : Frag} {mg : Str → Option Value} {base : Heap} {k : Nat} {nm : Str} {ps : List Str} {dsp : DSp}
theorem Has.mono {j : Nat} (h : Has P w K mg base k nm ps dsp) (l : k ≤ j) : Has P w K mg base j nm ps dsp := by
  obtain ⟨f, fd, a, b⟩ := h
  exact ⟨f, fd, a.mono l, b⟩
/-- many promises of one def -/
theorem Has.any {ι : Type} [ne : Nonempty ι] {d : ι → DSp} (h : ∀ i, Has P w K mg base k nm ps (d i)) : Has P w K mg base k nm ps (fun ds G R => ∃ i, d i ds G R) := by
  obtain ⟨i0⟩ := ne
  obtain ⟨f, fd, a, b, kp, m, oc, od, osl, lk⟩ := h i0
  have all : ∀ i, FnOk P w K mg base CX0 k f fd ps (toSp K ps.length (d i)) := fun i => by
    obtain ⟨f', fd', a', b', kp', m', oc', od', osl', lk'⟩ := h i
    rw [m] at m'
    cases m'
    rw [lk] at lk'
    cases lk'
    exact a'
  refine ⟨f, fd, ⟨fun vs H Q E ⟨ds, G, R, r, w, l, ⟨i, h⟩, f⟩ => (all i).len vs H Q E ⟨ds, G, R, r, w, l, h, f⟩, fun A outer s H args us vs Q E hr he hb hv ⟨ds, G, R, r, w, l, ⟨i, h⟩, f⟩ => (all i).run A outer s H args us vs Q E hr he hb hv ⟨ds, G, R, r, w, l, h, f⟩⟩, b, kp, m, oc, od, osl, lk⟩
theorem Has.imp {dsp' : DSp} (h : Has P w K mg base k nm ps dsp) (i : ∀ ds G R, dsp' ds G R → dsp ds G R) : Has P w K mg base k nm ps dsp' := by
  obtain ⟨f, fd, a, b⟩ := h
  exact ⟨f, fd, a.imp fun vs H Q E ⟨ds, G, R, r, w, l, h, f⟩ => ⟨ds, G, R, r, w, l, i ds G R h, f⟩, b⟩
end
section
variable {X : Cx} {k : Nat} {nm : Str} {ps : List Str} {dsp : DSp} {e : Expr} {es : List Expr} {ts : TDA} {p pos : Pos}
def dCall (n : Nat) (dsp : DSp) (t : TDA) : TD := fun δ G Q => t δ G fun ds G1 => ds.length = n ∧ dsp ds G1 Q
theorem de_call (h : Has X.prog X.w X.K X.mg X.base k nm ps dsp) (hr : Room k X.A) (hg : Gl X nm) (ha : DA X (e :: es) ts) (hdb : (nm == ("__debug__" : Str)) = false := by decide) (he : starEach (e :: es) X.env = (false, eval e X.env) :: starEach es X.env := by rfl) (hpl : (backTo pos (starEach es X.env)).any (·.1) = false := by rfl) :
    DE X (.Call (.Name nm p) (e :: es) [] pos) (dCall ps.length dsp ts) := by
  obtain ⟨f, fd, F, b, kp, m, _⟩ := h
  refine PE_mono (pe_call F hr hg m kp b .nil (pass0 (X := X)) ha hdb he hpl) fun σ H Q ⟨δ, G, R, sl, w, h, f⟩ => ⟨δ, G, _, sl, w, h, fun ds G1 vs H1 h1 t1 w1 r1 => ?_⟩
  show toSp X.K ps.length dsp (vs ++ []) H1 Q E0
  rw [List.append_nil]
  exact ⟨ds, G1, R, r1, w1, h1.1, h1.2, f.step t1⟩
end
def dstart (N : List Str) (ds : List DV) : DSt := ds.map some ++ List.replicate (N.length - ds.length) none
theorem Sl.nones {K : Frag} {H : Hp} : ∀ n : Nat, Sl K H (List.replicate n none) (List.replicate n none)
  | 0 => .nil
  | n + 1 => .non (Sl.nones n)
theorem Sl.somes {K : Frag} {H : Hp} {σ : St} {δ : DSt} (h : Sl K H σ δ) : ∀ {vs : List V} {ds : List DV}, RVs K H vs ds → Sl K H (vs.map some ++ σ) (ds.map some ++ δ)
  | _, _, .nil => h
  | _, _, .cons r t => .cons r (Sl.somes h t)
theorem sl_start {K : Frag} {H : Hp} {N : List Str} {vs : List V} {ds : List DV} (r : RVs K H vs ds) : Sl K H (L2.start N vs) (dstart N ds) := by
  unfold L2.start dstart
  rw [r.len]
  exact Sl.somes (Sl.nones _) r
/-- what is told of the store behind a def: less than is known -/
def Less (R : DK) : DK := fun d G => ∃ G', Sub G' G ∧ R d G'
theorem Less.of {R : DK} {d : DV} {G : DG} (h : R d G) : Less R d G := ⟨G, Sub.refl G, h⟩
section
variable {P : Program} {w : World} {K : Frag} {mg : Str → Option Value} {base : Heap}
theorem links_def {H : Hp} {R : DK} {Q : VK} (f : Fin K H R Q) : Links K H { nx := fun _ G => Less R .non G, rt := Less R } { nx := fun _ H' => Q .non H', rt := Q } :=
  ⟨fun σ δ G H' ⟨G', s, r⟩ t w sl => f _ G' _ H' r t (w.sub s) .non, fun d G v H' ⟨G', s, r⟩ t w rv => f _ G' _ H' r t (w.sub s) rv, fun _ _ _ _ h => h.elim, fun _ _ _ _ h => h.elim⟩
/-- a def by its body, over data -/
theorem has_mk {nm : Str} {st : Stmt} {f : Addr} {fd : FuncData} {N ps : List Str} {k : Nat} {dsp : DSp} (F : Fun K nm nm st f fd) (b : L2.Binds K fd ps []) (m : mg nm = some (.ref f)) (S : FnScope N ps (defScope st))
    (body : ∀ (cdv : Value) (A : Around) (outer : List Env) (s : Shared) (H : Hp) (E : XK), Room k (A.deeper (PyProof.Rows.envOfC nm (defScope st) s.heap.objs.size f cdv)) → ∀ ds G R, ds.length = ps.length → dsp ds G R →
      ∃ t, DSs (cxOf CX0 P w K mg base N nm (defScope st) f cdv A outer s H E).nox (defBody st) t ∧ t { nx := fun _ G => Less R .non G, rt := Less R } (dstart N ds) G) : Has P w K mg base (k + 1) nm ps dsp := by
  refine ⟨f, fd, F.ok S (fun vs H Q E h => ?_) (fun cdv A outer s H vs Q E hr h => ?_), b, F.kp, m, F.look⟩
  · obtain ⟨ds, G, R, r, w, l, _⟩ := h
    rw [r.len]; exact l
  · obtain ⟨ds, G, R, r, wd, l, h, fin⟩ := h
    obtain ⟨t, h1, h2⟩ := body cdv A outer s H E hr ds G R l h
    exact ⟨_, h1, _, _, G, sl_start r, wd, links_def fin, h2⟩
end
/-! ### things of which only something is known -/
theorem Wd.abs_keep {K : Frag} {H H' : Hp} {G : DG} {d : Addr} {L : List Addr} {φ : Hp → Prop} (w : Wd K H G) (e : G d = some (.abs L φ)) (kp : Kp L H H') (t : TKs K H H') (hφ : φ H') (hl : ∀ b ∈ L, ∃ xs, H' b = some (.lst xs)) : Wd K H' G := by
  obtain ⟨O, w⟩ := w
  obtain ⟨md, _, _, loc, ow⟩ := w.ob d _ e
  have nL : ∀ a o, G a = some o → a ≠ d → a ∉ L := fun a o ea ne m => by
    have := ow a m ne
    have := (w.own a d this).1
    rw [ea] at this; cases this
  have nO : ∀ b a, O b = some a → a ≠ d → b ∉ L := fun b a eb ne m => by
    by_cases hbd : b = d
    · have := (w.own b a eb).1
      rw [hbd, e] at this; cases this
    · have := ow b m hbd
      rw [eb] at this
      exact ne (Option.some.inj this)
  refine ⟨O, ⟨fun b a eb => ?_, fun a o ea => ?_⟩⟩
  · obtain ⟨h1, xs, h2⟩ := w.own b a eb
    by_cases had : a = d
    · by_cases hm : b ∈ L
      · exact ⟨h1, hl b hm⟩
      · exact ⟨h1, xs, kp b _ hm h2⟩
    · exact ⟨h1, xs, kp b _ (nO b a eb had) h2⟩
  · by_cases had : a = d
    · subst had
      rw [e] at ea
      cases ea
      exact ⟨md, hl a md, hφ, loc, ow⟩
    · refine OR.keep w t ea fun b hb => ?_
      obtain ⟨u, hu, nb⟩ : ∃ u, H b = some u ∧ b ∉ L := by
        rcases hb with rfl | hb
        · obtain ⟨u, hu⟩ := (w.ob _ o ea).some
          exact ⟨u, hu, nL _ o ea had⟩
        · obtain ⟨_, xs, h⟩ := w.own b a hb
          exact ⟨_, h, nO b a hb had⟩
      rw [hu, kp b u nb hu]
/-- nothing but one thing is known -/
theorem wd_one {K : Frag} {H : Hp} {d : Addr} {L : List Addr} {φ : Hp → Prop} (md : d ∈ L) (hφ : φ H) (hl : ∀ b ∈ L, ∃ xs, H b = some (.lst xs)) (loc : ∀ H1 H2, (∀ b ∈ L, H1 b = H2 b) → φ H1 → φ H2) : Wd K H (dupd (fun _ => none) d (.abs L φ)) := by
  refine ⟨fun b => if b ∈ L ∧ b ≠ d then some d else none, ⟨fun b a e => ?_, fun a o e => ?_⟩⟩
  · by_cases h : b ∈ L ∧ b ≠ d
    · exact ⟨dupd_ne h.2, hl b h.1⟩
    · rw [if_neg h] at e; cases e
  · by_cases had : a = d
    · subst had
      rw [dupd_same] at e
      cases e
      exact ⟨md, hl a md, hφ, loc, fun b hb hbd => if_pos ⟨hb, hbd⟩⟩
    · rw [dupd_ne had] at e; cases e
end DD
namespace PySem
open Sem (wp)
open AutoSeq1 (wpAny_loadPart')
end PySem
namespace DD
open PySem PySem.W L2 SX Cm PyProof.Rows
section
variable {X : Cx} {elts : List Expr} {kk : Nat} {tpos : Pos}
/-- enumerate of a tuple -/
def dIEnumT (t : TDA) : TDI := fun δ G R => t δ G fun xs G1 => ∃ ds, xs = [.tup ds] ∧ R (nmbd ds) (fun _ => True) G1
end
end DD
namespace PySem.W
open PySem PySem.Calls PyProof.Rows
end PySem.W
namespace DD
open PySem PySem.W L2 SX Cm PyProof.Rows
def plE (p : List Int) : PyData := .tuple (p.map .int)
def plD (p : List Int) : DV := .tup (p.map .int)
end DD
namespace DD
open PySem PySem.W L2 SX Cm
/-- the names of built-ins are still theirs -/
structure BI (mg : Str → Option Value) : Prop where
  len : mg "len" = none
  isi : mg "isinstance" = none
  int : mg "int" = none
  str : mg "str" = none
  tup : mg "tuple" = none
  lst : mg "list" = none
  bool : mg "bool" = none
  dct : mg "dict" = none
  all : mg "all" = none
  any : mg "any" = none
  sum : mg "sum" = none
  sorted : mg "sorted" = none
  set : mg "set" = none
  range : mg "range" = none
  enum : mg "enumerate" = none
  zip : mg "zip" = none
  rev : mg "reversed" = none
/-- the def nm stands at its place -/
def At (K : Frag) (mg : Str → Option Value) (nm : Str) (st : Stmt) (ps : List Str) : Prop := ∃ f fd, Fun K nm nm st f fd ∧ L2.Binds K fd ps [] ∧ mg nm = some (.ref f)
section
variable {P : Program} {w : World} {K : Frag} {mg : Str → Option Value} {base : Heap}
theorem at_mk {nm : Str} {st : Stmt} {N ps : List Str} {k : Nat} {dsp : DSp} (a : At K mg nm st ps) (S : FnScope N ps (defScope st))
    (body : ∀ (f : Addr) (cdv : Value) (A : Around) (outer : List Env) (s : Shared) (H : Hp) (E : XK), Room k (A.deeper (PyProof.Rows.envOfC nm (defScope st) s.heap.objs.size f cdv)) → ∀ ds G R, ds.length = ps.length → dsp ds G R →
      ∃ t, DSs (cxOf CX0 P w K mg base N nm (defScope st) f cdv A outer s H E).nox (defBody st) t ∧ t { nx := fun _ G => Less R .non G, rt := Less R } (dstart N ds) G) : Has P w K mg base (k + 1) nm ps dsp := by
  obtain ⟨f, fd, F, b, m⟩ := a
  exact has_mk F b m S (body f)
/-- a promise about the heap gives one about data -/
theorem has_of {nm : Str} {st : Stmt} {ps : List Str} {k : Nat} {sp : Sp} {dsp : DSp} (a : At K mg nm st ps) (h : ∀ f fd, Fun K nm nm st f fd → FnOk P w K mg base CX0 k f fd ps sp) (i : ∀ vs H Q E, toSp K ps.length dsp vs H Q E → sp vs H Q E) : Has P w K mg base k nm ps dsp := by
  obtain ⟨f, fd, F, b, m⟩ := a
  exact ⟨f, fd, (h f fd F).imp i, b, F.kp, m, F.look⟩
end
section
variable {X : Cx}
theorem dv (i : Nat) {x : Str} {pos : Pos} (hN : X.N[i]? = some x := by rfl) (hv : Vis X.env.scope x := by first | exact Or.inl rfl | exact Or.inr (Or.inl rfl) | exact Or.inr (Or.inr rfl)) (hd : (x == ("__debug__" : Str)) = false := by decide)
    (hcd : (x == ("__classdict__" : Str)) = false := by decide) : DE X (.Name x pos) (dVar i) := de_var hN hv hd hcd
/-- reversed(range(n)) -/
def dIRevR (t : TDA) : TDI := fun δ G R => t δ G fun ds G1 => ∃ j : Int, ds = [.int j] ∧ 0 ≤ j ∧ j < 2 ^ 62 ∧ R (rng 0 j.toNat).reverse (fun _ => True) G1
end
end DD
/-! things, words and rows as they are, and as data -/
namespace DD
open PySem PySem.W L2 SX Cm
theorem ly1 {i : Nat} {d : DV} {δ : DSt} {G : DG} {k : DSt → Bool → DG → Prop} (h : k (δ.set i (some d)) true G) : l1 i d δ (fun δ2 => dYes δ2 G (k δ2)) := h
theorem ly2 {i j : Nat} {a b : DV} {δ : DSt} {G : DG} {k : DSt → Bool → DG → Prop} (h : k ((δ.set i (some a)).set j (some b)) true G) : l2 i j (.tup [a, b]) δ (fun δ2 => dYes δ2 G (k δ2)) := ⟨a, b, rfl, h⟩
theorem lt1' {i : Nat} {d : DV} {δ : DSt} {k : DSt → Prop} (h : k (δ.set i (some d))) : l1 i d δ k := h
theorem Sub.at_ {G G' : DG} {p : Addr} {o : DO} (s : Sub G G') (h : G' p = some o) : Sub (dupd G p o) G' := fun a u e => by
  by_cases z : a = p
  · subst z; rw [dupd_same] at e; rw [h]; exact e
  · rw [dupd_ne z] at e; exact s a u e
theorem Sub.nonew {G G' : DG} {p : Addr} (s : Sub G G') (n : G' p = none) : G p = none := by
  cases e : G p with
  | none => rfl
  | some o => rw [s p o e] at n; cases n
theorem ne_some {G : DG} {a b : Addr} {o : DO} (h : G a = some o) (n : G b = none) : a ≠ b := fun z => by rw [z, n] at h; cases h
mutual
inductive Th where
  | num (n : Int)
  | row (ws : List Wo)
  | lst (ts : List Th)
inductive Wo where
  | txt (z : Str)
  | push (t : Th)
end
mutual
/-- how many parts in all -/
def szT : Th → Nat
  | .num _ => 1
  | .row ws => 1 + szWs ws
  | .lst ts => 1 + szTs ts
def szW : Wo → Nat
  | .txt _ => 1
  | .push t => 1 + szT t
def szWs : List Wo → Nat
  | [] => 0
  | w :: r => szW w + szWs r
def szTs : List Th → Nat
  | [] => 0
  | t :: r => szT t + szTs r
end
mutual
def dpT : Th → Nat
  | .num _ => 0
  | .row ws => 1 + dpWs ws
  | .lst ts => 1 + dpTs ts
def dpW : Wo → Nat
  | .txt _ => 0
  | .push t => dpT t
def dpWs : List Wo → Nat
  | [] => 0
  | w :: r => max (dpW w) (dpWs r)
def dpTs : List Th → Nat
  | [] => 0
  | t :: r => max (dpT t) (dpTs r)
end
mutual
/-- its texts are texts -/
def txT : Th → Bool
  | .num _ => true
  | .row ws => txWs ws
  | .lst ts => txTs ts
def txW : Wo → Bool
  | .txt z => PyData.strOk z
  | .push t => txT t
def txWs : List Wo → Bool
  | [] => true
  | w :: r => txW w && txWs r
def txTs : List Th → Bool
  | [] => true
  | t :: r => txT t && txTs r
end
/-- a row, a thing: not too deep, not too large, of texts -/
structure GW (k m : Nat) (ws : List Wo) : Prop where
  dp : dpWs ws ≤ k
  sz : szWs ws ≤ m
  tx : txWs ws = true
structure GT (k m : Nat) (t : Th) : Prop where
  dp : dpT t ≤ k
  sz : szT t ≤ m
  tx : txT t = true
structure GTs (k m : Nat) (ts : List Th) : Prop where
  dp : dpTs ts ≤ k
  sz : szTs ts ≤ m
  tx : txTs ts = true
theorem GW.nil {k m : Nat} : GW k m [] := ⟨Nat.zero_le _, Nat.zero_le _, rfl⟩
theorem GTs.nil {k m : Nat} : GTs k m [] := ⟨Nat.zero_le _, Nat.zero_le _, rfl⟩
theorem GW.txt {k : Nat} {z : Str} (h : PyData.strOk z = true) : GW k 1 [.txt z] := ⟨by show max 0 0 ≤ k; omega, Nat.le_refl 1, by show (PyData.strOk z && true) = true; rw [h]; rfl⟩
theorem GW.push {k m : Nat} {t : Th} (h : GT k m t) : GW k (m + 1) [.push t] := ⟨by show max (dpT t) 0 ≤ k; have := h.dp; omega, by show 1 + szT t + 0 ≤ m + 1; have := h.sz; omega, by show (txT t && true) = true; rw [h.tx]; rfl⟩
theorem GT.num {k m : Nat} (n : Int) (hm : 1 ≤ m) : GT k m (.num n) := ⟨Nat.zero_le _, hm, rfl⟩
theorem GT.row {k m : Nat} {ws : List Wo} (h : GW k m ws) : GT (k + 1) (m + 1) (.row ws) := ⟨by show 1 + dpWs ws ≤ _; have := h.dp; omega, by show 1 + szWs ws ≤ _; have := h.sz; omega, h.tx⟩
theorem GT.lst {k m : Nat} {ts : List Th} (h : GTs k m ts) : GT (k + 1) (m + 1) (.lst ts) := ⟨by show 1 + dpTs ts ≤ _; have := h.dp; omega, by show 1 + szTs ts ≤ _; have := h.sz; omega, h.tx⟩
/-! comparing them -/
end DD
/-! readings gone through step by step: one rule for each head -/
namespace DD
open PySem PySem.W L2 SX Cm
section
variable {nx : DSt → DG → Prop} {rt : DK} {bk ct : DSt → DG → Prop} {δ : DSt} {G : DG} {t u : TDS} {Q : DK} {QB : Bool → DG → Prop} {QA : List DV → DG → Prop} {te ta tb tc : TD} {tt tu : TDT} {ts : TDA}
theorem w_next (h : nx δ G) : dNext ⟨nx, rt, bk, ct⟩ δ G := h
theorem w_seq (h : t ⟨u ⟨nx, rt, bk, ct⟩, rt, bk, ct⟩ δ G) : dSeq t u ⟨nx, rt, bk, ct⟩ δ G := h
theorem w_break (h : bk δ G) : dBreak ⟨nx, rt, bk, ct⟩ δ G := h
theorem w_cont (h : ct δ G) : dCont ⟨nx, rt, bk, ct⟩ δ G := h
theorem w_drop (h : te δ G fun _ G1 => nx δ G1) : dDrop te ⟨nx, rt, bk, ct⟩ δ G := h
theorem w_ret (h : te δ G rt) : dRet te ⟨nx, rt, bk, ct⟩ δ G := h
theorem w_retN (h : rt .non G) : dRetN ⟨nx, rt, bk, ct⟩ δ G := h
theorem w_ifS {c : TDT} (h : c δ G fun b G1 => if b = true then t ⟨nx, rt, bk, ct⟩ δ G1 else u ⟨nx, rt, bk, ct⟩ δ G1) : dIfS c t u ⟨nx, rt, bk, ct⟩ δ G := h
theorem w_asg {i : Nat} (h : te δ G fun d G1 => nx (δ.set i (some d)) G1) : dAsg te (gN i) ⟨nx, rt, bk, ct⟩ δ G := h
theorem w_asgS (h : te δ G fun v G1 => ta δ G1 fun o G2 => tb δ G2 fun i G3 => bSet o i v G3 fun G4 => nx δ G4) : dAsg te (gSb ta tb) ⟨nx, rt, bk, ct⟩ δ G := h
theorem w_par {i j : Nat} (h : ts δ G fun ds G1 => ∃ a b, ds = [a, b] ∧ nx ((δ.set i (some a)).set j (some b)) G1) : dPar i j ts ⟨nx, rt, bk, ct⟩ δ G := h
theorem w_parE {k : DV → DV → Prop} {a b : DV} (h : k a b) : ∃ a' b', [a, b] = [a', b'] ∧ k a' b' := ⟨a, b, rfl, h⟩
/-! expressions -/
theorem w_var {i : Nat} {d : DV} (h : δ[i]? = some (some d)) (q : Q d G) : dVar i δ G Q := ⟨d, h, q⟩
theorem w_c {d : DV} (q : Q d G) : dC d δ G Q := q
theorem w_op {b : D2} (h : ta δ G fun x G1 => tb δ G1 fun y G2 => b x y G2 Q) : dOp b ta tb δ G Q := h
theorem w_call {n : Nat} {sp : DSp} (h : ts δ G fun ds G1 => ds.length = n ∧ sp ds G1 Q) : dCall n sp ts δ G Q := h
theorem w_len {n : Nat} {ds : List DV} {A : Prop} (h : A) (e : ds.length = n := by rfl) : ds.length = n ∧ A := ⟨e, h⟩
theorem w_CB {b : DC} (h : ts δ G fun ds G1 => b ds G1 Q) : dCB b ts δ G Q := h
theorem w_tup (h : ts δ G fun ds G1 => ds.length ≤ sizeLine ∧ Q (.tup ds) G1) : dTup ts δ G Q := h
theorem w_lst (h : ts δ G fun ds G1 => ds.length ≤ sizeLine ∧ ∀ p, G1 p = none → Q (.ref p) (dupd G1 p (.lst ds))) : dLst ts δ G Q := h
theorem w_sz {ds : List DV} {A : Prop} (h : A) (e : ds.length ≤ sizeLine := by decide) : ds.length ≤ sizeLine ∧ A := ⟨e, h⟩
theorem w_nil (h : QA [] G) : dNil δ G QA := h
theorem w_cons (h : te δ G fun x G1 => ts δ G1 fun xs G2 => QA (x :: xs) G2) : dCons te ts δ G QA := h
theorem w_sl {tl th : TDO} (h : te δ G fun x G1 => tl δ G1 fun l G2 => th δ G2 fun u G3 => bSl x l u G3 Q) : dSl te tl th δ G Q := h
theorem w_none {QO : Option Int → DG → Prop} (h : QO none G) : dNone δ G QO := h
theorem w_some {QO : Option Int → DG → Prop} (h : te δ G fun d G' => ∃ i, d = .int i ∧ QO (some i) G') : dSome te δ G QO := h
theorem w_exI {k : Int → Prop} {i : Int} (h : k i) : ∃ j, DV.int i = .int j ∧ k j := ⟨i, rfl, h⟩
theorem w_exB {k : Bool → Prop} {i : Bool} (h : k i) : ∃ j, DV.bl i = .bl j ∧ k j := ⟨i, rfl, h⟩
theorem w_exT {k : List DV → Prop} {i : List DV} (h : k i) : ∃ j, DV.tup i = .tup j ∧ k j := ⟨i, rfl, h⟩
theorem w_exS {k : Str → Prop} {i : Str} (h : k i) : ∃ j, DV.str i = .str j ∧ k j := ⟨i, rfl, h⟩
theorem w_rev (h : te δ G fun x G1 => ∃ ds, x = .tup ds ∧ Q (.tup ds.reverse) G1) : dRev te δ G Q := h
theorem w_neg (h : te δ G fun x G1 => ∃ i, x = .int i ∧ Q (.int (-i)) G1) : dNeg te δ G Q := h
theorem w_ifE (h : tt δ G fun c G1 => if c = true then ta δ G1 Q else tb δ G1 Q) : dIf tt ta tb δ G Q := h
theorem w_andV (h : ta δ G fun x G1 => ∃ c, x = .bl c ∧ if c = true then tb δ G1 Q else Q (.bl false) G1) : dAndV ta tb δ G Q := h
theorem w_orV (h : ta δ G fun x G1 => ∃ c, x = .bl c ∧ if c = true then Q (.bl true) G1 else tb δ G1 Q) : dOrV ta tb δ G Q := h
theorem w_notV (h : ta δ G fun x G1 => ∃ c, x = .bl c ∧ Q (.bl (!c)) G1) : dNotV ta δ G Q := h
theorem w_BM {T : String} {b : DM} (h : te δ G fun x G1 => rcv T x G1 ∧ ts δ G1 fun ds G2 => b x ds G2 Q) : dBM T b te ts δ G Q := h
theorem w_BM0 {T : String} {b : DM} (h : te δ G fun x G1 => rcv T x G1 ∧ b x [] G1 Q) : dBM0 T b te δ G Q := h
theorem w_rcvS {z : Str} {A : Prop} (h : A) : rcv "str" (.str z) G ∧ A := ⟨rfl, h⟩
theorem w_rcvL {p : Addr} {ds : List DV} {A : Prop} (e : G p = some (.lst ds)) (h : A) : rcv "list" (.ref p) G ∧ A := ⟨.inl ⟨rfl, ds, .inl e⟩, h⟩
/-! tests -/
theorem w_test (h : te δ G fun d G' => ∃ k, d = .bl k ∧ QB k G') : dTest te δ G QB := h
theorem w_tru (h : te δ G fun d G' => bTru d G' QB) : dTru te δ G QB := h
theorem w_and (h : tt δ G fun c G1 => if c = true then tu δ G1 QB else QB false G1) : dAnd tt tu δ G QB := h
theorem w_or (h : tt δ G fun c G1 => if c = true then QB true G1 else tu δ G1 QB) : dOr tt tu δ G QB := h
theorem w_not (h : tt δ G fun c G1 => QB (!c) G1) : dNot tt δ G QB := h
theorem w_yes (h : QB true G) : dYes δ G QB := h
theorem w_truB {b : Bool} (h : QB b G) : bTru (.bl b) G QB := h
theorem w_truI {i : Int} (h : QB (i != 0) G) : bTru (.int i) G QB := h
theorem w_truN (h : QB false G) : bTru .non G QB := h
theorem w_truT {ds : List DV} (h : QB (!ds.isEmpty) G) : bTru (.tup ds) G QB := h
theorem w_truL {p : Addr} {ds : List DV} (e : G p = some (.lst ds)) (h : QB (!ds.isEmpty) G) : bTru (.ref p) G QB := .inl ⟨ds, .inl e, h⟩
/-! operators -/
theorem w_addI {i j : Int} (h : Q (.int (i + j)) G) : bAdd (.int i) (.int j) G Q := h
theorem w_subI {i j : Int} (h : Q (.int (i - j)) G) : bSub (.int i) (.int j) G Q := h
theorem w_int {C : Int → Int → Prop} {g : Int → Int → DV} {i j : Int} (c : C i j) (h : Q (g i j) G) : bInt C g (.int i) (.int j) G Q := ⟨c, h⟩
theorem w_cmpI {g : Int → Int → Bool} {s : List Nat → List Nat → Bool} {i j : Int} (h : Q (.bl (g i j)) G) : bCmp g s (.int i) (.int j) G Q := h
theorem w_cmpS {g : Int → Int → Bool} {s : List Nat → List Nat → Bool} {i j : Str} (h : Q (.bl (s i.cps.toList j.cps.toList)) G) : bCmp g s (.str i) (.str j) G Q := h
theorem w_eqSS {a b : Str} (h : Q (.bl (decide (a = b))) G) : bEq false (.str a) (.str b) G Q := h
theorem w_eqII {a b : Int} (h : Q (.bl (decide (a = b))) G) : bEq false (.int a) (.int b) G Q := h
theorem w_eqBB {a b : Bool} (h : Q (.bl (decide (a = b))) G) : bEq false (.bl a) (.bl b) G Q := h
theorem w_neSS {a b : Str} (h : Q (.bl (!decide (a = b))) G) : bEq true (.str a) (.str b) G Q := h
theorem w_neII {a b : Int} (h : Q (.bl (!decide (a = b))) G) : bEq true (.int a) (.int b) G Q := h
theorem w_neBB {a b : Bool} (h : Q (.bl (!decide (a = b))) G) : bEq true (.bl a) (.bl b) G Q := h
theorem w_eqSN {a : Str} {n : Bool} (h : Q (.bl n) G) : bEq n (.str a) .non G Q := h
theorem w_eqIN {a : Int} {n : Bool} (h : Q (.bl n) G) : bEq n (.int a) .non G Q := h
theorem w_eqSI {a : Str} {b : Int} {n : Bool} (h : Q (.bl n) G) : bEq n (.str a) (.int b) G Q := h
theorem w_eqIS {a : Int} {b : Str} {n : Bool} (h : Q (.bl n) G) : bEq n (.int a) (.str b) G Q := h
theorem w_eqNS {b : Str} {n : Bool} (h : Q (.bl n) G) : bEq n .non (.str b) G Q := h
theorem w_eqBS {a : Bool} {b : Str} {n : Bool} (h : Q (.bl n) G) : bEq n (.bl a) (.str b) G Q := h
theorem w_eqT0 {a : List DV} (h : Q (.bl a.isEmpty) G) : bEq false (.tup a) (.tup []) G Q := .inl ⟨rfl, rfl, h⟩
theorem w_isN {x : DV} (h : Q (.bl (decide (x = .non))) G) : bIs false x .non G Q := by cases x <;> exact h
theorem w_isnN {x : DV} (h : Q (.bl (!decide (x = .non))) G) : bIs true x .non G Q := by cases x <;> exact h
theorem w_ix0 {a : DV} {r : List DV} (h : Q a G) : bIx (.tup (a :: r)) (.int 0) G Q := ⟨a, atI_nat (j := 0) rfl, h⟩
theorem w_ix1 {a b : DV} {r : List DV} (h : Q b G) : bIx (.tup (a :: b :: r)) (.int 1) G Q := ⟨b, atI_nat (j := 1) rfl, h⟩
theorem w_ix2 {a b c : DV} {r : List DV} (h : Q c G) : bIx (.tup (a :: b :: c :: r)) (.int 2) G Q := ⟨c, atI_nat (j := 2) rfl, h⟩
theorem w_ix3 {a b c d : DV} {r : List DV} (h : Q d G) : bIx (.tup (a :: b :: c :: d :: r)) (.int 3) G Q := ⟨d, atI_nat (j := 3) rfl, h⟩
theorem w_ixL {p : Addr} {ds : List DV} {i : Int} {d : DV} (e : G p = some (.lst ds)) (l : atI ds i = some d) (h : Q d G) : bIx (.ref p) (.int i) G Q := .inl ⟨ds, d, .inl e, l, h⟩
theorem w_slT {ds : List DV} {lo hi : Option Int} (h : Q (.tup (cutD ds lo hi)) G) : bSl (.tup ds) lo hi G Q := h
/-! calls -/
theorem w_lenT {ds : List DV} (h : Q (.int ds.length) G) : bLen [.tup ds] G Q := h
theorem w_lenL {p : Addr} {ds : List DV} (e : G p = some (.lst ds)) (h : Q (.int ds.length) G) : bLen [.ref p] G Q := .inl ⟨ds, .inl e, h⟩
theorem w_isi {x : DV} {t : String} {a : String} {b : Bool} (ht : t ∈ tysK) (ha : TyAt G x a) (hb : tyB a t = b) (h : Q (.bl b) G) : bIsi [x, .ty t] G Q := ⟨ht, a, b, ha, hb, h⟩
theorem w_intB {k : Bool} (h : Q (.int (if k = true then 1 else 0)) G) : bInt1 [.bl k] G Q := h
theorem w_intI {k : Int} (h : Q (.int k) G) : bInt1 [.int k] G Q := h
theorem w_tupT {ds : List DV} (h : Q (.tup ds) G) : bTuple [.tup ds] G Q := h
theorem w_tupL {p : Addr} {ds : List DV} (e : G p = some (.lst ds)) (h : Q (.tup ds) G) : bTuple [.ref p] G Q := ⟨ds, .inl e, h⟩
/-! loops -/
/-- what a loop over ds wants -/
def ForG (ds : List DV) (st : DG → Prop) (tg : TDG) (tb : TDS) (nx : DSt → DG → Prop) (rt : DK) (δ : DSt) (G : DG) : Prop := ∃ Pv : Nat → DSt → DG → Prop, Pv 0 δ G ∧ (∀ i δ G, Pv i δ G → st G) ∧
  (∀ i d δ G, ds[i]? = some d → Pv i δ G → tg d δ G fun δ2 G2 => tb ⟨Pv (i + 1), rt, nx, Pv (i + 1)⟩ δ2 G2) ∧ (∀ δ G, Pv ds.length δ G → nx δ G)
theorem w_for {tg : TDG} {tb : TDS} {ti : TDI} (h : ti δ G fun ds st G1 => ForG ds st tg tb nx rt δ G1) : dFor ti tg tb ⟨nx, rt, bk, ct⟩ δ G := h
/-- what a comprehension over ds wants -/
def LcG (ds : List DV) (st : DG → Prop) (ld : TL) (tt : TDT) (te : TD) (δ : DSt) (G1 : DG) (Q : DK) : Prop := ∀ p, G1 p = none → ∃ Pv : Nat → List DV → DG → Prop, Pv 0 [] (dupd G1 p (.lst [])) ∧ (∀ i acc G, Pv i acc G → st G) ∧
  (∀ i d acc G, ds[i]? = some d → Pv i acc G → ld d δ fun δ2 => tt δ2 G fun b G3 => if b = true then te δ2 G3 fun y G4 => G4 p = some (.lst acc) ∧ acc.length < sizeLine ∧ Pv (i + 1) (acc ++ [y]) (dupd G4 p (.lst (acc ++ [y]))) else Pv (i + 1) acc G3) ∧
  (∀ acc G, Pv ds.length acc G → Q (.ref p) G)
theorem w_lc {ti : TDI} {ld : TL} {vs : List Nat} (h : ti δ G fun ds st G1 => LcG ds st ld tt te (wipeD δ vs) G1 Q) : dLc ti ld tt te vs δ G Q := h
variable {RI : List DV → (DG → Prop) → DG → Prop}
theorem wi_tup (h : te δ G fun d G1 => ∃ ds, d = .tup ds ∧ RI ds (fun _ => True) G1) : dITup te δ G RI := h
theorem wi_lst (h : te δ G fun d G1 => ∃ p ds, d = .ref p ∧ Ls G1 p ds ∧ RI ds (fun G => Ls G p ds) G1) : dIList te δ G RI := h
theorem wi_str (h : te δ G fun d G1 => ∃ z, d = .str z ∧ RI (signs z) (fun _ => True) G1) : dIStr te δ G RI := h
theorem wi_rng (h : ts δ G fun ds G1 => ∃ j : Int, ds = [.int j] ∧ -(2 ^ 62) ≤ j ∧ j < 2 ^ 62 ∧ RI (rng 0 j.toNat) (fun _ => True) G1) : dIRng ts δ G RI := h
theorem wi_rng2 (h : ts δ G fun ds G1 => ∃ i j : Int, ds = [.int i, .int j] ∧ (-(2 ^ 62) ≤ i ∧ i < 2 ^ 62 ∧ -(2 ^ 62) ≤ j ∧ j < 2 ^ 62) ∧ RI (rng i (j - i).toNat) (fun _ => True) G1) : dIRng2 ts δ G RI := h
theorem wi_enumT (h : ts δ G fun xs G1 => ∃ ds, xs = [.tup ds] ∧ RI (nmbd ds) (fun _ => True) G1) : dIEnumT ts δ G RI := h
theorem wi_enum (h : ts δ G fun xs G1 => ∃ p ds, xs = [.ref p] ∧ Ls G1 p ds ∧ RI (nmbd ds) (fun G => Ls G p ds) G1) : dIEnum ts δ G RI := h
theorem wi_rev (h : ts δ G fun xs G1 => ∃ p ds, xs = [.ref p] ∧ Ls G1 p ds ∧ RI ds.reverse (fun G => Ls G p ds) G1) : dIRev ts δ G RI := h
theorem wi_revR (h : ts δ G fun ds G1 => ∃ j : Int, ds = [.int j] ∧ 0 ≤ j ∧ j < 2 ^ 62 ∧ RI (rng 0 j.toNat).reverse (fun _ => True) G1) : dIRevR ts δ G RI := h
theorem wx_rng {k : Int → Prop} {j : Int} (h1 : -(2 ^ 62) ≤ j) (h2 : j < 2 ^ 62) (h : k j) : ∃ j' : Int, [DV.int j] = [.int j'] ∧ -(2 ^ 62) ≤ j' ∧ j' < 2 ^ 62 ∧ k j' := ⟨j, rfl, h1, h2, h⟩
theorem wx_lst {k : Addr → List DV → Prop} {p : Addr} {ds : List DV} (e : G p = some (.lst ds)) (h : k p ds) : ∃ p' ds', DV.ref p = .ref p' ∧ Ls G p' ds' ∧ k p' ds' := ⟨p, ds, rfl, .inl e, h⟩
theorem wx_lstA {k : Addr → List DV → Prop} {p : Addr} {ds : List DV} (e : G p = some (.lst ds)) (h : k p ds) : ∃ p' ds', [DV.ref p] = [.ref p'] ∧ Ls G p' ds' ∧ k p' ds' := ⟨p, ds, rfl, .inl e, h⟩
theorem wx_enumT {k : List DV → Prop} {ds : List DV} (h : k ds) : ∃ ds', [DV.tup ds] = [.tup ds'] ∧ k ds' := ⟨ds, rfl, h⟩
/-- a loop with its invariant -/
theorem for_by {ds : List DV} {st : DG → Prop} {tg : TDG} {tb : TDS} (Pv : Nat → DSt → DG → Prop) (hst : ∀ i δ G, Pv i δ G → st G) (p0 : Pv 0 δ G)
  (ps : ∀ i d δ G, ds[i]? = some d → Pv i δ G → tg d δ G fun δ2 G2 => tb ⟨Pv (i + 1), rt, nx, Pv (i + 1)⟩ δ2 G2) (pd : ∀ δ G, Pv ds.length δ G → nx δ G) : ForG ds st tg tb nx rt δ G := ⟨Pv, p0, hst, ps, pd⟩
/-- elements that leave the store as it is: each told by E (or left out, where f says so) -/
theorem lcg_pure {ds : List DV} {st : DG → Prop} {ld : TL} {G1 : DG} (f : DV → Option DV) (hsc : ∀ p o, G1 p = none → st (dupd G1 p o)) (hl : ds.length ≤ 1000000)
    (h : ∀ d ∈ ds, ∀ (G : DG) (k1 : DK) (k0 : DG → Prop), (∃ p acc, G1 p = none ∧ G = dupd G1 p (.lst acc)) → (∀ y, f d = some y → k1 y G) → (f d = none → k0 G) →
      ld d δ fun δ2 => tt δ2 G fun b G3 => if b = true then te δ2 G3 k1 else k0 G3)
    (q : ∀ p, G1 p = none → Q (.ref p) (dupd G1 p (.lst (ds.filterMap f)))) : LcG ds st ld tt te δ G1 Q := by
  have := lc_pure (ds := ds) (st := st) (ld := ld) (tt := tt) (te := te) (vs := []) (δ := δ) (G1 := G1) (Q := Q) f hsc hl h q
  exact this
theorem lcg_each {ds : List DV} {st : DG → Prop} {ld : TL} {G1 : DG} (E : Nat → DV → Prop) (hsc : ∀ p o, G1 p = none → st (dupd G1 p o)) (hl : ds.length ≤ 1000000)
    (h : ∀ i d, ds[i]? = some d → ∀ (G : DG) (k1 : DK) (k0 : DG → Prop), (∃ p acc, G1 p = none ∧ G = dupd G1 p (.lst acc)) → (∀ y, E i y → k1 y G) →
      ld d δ fun δ2 => tt δ2 G fun b G3 => if b = true then te δ2 G3 k1 else k0 G3)
    (q : ∀ p acc, G1 p = none → acc.length = ds.length → (∀ i y, acc[i]? = some y → E i y) → Q (.ref p) (dupd G1 p (.lst acc))) : LcG ds st ld tt te δ G1 Q := by
  intro p np
  refine ⟨fun i acc G => acc.length = i ∧ i ≤ ds.length ∧ (∀ j y, acc[j]? = some y → E j y) ∧ G = dupd G1 p (.lst acc), ⟨rfl, Nat.zero_le _, (fun _ _ h => nomatch h), rfl⟩, fun i acc G ⟨_, _, _, e⟩ => by rw [e]; exact hsc p _ np, ?_, ?_⟩
  · rintro i d acc G hd ⟨ea, hi, he, rfl⟩
    have hlt : i < ds.length := (List.getElem?_eq_some_iff.mp hd).1
    refine h i d hd _ _ _ ⟨p, acc, np, rfl⟩ fun y hy => ⟨dupd_same, midlt (by omega), ?_, hlt, ?_, dupd_dupd⟩
    · rw [List.length_append, ea]; rfl
    · intro j z hz
      by_cases hj : j < acc.length
      · rw [List.getElem?_append_left hj] at hz; exact he j z hz
      · have hj' := (List.getElem?_eq_some_iff.mp hz).1
        rw [List.length_append, List.length_singleton] at hj'
        have : j = i := by omega
        subst this
        rw [List.getElem?_append_right (by omega), ea, Nat.sub_self] at hz
        cases hz
        exact hy
  · rintro acc G ⟨ea, _, he, rfl⟩
    exact q p acc np ea he
theorem g_n {d : DV} {i : Nat} {k : DSt → DG → Prop} (h : k (δ.set i (some d)) G) : gN i d δ G k := h
theorem w_it {b : Bool} {A B : Prop} (e : b = true) (h : A) : if b = true then A else B := by subst e; exact iteT h
theorem w_if0 {b : Bool} {A B : Prop} (e : b = false) (h : B) : if b = true then A else B := by subst e; exact iteF h
end
end DD
namespace DD
open PySem PySem.W L2
theorem ne_ns {G : DG} {a b : Addr} (n : G b = none) (h : ∃ o, G a = some o) : a ≠ b := by
  obtain ⟨o, h⟩ := h
  exact ne_some h n
theorem ne_sn {G : DG} {a b : Addr} (n : G b = none) (h : ∃ o, G a = some o) : b ≠ a := (ne_ns n h).symm
theorem szl {n : Nat} (h : n.ble 64 = true) : n ≤ sizeLine := by
  have := Nat.le_of_ble_eq_true h
  have : 64 ≤ sizeLine := by decide
  omega
end DD
namespace DD
open PySem PySem.W L2
end DD
namespace DD
open PySem PySem.W L2
theorem nn_ {G G' : DG} {p : Addr} (n : G' p = none) (s : Sub G G') : G p = none := s.nonew n
theorem lt2' {i j : Nat} {a b : DV} {δ : DSt} {k : DSt → Prop} (h : k ((δ.set i (some a)).set j (some b))) : l2 i j (.tup [a, b]) δ k := ⟨a, b, rfl, h⟩
theorem Less.mk {R : DK} {d : DV} {G G' : DG} (s : Sub G G') (h : R d G) : Less R d G' := ⟨G, s, h⟩
end DD
namespace DD
open PySem PySem.W L2
end DD
namespace DD
open PySem PySem.W L2
theorem decq {p q : Prop} [Decidable p] [Decidable q] (h : p ↔ q) : decide p = decide q := by
  by_cases e : p
  · rw [decide_eq_true e, decide_eq_true (h.mp e)]
  · rw [decide_eq_false e, decide_eq_false (fun z => e (h.mpr z))]
theorem cmps_of {ds : List DV} (c : Cmp (.tup ds)) : Cmps ds := ⟨c.pu, c.tx, by have := c.dp; have e : dpt (.tup ds) = 1 + dpts ds := rfl; omega⟩
theorem bEq_plain {n : Bool} {x y : DV} {G : DG} {Q : DK} (px : plain x = true) (py : plain y = true) (cx : Cmp x) (cy : Cmp y) (h : Q (.bl (ng n (decide (x = y)))) G) : bEq n x y G Q := by
  have gen : Cmp x ∧ Cmp y ∧ Q (.bl (ng n (PyData.eqv (dat x) (dat y)))) G := ⟨cx, cy, by rw [eqv_plain x y px py]; exact h⟩
  have no : decide (x = y) = false → Q (.bl n) G := fun e => by rw [e] at h; cases n <;> exact h
  cases x with
  | non => cases y with
    | str b => exact no (decide_eq_false (by intro z; cases z))
    | _ => exact gen
  | bl a => cases px
  | ref a => cases px
  | ty a => cases px
  | int a => cases y with
    | int b => show Q (.bl (ng n (decide (a = b)))) G; rw [← decq (p := DV.int a = .int b) ⟨fun z => DV.int.inj z, fun z => by rw [z]⟩]; exact h
    | non => exact no (decide_eq_false (by intro z; cases z))
    | str b => exact no (decide_eq_false (by intro z; cases z))
    | _ => exact gen
  | str a => cases y with
    | str b => show Q (.bl (ng n (decide (a = b)))) G; rw [← decq (p := DV.str a = .str b) ⟨fun z => DV.str.inj z, fun z => by rw [z]⟩]; exact h
    | non => exact no (decide_eq_false (by intro z; cases z))
    | int b => exact no (decide_eq_false (by intro z; cases z))
    | _ => exact gen
  | tup a => cases y with
    | tup b =>
      refine .inr ⟨cmps_of cx, cmps_of cy, ?_⟩
      rw [eqvs_plain a b px py, ← decq (p := DV.tup a = .tup b) ⟨fun z => DV.tup.inj z, fun z => by rw [z]⟩]; exact h
    | _ => exact gen
theorem w_neP {x y : DV} {G : DG} {Q : DK} (px : plain x = true) (py : plain y = true) (cx : Cmp x) (cy : Cmp y) (h : Q (.bl (!decide (x = y))) G) : bEq true x y G Q := bEq_plain px py cx cy h
end DD
/-! dicts with texts as keys -/
namespace DD
open PySem PySem.W L2 SX Cm
def valD (kvs : List (Key × DV)) (k : Key) : Option DV := (kvs.find? fun kv => decide (kv.1 = k)).map (·.2)
def putD (kvs : List (Key × DV)) (k : Key) (v : DV) : List (Key × DV) :=
  if (kvs.any fun kv => decide (kv.1 = k)) = true then kvs.map (fun kv => if kv.1 = k then (kv.1, v) else kv) else kvs ++ [(k, v)]
section
variable {K : Frag} {H : Hp}
theorem KRV.any {vs : List (Key × V)} {ds : List (Key × DV)} (r : KRV K H vs ds) (k : Key) : (vs.any fun kv => decide (kv.1 = k)) = ds.any fun kv => decide (kv.1 = k) := by
  induction r with
  | nil => rfl
  | cons h t ih => rw [List.any_cons, List.any_cons, ih]
theorem KRV.map {vs : List (Key × V)} {ds : List (Key × DV)} (r : KRV K H vs ds) (k : Key) {y : V} {u : DV} (ry : RV K H y u) : KRV K H (vs.map fun kv => if kv.1 = k then (kv.1, y) else kv) (ds.map fun kv => if kv.1 = k then (kv.1, u) else kv) := by
  induction r with
  | nil => exact .nil
  | @cons k' v d vs ds h t ih =>
    rw [List.map_cons, List.map_cons]
    by_cases e : k' = k
    · rw [if_pos e, if_pos e]; exact .cons ry ih
    · rw [if_neg e, if_neg e]; exact .cons h ih
theorem KRV.append {vs vs' : List (Key × V)} {ds ds' : List (Key × DV)} (r : KRV K H vs ds) (r' : KRV K H vs' ds') : KRV K H (vs ++ vs') (ds ++ ds') := by
  induction r with
  | nil => exact r'
  | cons h t ih => exact .cons h ih
theorem KRV.put {vs : List (Key × V)} {ds : List (Key × DV)} (r : KRV K H vs ds) (k : Key) {y : V} {u : DV} (ry : RV K H y u) : KRV K H (putK vs k y) (putD ds k u) := by
  unfold putK putD
  rw [r.any k]
  split
  · exact r.map k ry
  · exact r.append (.cons ry .nil)
end
def keyD (z : Str) : Key := .inr z
section
variable {X : Cx}
def dDNew : TD := fun _ G Q => ∀ p, G p = none → Q (.ref p) (dupd G p (.dct []))
variable {o i e e2 value : Expr} {pos pos' apos cpos : Pos} {td ti tv : TD}
def dDGet (td ti : TD) : TD := fun δ G Q => td δ G fun x G1 => ti δ G1 fun y G2 => ∃ p kvs z v, x = .ref p ∧ y = .str z ∧ G2 p = some (.dct kvs) ∧ valD kvs (keyD z) = some v ∧ Q v G2
def dDGet2 (td ti tv : TD) : TD := fun δ G Q => td δ G fun x G1 => ∃ p, x = .ref p ∧ (∃ kvs, G1 p = some (.dct kvs)) ∧ ti δ G1 fun y G2 => tv δ G2 fun u G3 => ∃ kvs z, y = .str z ∧ G3 p = some (.dct kvs) ∧ Q ((valD kvs (keyD z)).getD u) G3
def dDIn (n : Bool) (ti td : TD) : TD := fun δ G Q => ti δ G fun y G1 => td δ G1 fun x G2 => ∃ p kvs z, x = .ref p ∧ y = .str z ∧ G2 p = some (.dct kvs) ∧ Q (.bl (ng n (valD kvs (keyD z)).isSome)) G2
def dDPut (td ti tv : TD) : TDS := fun D δ G => tv δ G fun v G1 => td δ G1 fun x G2 => ti δ G2 fun y G3 => ∃ p kvs z, x = .ref p ∧ y = .str z ∧ G3 p = some (.dct kvs) ∧ kvs.length < sizeLine ∧ D.nx δ (dupd G3 p (.dct (putD kvs (keyD z) v)))
end
end DD
/-! tuple(d) of a dict: its keys -/
namespace DD
open PySem PySem.Spec PyProof.Rows PySem.W
end DD
namespace DD
open PySem PySem.W L2 SX Cm
/-! ### comprehensions that make dicts -/
def DcG (ds : List DV) (st : DG → Prop) (ld : TL) (tt : TDT) (tk tv : TD) (δ : DSt) (G1 : DG) (Q : DK) : Prop := ∀ p, G1 p = none → ∃ Pv : Nat → List (Key × DV) → DG → Prop, Pv 0 [] (dupd G1 p (.dct [])) ∧ (∀ i kvs G, Pv i kvs G → st G) ∧
  (∀ i d kvs G, ds[i]? = some d → Pv i kvs G → ld d δ fun δ2 => tt δ2 G fun b G3 => if b = true then tk δ2 G3 fun y G4 => tv δ2 G4 fun u G5 => ∃ z, y = .str z ∧ G5 p = some (.dct kvs) ∧ kvs.length < sizeLine ∧ Pv (i + 1) (putD kvs (keyD z) u) (dupd G5 p (.dct (putD kvs (keyD z) u))) else Pv (i + 1) kvs G3) ∧
  (∀ kvs G, Pv ds.length kvs G → Q (.ref p) G)
def dDc (ti : TDI) (ld : TL) (tt : TDT) (tk tv : TD) (vs : List Nat) : TD := fun δ G Q => ti δ G fun ds st G1 => DcG ds st ld tt tk tv (wipeD δ vs) G1 Q
theorem w_dc {ti : TDI} {ld : TL} {tt : TDT} {tk tv : TD} {vs : List Nat} {δ : DSt} {G : DG} {Q : DK} (h : ti δ G fun ds st G1 => DcG ds st ld tt tk tv (wipeD δ vs) G1 Q) : dDc ti ld tt tk tv vs δ G Q := h
end DD
namespace Cm
open PySem PySem.W L2 SX
/-! ### xs[a:] = ys, another list -/
end Cm
/-! del xs[a:] -/
namespace Cm
open PySem PySem.W L2 SX
end Cm
namespace DD
open PySem PySem.W L2 SX Cm
section
variable {X : Cx}
def dDelT (to tl : TD) : TDS := fun D δ G => to δ G fun x G1 => tl δ G1 fun y G2 => ∃ (l : Addr) (a : Int) (xs : List DV), x = .ref l ∧ y = .int a ∧ G2 l = some (.lst xs) ∧ 0 ≤ a ∧ a ≤ xs.length ∧ D.nx δ (dupd G2 l (.lst (xs.take a.toNat)))
end
theorem w_delT {nx : DSt → DG → Prop} {rt : DK} {bk ct : DSt → DG → Prop} {δ : DSt} {G : DG} {to tl : TD} (h : to δ G fun x G1 => tl δ G1 fun y G2 => ∃ (l : Addr) (a : Int) (xs : List DV), x = .ref l ∧ y = .int a ∧ G2 l = some (.lst xs) ∧ 0 ≤ a ∧ a ≤ xs.length ∧ nx δ (dupd G2 l (.lst (xs.take a.toNat)))) : dDelT to tl ⟨nx, rt, bk, ct⟩ δ G := h
end DD
/-! methods of texts over data -/
namespace DD
open PySem PySem.W L2 SX Cm
end DD
/-! kinds as they are, and as data -/
namespace DD
open PySem PySem.W L2 SX Cm
mutual
inductive Kd where
  | num
  | opn (z : Str)
  | lst (k : Kd)
  | row (a b : Sk)
inductive Sk where
  | mk (r : Str) (ks : List Kd)
end
mutual
/-- its open things and its rests -/
def NK (P R : Str → Prop) : Kd → Prop
  | .num => True
  | .opn z => P z
  | .lst k => NK P R k
  | .row a b => NS P R a ∧ NS P R b
def NS (P R : Str → Prop) : Sk → Prop
  | .mk r ks => R r ∧ NKs P R ks
def NKs (P R : Str → Prop) : List Kd → Prop
  | [] => True
  | k :: r => NK P R k ∧ NKs P R r
end
mutual
theorem NK.imp {P R P' R' : Str → Prop} (hp : ∀ z, P z → P' z) (hr : ∀ z, R z → R' z) : ∀ k, NK P R k → NK P' R' k
  | .num, _ => trivial
  | .opn z, h => hp z h
  | .lst k, h => NK.imp hp hr k h
  | .row a b, h => ⟨NS.imp hp hr a h.1, NS.imp hp hr b h.2⟩
theorem NS.imp {P R P' R' : Str → Prop} (hp : ∀ z, P z → P' z) (hr : ∀ z, R z → R' z) : ∀ k, NS P R k → NS P' R' k
  | .mk r ks, h => ⟨hr r h.1, NKs.imp hp hr ks h.2⟩
theorem NKs.imp {P R P' R' : Str → Prop} (hp : ∀ z, P z → P' z) (hr : ∀ z, R z → R' z) : ∀ k, NKs P R k → NKs P' R' k
  | [], _ => trivial
  | k :: r, h => ⟨NK.imp hp hr k h.1, NKs.imp hp hr r h.2⟩
end
/-! ### filling -/
/-! one filling and then another one -/
/-! ### marks -/
/-! ### comparing kinds -/
end DD
/-! decks of the form [cells, number, number], as a thing of the store -/
namespace DD
open PySem PySem.W L2 SX Cm
/-- a deck stands at d, its cells at c -/
structure Deck (H : Hp) (d c : Addr) : Prop where
  ne : d ≠ c
  at_ : ∃ (s k : Int), H d = some (.lst [.ref c, .int s, .int k])
  cells : ∃ ms : List Int, H c = some (.lst (ms.map V.int)) ∧ ms.length ≤ 1000
theorem Deck.new {H : Hp} {d c p : Addr} {o : HO} (D : Deck H d c) (h : H p = none) : Deck (upd H p o) d c := by
  obtain ⟨s, k, e⟩ := D.at_
  obtain ⟨ms, e2, l⟩ := D.cells
  exact ⟨D.ne, ⟨s, k, kn e h⟩, ms, kn e2 h, l⟩
theorem Deck.same {H H' : Hp} {d c : Addr} (D : Deck H d c) (s : Same H H') : Deck H' d c := by
  obtain ⟨a, k, e⟩ := D.at_
  obtain ⟨ms, e2, l⟩ := D.cells
  exact ⟨D.ne, ⟨a, k, s _ _ e⟩, ms, s _ _ e2, l⟩
theorem Deck.nd {H : Hp} {d c p : Addr} (D : Deck H d c) (h : H p = none) : p ∉ [d, c] := by
  obtain ⟨a, k, e⟩ := D.at_
  obtain ⟨ms, e2, l⟩ := D.cells
  intro z
  rcases List.mem_cons.mp z with z | z
  · rw [z, e] at h; cases h
  · rw [List.mem_singleton.mp z, e2] at h; cases h
theorem Deck.put {H : Hp} {d c p : Addr} {o : HO} (D : Deck H d c) (h : p ∉ [d, c]) : Deck (upd H p o) d c := by
  obtain ⟨s, k, e⟩ := D.at_
  obtain ⟨ms, e2, l⟩ := D.cells
  have h1 : d ≠ p := fun z => h (by rw [← z]; exact List.mem_cons_self ..)
  have h2 : c ≠ p := fun z => h (by rw [← z]; exact List.mem_cons_of_mem _ (List.mem_singleton.mpr rfl))
  exact ⟨D.ne, ⟨s, k, by rw [upd_ne h1]; exact e⟩, ms, by rw [upd_ne h2]; exact e2, l⟩
section
def spDeck (K : PySem.W.Frag) : Sp := fun vs H Q _ => ∃ (a : Addr) (ns : List Int), vs = [.ref a] ∧ SqL K H a (ns.map V.int) ∧ ns.length ≤ 63 ∧
  ∀ (d c : Addr) (H' : Hp), Same H H' → H d = none → H c = none → Deck H' d c → Q (.ref d) H'
def spTake : Sp := fun vs H Q _ => ∃ (d c : Addr) (m : Int), vs = [.ref d, .int m] ∧ Deck H d c ∧ 0 < m ∧ m < 2 ^ 64 ∧
  ∀ (r : Int) (H' : Hp), 0 ≤ r → r < m → Kp [d, c] H H' → Deck H' d c → Q (.int r) H'
end
def dkO (d c : Addr) : DO := .abs [d, c] (fun H => Deck H d c)
theorem deck_loc {d c : Addr} (H1 H2 : Hp) (h : ∀ b ∈ [d, c], H1 b = H2 b) (D : Deck H1 d c) : Deck H2 d c := by
  obtain ⟨s, k, e⟩ := D.at_
  obtain ⟨ms, e2, l⟩ := D.cells
  exact ⟨D.ne, ⟨s, k, by rw [← h d (List.mem_cons_self ..)]; exact e⟩, ms, by rw [← h c (List.mem_cons_of_mem _ (List.mem_singleton.mpr rfl))]; exact e2, l⟩
theorem deck_lst {H : Hp} {d c : Addr} (D : Deck H d c) : ∀ b ∈ [d, c], ∃ xs, H b = some (.lst xs) := fun b hb => by
  obtain ⟨s, k, e⟩ := D.at_
  obtain ⟨ms, e2, l⟩ := D.cells
  rcases List.mem_cons.mp hb with z | z
  · rw [z]; exact ⟨_, e⟩
  · rw [List.mem_singleton.mp z]; exact ⟨_, e2⟩
/-- there is a deck -/
def HasDk (G : DG) (d : Addr) : Prop := ∃ c, G d = some (dkO d c)
def SP_draw : DSp := fun ds G R => ∃ d m, ds = [.ref d, .int m] ∧ HasDk G d ∧ 0 < m ∧ m < 2 ^ 64 ∧ ∀ r, 0 ≤ r → r < m → R (.int r) G
theorem HasDk.new {G : DG} {d p : Addr} {o : DO} (h : HasDk G d) (n : G p = none) : HasDk (dupd G p o) d := by
  obtain ⟨c, h⟩ := h
  exact ⟨c, by rw [dupd_ne (ne_some h n)]; exact h⟩
theorem HasDk.put {G : DG} {d p : Addr} {o : DO} (h : HasDk G d) (n : d ≠ p) : HasDk (dupd G p o) d := by
  obtain ⟨c, h⟩ := h
  exact ⟨c, by rw [dupd_ne n]; exact h⟩
theorem HasDk.sub {G G' : DG} {d : Addr} (h : HasDk G d) (s : Sub G G') : HasDk G' d := by
  obtain ⟨c, h⟩ := h
  exact ⟨c, s _ _ h⟩
theorem HasDk.ne {G : DG} {d p : Addr} {ds : List DV} (h : HasDk G d) (e : G p = some (.lst ds)) : d ≠ p := fun z => by
  obtain ⟨c, h⟩ := h
  rw [z, e] at h; cases h
theorem HasDk.neD {G : DG} {d p : Addr} {ds : List (Key × DV)} (h : HasDk G d) (e : G p = some (.dct ds)) : d ≠ p := fun z => by
  obtain ⟨c, h⟩ := h
  rw [z, e] at h; cases h
def spLaw (K : PySem.W.Frag) : Sp := fun vs H Q _ => ∃ (a : Addr) (ns : List Int), vs = [.ref a] ∧ SqL K H a (ns.map V.int) ∧ ns.length ≤ 63 ∧ ∀ H', Q (.bl true) H'
theorem law_go {K : Frag} {t : TDS} {nx : St → Hp → Prop} {rt : VK} {bk ct : St → Hp → Prop} {σ : St} {δ : DSt} {H : Hp} {d c : Addr} (dk : Deck H d c) (sl : Sl K H σ δ) (q : ∀ H', rt (.bl true) H') (h : ∀ G, HasDk G d → t ⟨fun _ _ => False, fun v _ => v = .bl true, fun _ _ => False, fun _ _ => False⟩ δ G) : upS K t ⟨nx, rt, bk, ct⟩ σ H := by
  refine ⟨⟨fun _ _ => False, fun v _ => v = .bl true, fun _ _ => False, fun _ _ => False⟩, δ, _, sl, wd_one (d := d) (L := [d, c]) (φ := fun H => Deck H d c) (List.mem_cons_self ..) dk (deck_lst dk) deck_loc, ?_, h _ ⟨c, dupd_same⟩⟩
  exact ⟨fun _ _ _ _ h => h.elim, fun v G u H' e t w r => by cases e; cases r; exact q _, fun _ _ _ _ h => h.elim, fun _ _ _ _ h => h.elim⟩
theorem pick {α : Type} {xs : List α} {r : Int} {n : Nat} (h0 : 0 ≤ r) (h1 : r < n) (hl : xs.length = n) : ∃ x, x ∈ xs ∧ atI xs r = some x := by
  obtain ⟨i, rfl⟩ := Int.eq_ofNat_of_zero_le h0
  have hi : i < xs.length := by omega
  exact ⟨xs[i], List.getElem_mem hi, atI_nat (List.getElem?_eq_getElem hi)⟩
/-! lists -/
def dRevL (te : TD) : TD := fun δ G Q => te δ G fun x G1 => ∃ p ds, x = .ref p ∧ Ls G1 p ds ∧ ∀ r, G1 r = none → Q (.ref r) (dupd G1 r (.lst ds.reverse))
theorem w_revL {te : TD} {δ : DSt} {G : DG} {Q : DK} (h : te δ G fun x G1 => ∃ p ds, x = .ref p ∧ Ls G1 p ds ∧ ∀ r, G1 r = none → Q (.ref r) (dupd G1 r (.lst ds.reverse))) : dRevL te δ G Q := h
end DD
/-! more steps: dicts, targets, signs -/
namespace DD
open PySem PySem.W L2 SX Cm
section
variable {nx : DSt → DG → Prop} {rt : DK} {bk ct : DSt → DG → Prop} {δ : DSt} {G : DG} {Q : DK} {te td ti tv : TD}
theorem w_dnew (h : ∀ p, G p = none → Q (.ref p) (dupd G p (.dct []))) : dDNew δ G Q := h
theorem w_dget (h : td δ G fun x G1 => ti δ G1 fun y G2 => ∃ p kvs z v, x = .ref p ∧ y = .str z ∧ G2 p = some (.dct kvs) ∧ valD kvs (keyD z) = some v ∧ Q v G2) : dDGet td ti δ G Q := h
theorem w_dget2 (h : td δ G fun x G1 => ∃ p, x = .ref p ∧ (∃ kvs, G1 p = some (.dct kvs)) ∧ ti δ G1 fun y G2 => tv δ G2 fun u G3 => ∃ kvs z, y = .str z ∧ G3 p = some (.dct kvs) ∧ Q ((valD kvs (keyD z)).getD u) G3) : dDGet2 td ti tv δ G Q := h
theorem wx_get {k : Addr → Prop} {p : Addr} {kvs : List (Key × DV)} (e : G p = some (.dct kvs)) (h : k p) : ∃ p', DV.ref p = .ref p' ∧ (∃ kvs, G p' = some (.dct kvs)) ∧ k p' := ⟨p, rfl, ⟨kvs, e⟩, h⟩
theorem wx_get2 {k : List (Key × DV) → Str → Prop} {p : Addr} {kvs : List (Key × DV)} {z : Str} (e : G p = some (.dct kvs)) (h : k kvs z) : ∃ kvs' z', DV.str z = .str z' ∧ G p = some (.dct kvs') ∧ k kvs' z' := ⟨kvs, z, rfl, e, h⟩
theorem w_din {n : Bool} (h : ti δ G fun y G1 => td δ G1 fun x G2 => ∃ p kvs z, x = .ref p ∧ y = .str z ∧ G2 p = some (.dct kvs) ∧ Q (.bl (ng n (valD kvs (keyD z)).isSome)) G2) : dDIn n ti td δ G Q := h
theorem wx_in {k : List (Key × DV) → Str → Prop} {p : Addr} {kvs : List (Key × DV)} {z : Str} (e : G p = some (.dct kvs)) (h : k kvs z) : ∃ p' kvs' z', DV.ref p = .ref p' ∧ DV.str z = .str z' ∧ G p' = some (.dct kvs') ∧ k kvs' z' := ⟨p, kvs, z, rfl, rfl, e, h⟩
theorem w_dput (h : tv δ G fun v G1 => td δ G1 fun x G2 => ti δ G2 fun y G3 => ∃ p kvs z, x = .ref p ∧ y = .str z ∧ G3 p = some (.dct kvs) ∧ kvs.length < sizeLine ∧ nx δ (dupd G3 p (.dct (putD kvs (keyD z) v)))) : dDPut td ti tv ⟨nx, rt, bk, ct⟩ δ G := h
/-! targets -/
variable {k : DSt → DG → Prop}
theorem w_asgT {n : Nat} {t : TDGs} (h : te δ G fun d G1 => gT n t d δ G1 nx) : dAsg te (gT n t) ⟨nx, rt, bk, ct⟩ δ G := h
theorem g_T {n : Nat} {t : TDGs} {ds : List DV} (h : t ds δ G k) (e : ds.length = n := by rfl) : gT n t (.tup ds) δ G k := ⟨ds, rfl, e, h⟩
theorem g_C {i : Nat} {u : TDGs} {d : DV} {r : List DV} (h : u r (δ.set i (some d)) G k) : gNC (gN i) u (d :: r) δ G k := ⟨d, r, rfl, h⟩
theorem g_0 (h : k δ G) : gN0 [] δ G k := ⟨rfl, h⟩
/-! signs, texts, lists -/
theorem w_inS {n : Bool} {c : Nat} {b : Str} (h : Q (.bl (ng n (decide (c ∈ b.cps.toList)))) G) : bIn n (.str ⟨#[c]⟩) (.str b) G Q := ⟨c, rfl, h⟩
theorem w_addL {p q : Addr} {xs ys : List DV} (ep : G p = some (.lst xs)) (eq : G q = some (.lst ys)) (l : xs.length + ys.length ≤ sizeLine) (h : ∀ r, G r = none → Q (.ref r) (dupd G r (.lst (xs ++ ys)))) : bAdd (.ref p) (.ref q) G Q := ⟨xs, ys, ep, eq, l, h⟩
end
theorem Sub.put {G G' : DG} {p : Addr} {o : DO} (s : Sub G G') (n : G p = none) : Sub G (dupd G' p o) := s.new n
end DD
/-! steps that leave the store behind them unnamed -/
namespace DD
open PySem PySem.W L2 SX Cm
/-- all but p as ahead -/
def Upd (G : DG) (p : Addr) (G' : DG) : Prop := ∀ a, a ≠ p → G' a = G a
theorem Upd.mk {G : DG} {p : Addr} {o : DO} : Upd G p (dupd G p o) := fun a h => dupd_ne h
theorem Upd.tr {A B C : DG} {p : Addr} (h : Upd A p B) (g : Upd B p C) : Upd A p C := fun a n => (g a n).trans (h a n)
theorem Upd.refl (A : DG) (p : Addr) : Upd A p A := fun _ _ => rfl
theorem sub_get {G G' : DG} {a : Addr} {o : DO} (s : Sub G G') (h : G a = some o) : G' a = some o := s _ _ h
theorem upd_get {G G' : DG} {a p : Addr} {o : DO} (u : Upd G p G') (h : G a = some o) (n : a ≠ p) : G' a = some o := (u _ n).trans h
theorem sub_tr {B G G' : DG} (s2 : Sub G G') (s1 : Sub B G) : Sub B G' := s1.trans s2
theorem sub_up {B G G' : DG} {p : Addr} (u : Upd G p G') (s : Sub B G) (n : B p = none) : Sub B G' := fun a o e => by
  have : a ≠ p := fun z => by rw [z, n] at e; cases e
  rw [u a this]; exact s a o e
theorem upd_in {B G G' : DG} {p : Addr} (u : Upd G p G') (s : Upd B p G) : Upd B p G' := s.tr u
theorem dk_sub {G G' : DG} {d : Addr} (s : Sub G G') (h : HasDk G d) : HasDk G' d := h.sub s
theorem dk_upd {G G' : DG} {d p : Addr} (u : Upd G p G') (h : HasDk G d) (e : ∃ ds, G p = some (.lst ds)) : HasDk G' d := by
  obtain ⟨ds, e⟩ := e
  have n := h.ne e
  obtain ⟨c, h⟩ := h
  exact ⟨c, (u d n).trans h⟩
theorem dk_updD {G G' : DG} {d p : Addr} (u : Upd G p G') (h : HasDk G d) (e : ∃ ds, G p = some (.dct ds)) : HasDk G' d := by
  obtain ⟨ds, e⟩ := e
  have n := h.neD e
  obtain ⟨c, h⟩ := h
  exact ⟨c, (u d n).trans h⟩
@[elab_as_elim] theorem abs_new {G : DG} {p : Addr} {o : DO} {M : DG → Prop} (np : G p = none) (h : ∀ G', Sub G G' → G' p = some o → M G') : M (dupd G p o) := h _ ((Sub.refl G).new np) dupd_same
/-! comprehensions whose elements leave the store as it is -/
theorem lcs_pure {ds : List DV} {st : DG → Prop} {ld : TL} {tt : TDT} {te : TD} {δ : DSt} {G1 : DG} {Q : DK} (f : DV → Option DV) (hsc : ∀ G, Sub G1 G → st G) (hl : ds.length ≤ 1000000)
    (h : ∀ d ∈ ds, ∀ (G : DG) (k1 : DK) (k0 : DG → Prop), Sub G1 G → (∀ y, f d = some y → k1 y G) → (f d = none → k0 G) →
      ld d δ fun δ2 => tt δ2 G fun b G3 => if b = true then te δ2 G3 k1 else k0 G3)
    (q : ∀ p G', G1 p = none → Sub G1 G' → G' p = some (.lst (ds.filterMap f)) → Q (.ref p) G') : LcG ds st ld tt te δ G1 Q :=
  lcg_pure f (fun p o np => hsc _ ((Sub.refl G1).new np)) hl (fun d hd G k1 k0 ⟨p, acc, np, e⟩ h1 h0 => h d hd G k1 k0 (by rw [e]; exact (Sub.refl G1).new np) h1 h0) fun p np => q p _ np ((Sub.refl G1).new np) dupd_same
theorem lcs_each {ds : List DV} {st : DG → Prop} {ld : TL} {tt : TDT} {te : TD} {δ : DSt} {G1 : DG} {Q : DK} (E : Nat → DV → Prop) (hsc : ∀ G, Sub G1 G → st G) (hl : ds.length ≤ 1000000)
    (h : ∀ i d, ds[i]? = some d → ∀ (G : DG) (k1 : DK) (k0 : DG → Prop), Sub G1 G → (∀ y, E i y → k1 y G) →
      ld d δ fun δ2 => tt δ2 G fun b G3 => if b = true then te δ2 G3 k1 else k0 G3)
    (q : ∀ p G' acc, G1 p = none → Sub G1 G' → G' p = some (.lst acc) → acc.length = ds.length → (∀ i y, acc[i]? = some y → E i y) → Q (.ref p) G') : LcG ds st ld tt te δ G1 Q :=
  lcg_each E (fun p o np => hsc _ ((Sub.refl G1).new np)) hl (fun i d hd G k1 k0 ⟨p, acc, np, e⟩ h1 => h i d hd G k1 k0 (by rw [e]; exact (Sub.refl G1).new np) h1) fun p acc np la he => q p _ acc np ((Sub.refl G1).new np) dupd_same la he
end DD
namespace K07
open PySem PySem.W L2 SX Cm DD
def top (i : Nat) : Stmt := PySem.Challenge.pw_takeleave_k07_refusals_made_by_hand.main.body.getD i (.Pass ⟨0, 0, 0, 0⟩)
abbrev s_L_mixed : Stmt := top 14
abbrev s_L_deck : Stmt := top 15
abbrev s_L_take : Stmt := top 16
abbrev s_L_number : Stmt := top 17
abbrev s_L_place : Stmt := top 18
abbrev s_L_kinds : Stmt := top 19
abbrev s_L_law : Stmt := top 20
section
variable {P : Program} {w : World} {K : Frag} {mg : Str → Option Value} {base : Heap}
def spMixed : Sp := fun vs H Q _ => ∃ n k : Int, vs = [.int n, .int k] ∧ ∀ m : Int, Q (.int m) H
theorem scMixed : FnScope ["_law_cell", "_law_k", "_law_number_here"] ["_law_cell", "_law_k"] (defScope s_L_mixed) := ⟨rfl, rfl, rfl, by decide +kernel, rfl, by decide +kernel, by decide +kernel⟩
theorem ok_mixed {f : Addr} {fd : FuncData} (F : Fun K "_law_mixed" "_law_mixed" s_L_mixed f fd) : FnOk P w K mg base CX0 1 f fd ["_law_cell", "_law_k"] spMixed := by
  refine F.ok scMixed (fun vs H Q E h => ?_) (fun cdv A outer s H vs Q E hr h => ?_)
  · obtain ⟨n, k, rfl, _⟩ := h
    rfl
  obtain ⟨n, k, rfl, q⟩ := h
  refine ⟨_, pss_cons (ps_set (i := 2) scMixed.nd rfl (.inl rfl) (pe_op op_mod (pe_op op_mul (pe_op op_add (pe_op op_add (pe_op op_mod (pv 0) pe_int) (pe_op op_mul pe_int (pv 1))) pe_int) pe_int) pe_int))
    (pss_cons (ps_set (i := 2) scMixed.nd rfl (.inl rfl) (pe_op op_mod (pe_op op_add (pe_op op_add (pe_op op_mul (pv 2) (pv 2)) (pe_op op_mul pe_int (pv 1))) pe_int) pe_int))
    (pss_one (ps_ret (pe_op op_add (pe_op op_mul (pv 2) pe_int) (pe_op op_mod (pe_op op_add (pe_op op_add (pe_op op_mul (pv 2) (pv 2)) (pe_op op_mul pe_int (pv 2))) (pv 1)) pe_int))))), ?_⟩
  refine ⟨_, rfl, _, _, rfl, rfl, (by show (0 : Int) < 2147483629; decide), _, rfl, _, _, rfl, rfl, .inl ⟨by decide, by decide⟩, _, _, rfl, rfl, _, _, rfl, rfl, _, _, rfl, rfl, .inr ⟨by decide, by decide⟩, _, _, rfl, rfl, (by show (0 : Int) < 2147483647; decide), ?_⟩
  generalize e1 : ((n % 2147483629 + 7919 * k + 1) * 48271) % 2147483647 = n1
  have b1 : 0 ≤ n1 ∧ n1 < 2147483647 := by
    constructor
    · rw [← e1]; exact Int.emod_nonneg _ (by decide)
    · rw [← e1]; exact Int.emod_lt_of_pos _ (by decide)
  refine ⟨_, rfl, _, rfl, _, _, rfl, rfl, .inl ⟨by omega, by omega⟩, _, rfl, _, _, rfl, rfl, .inl ⟨by decide, by decide⟩, _, _, rfl, rfl, _, _, rfl, rfl, _, _, rfl, rfl, (by show (0 : Int) < 2147483587; decide), ?_⟩
  generalize e2 : (n1 * n1 + 69621 * k + 7) % 2147483587 = n2
  have b2 : 0 ≤ n2 ∧ n2 < 2147483587 := by
    constructor
    · rw [← e2]; exact Int.emod_nonneg _ (by decide)
    · rw [← e2]; exact Int.emod_lt_of_pos _ (by decide)
  refine ⟨_, rfl, _, _, rfl, rfl, .inr ⟨by decide, by decide⟩, _, rfl, _, rfl, _, _, rfl, rfl, .inl ⟨by omega, by omega⟩, _, rfl, _, _, rfl, rfl, .inl ⟨by decide, by decide⟩, _, _, rfl, rfl, _, rfl, _, _, rfl, rfl, _, _, rfl, rfl, (by show (0 : Int) < 2147483563; decide), _, _, rfl, rfl, ?_⟩
  exact q _
theorem scDeck : FnScope ["_law_script"] ["_law_script"] (defScope s_L_deck) := ⟨rfl, rfl, rfl, by decide +kernel, rfl, by decide +kernel, by decide +kernel⟩
theorem ok_deck {f : Addr} {fd : FuncData} (F : Fun K "_law_deck" "_law_deck" s_L_deck f fd) (B : BI mg) : FnOk P w K mg base CX0 1 f fd ["_law_script"] (spDeck K) := by
  refine F.ok scDeck (fun vs H Q E h => ?_) (fun cdv A outer s H vs Q E hr h => ?_)
  · obtain ⟨a, ns, rfl, _⟩ := h
    rfl
  obtain ⟨a, ns, rfl, hS, h63, q⟩ := h
  refine ⟨_, pss_one (ps_ret (pe_lst (pa_cons (pe_lstRev rfl (by rfl) B.lst (by rfl) B.rev (pe_slice sl_list (pv 0) po_none (po_some pe_int)))
    (pa_cons (pe_op op_add (pe_callB (cr_sum rfl) (by rfl) B.sum PyProof.Rows.boot_sum (pa_cons (pe_slice sl_list (pv 0) po_none (po_some pe_int)) pa_nil)) (pe_callB call_len_seq (by rfl) B.len PySem.boot_len (pa_cons (pe_slice sl_list (pv 0) po_none (po_some pe_int)) pa_nil)))
    (pa_cons pe_int pa_nil))))), ?_⟩
  obtain ⟨ds, e1, l1⟩ := cut_map V.int ns none (some 63)
  refine ⟨_, rfl, 63, rfl, a, _, rfl, hS, fun p1 n1 => ?_⟩
  rw [e1]
  have s1 : Same H (upd H p1 (.lst (ds.map V.int))) := same_new n1 _
  refine ⟨p1, _, rfl, SqL.of upd_same, fun c nc => ?_⟩
  have s2 := s1.trans (same_new nc (.lst (ds.map V.int).reverse))
  refine ⟨_, rfl, 63, rfl, a, _, rfl, s2.seq hS, fun p2 n2 => ?_⟩
  rw [e1]
  have s3 := s2.trans (same_new n2 (.lst (ds.map V.int)))
  refine ⟨p2, ds, rfl, SqL.of upd_same, _, rfl, 63, rfl, a, _, rfl, s3.seq hS, fun p3 n3 => ?_⟩
  rw [e1]
  have s4 := s3.trans (same_new n3 (.lst (ds.map V.int)))
  refine ⟨p3, _, rfl, .inl (SqL.of upd_same), _, _, rfl, rfl, (by show 3 ≤ sizeLine; decide), fun d nd => ?_⟩
  have ec := kn (o' := .lst (ds.map V.int)) (kn (o' := .lst (ds.map V.int)) (upd_same (H := upd H p1 (.lst (ds.map V.int))) (a := c) (o := .lst (ds.map V.int).reverse)) n2) n3
  refine q d c _ (s4.trans (same_new nd _)) (s4.free nd) (s1.free nc) ⟨(ne_of_none ec nd).symm, ⟨_, _, upd_same⟩, ds.reverse, ?_, ?_⟩
  · rw [List.map_reverse]; exact kn ec nd
  · rw [List.length_reverse]; omega
theorem scTake : FnScope ["_law_deck_here", "_law_most", "_law_cells", "_law_cell"] ["_law_deck_here", "_law_most"] (defScope s_L_take) := ⟨rfl, rfl, rfl, by decide +kernel, rfl, by decide +kernel, by decide +kernel⟩
theorem ok_take {f g : Addr} {fd gd : FuncData} (F : Fun K "_law_take" "_law_take" s_L_take f fd) (G : FnOk P w K mg base CX0 1 g gd ["_law_cell", "_law_k"] spMixed) (bG : L2.Binds K gd ["_law_cell", "_law_k"] []) (kG : PySem.W.keepIn K (.ref g) = true) (mG : mg "_law_mixed" = some (.ref g)) :
    FnOk P w K mg base CX0 2 f fd ["_law_deck_here", "_law_most"] spTake := by
  refine F.ok scTake (fun vs H Q E h => ?_) (fun cdv A outer s H vs Q E hr h => ?_)
  · obtain ⟨d, c, m, rfl, _⟩ := h
    rfl
  obtain ⟨d, c, m, rfl, D, m0, m1, q⟩ := h
  obtain ⟨sm, k, hd⟩ := D.at_
  obtain ⟨ms, hc, hl⟩ := D.cells
  have dm : d ∈ [d, c] := List.mem_cons_self ..
  have cm : c ∈ [d, c] := List.mem_cons_of_mem _ (List.mem_singleton.mpr rfl)
  refine ⟨_, pss_cons (ps_set (i := 2) scTake.nd rfl (.inl rfl) (pe_ix ix_list (pv 0) pe_int (fun _ _ => rfl)))
    (pss_cons (ps_asg (pe_op op_add (pe_ix ix_list (pv 0) pe_int (fun _ _ => rfl)) pe_int) (pg_sub (pv 0) pe_int set_list))
    (pss_cons (ps_if (pt_cmpR (op_eqD hr.units) (pv 2) (pe_lst pa_nil) (nomark _)) (pss_one (ps_ret (pe_op op_mod (pe_call G hr rfl mG kG bG .nil pass0 (pa_cons (pe_ix ix_list (pv 0) pe_int (fun _ _ => rfl)) (pa_cons (pe_ix ix_list (pv 0) pe_int (fun _ _ => rfl)) pa_nil))) (pv 1)))) pss_nil)
    (pss_cons (ps_set (i := 3) scTake.nd rfl (.inl rfl) (pe_bm0 PySem.F.plainAttrs_list PySem.F.slot_list_pop PySem.F.type_list_pop mt_pop (pv 2)))
    (pss_cons (ps_if (pt_cmpR op_lt (pv 3) (pe_op op_pow pe_int pe_int) (nomark _)) (pss_one (ps_ret (pe_op op_mod (pe_call G hr rfl mG kG bG .nil pass0 (pa_cons (pv 3) (pa_cons (pe_ix ix_list (pv 0) pe_int (fun _ _ => rfl)) pa_nil))) (pv 1)))) pss_nil)
    (pss_cons (ps_if (pt_cmpR op_gt (pe_op op_fdivW (pv 3) (pv 1)) pe_int (nomark _)) (pss_one (ps_expr (pe_bm PySem.F.plainAttrs_list PySem.F.slot_list_append PySem.F.type_list_append mt_append (pv 2) (pa_cons (pe_op op_fdivW (pv 3) (pv 1)) pa_nil)))) pss_nil)
    (pss_one (ps_ret (pe_op op_mod (pv 3) (pv 1))))))))), ?_⟩
  have ix : ∀ (j : Nat) (v : V) (k' : Int), [V.ref c, .int sm, .int k'][j]? = some v → atI [V.ref c, .int sm, .int k'] (j : Int) = some v := fun j v k' h => atI_nat h
  refine ⟨_, rfl, d, _, _, _, rfl, rfl, SqL.of hd, ix 0 _ k rfl, ?_⟩
  refine ⟨_, rfl, d, _, _, _, rfl, rfl, SqL.of hd, ix 2 _ k rfl, _, _, rfl, rfl, _, rfl, d, _, _, 2, rfl, rfl, hd, rfl, ?_⟩
  have hd1 : upd H d (.lst [.ref c, .int sm, .int (k + 1)]) d = some (.lst [.ref c, .int sm, .int (k + 1)]) := upd_same
  have hc1 : upd H d (.lst [.ref c, .int sm, .int (k + 1)]) c = some (.lst (ms.map V.int)) := by rw [upd_ne D.ne.symm]; exact hc
  have k1 : Kp [d, c] H (upd H d (.lst [.ref c, .int sm, .int (k + 1)])) := (Kp.refl _ H).own dm
  show tSeq _ _ _ _ (upd H d (.lst [.ref c, .int sm, .int (k + 1)]))
  generalize upd H d (.lst [.ref c, .int sm, .int (k + 1)]) = H1 at hd1 hc1 k1
  refine ⟨_, rfl, (by show 0 ≤ sizeLine; decide), fun p hp => ?_⟩
  have k2 : Kp [d, c] H (upd H1 p (.lst [])) := k1.new hp
  have hd2 := kn (o' := .lst []) hd1 hp
  have hc2 := kn (o' := .lst []) hc1 hp
  refine ⟨_, _, .lst (SqL.of hc2) (dp_ints ms), .lst (SqL.of upd_same) .nil, Cm.shaped_ints ms, rfl, _, rfl, ?_⟩
  generalize upd H1 p (.lst []) = H2 at hd2 hc2 k2
  rcases List.eq_nil_or_concat ms with rfl | ⟨ns, n, rfl⟩
  · refine iteT ?_
    refine ⟨_, rfl, d, _, _, _, rfl, rfl, SqL.of hd2, ix 1 _ (k + 1) rfl, _, rfl, d, _, _, _, rfl, rfl, SqL.of hd2, ix 2 _ (k + 1) rfl, _, _, rfl, fun r => ?_⟩
    refine ⟨_, rfl, _, _, rfl, rfl, m0, ?_⟩
    exact q _ _ (Int.emod_nonneg _ (by omega)) (Int.emod_lt_of_pos _ m0) k2 ⟨D.ne, ⟨_, _, hd2⟩, [], hc2, by decide⟩
  · have ne : PyData.eqv (.list ((ns.concat n).map PyData.int)) (.list []) = false := by
      cases ns with
      | nil => rfl
      | cons x r => rfl
    rw [ne]
    refine iteF ?_
    rw [List.length_concat] at hl
    have hq : (((ns.concat n).map V.int) : List V)[((ns.concat n).map V.int).length - 1]? = some (V.int n) := by
      rw [List.concat_eq_append, List.map_append, List.length_append]
      simp
    have hdl : ((ns.concat n).map V.int).dropLast = ns.map V.int := by
      rw [List.concat_eq_append, List.map_append]
      simp
    refine ⟨_, rfl, .inl ⟨rfl, _, SqL.of hc2⟩, c, _, _, rfl, rfl, hc2, hq, ?_⟩
    rw [hdl]
    have hd3 : upd H2 c (.lst (ns.map V.int)) d = some (.lst [.ref c, .int sm, .int (k + 1)]) := by rw [upd_ne D.ne]; exact hd2
    have k3 : Kp [d, c] H (upd H2 c (.lst (ns.map V.int))) := k2.own cm
    refine ⟨_, rfl, _, _, rfl, rfl, ⟨by decide, by decide, by decide⟩, _, _, rfl, rfl, _, rfl, ?_⟩
    refine ite2 (fun _ => ?_) (fun _ => ?_)
    · refine ⟨_, rfl, _, rfl, d, _, _, _, rfl, rfl, SqL.of hd3, ix 2 _ (k + 1) rfl, _, _, rfl, fun r => ?_⟩
      refine ⟨_, rfl, _, _, rfl, rfl, m0, ?_⟩
      exact q _ _ (Int.emod_nonneg _ (by omega)) (Int.emod_lt_of_pos _ m0) k3 ⟨D.ne, ⟨_, _, hd3⟩, ns, upd_same, by omega⟩
    · refine ⟨_, rfl, _, rfl, _, _, rfl, rfl, wide_div m0 (b := 64) (by omega) (by decide) (by decide), _, _, rfl, rfl, _, rfl, ?_⟩
      refine ite2 (fun _ => ?_) (fun _ => ?_)
      · refine ⟨_, rfl, .inl ⟨rfl, _, SqL.of upd_same⟩, _, rfl, _, rfl, _, _, rfl, rfl, wide_div m0 (b := 64) (by omega) (by decide) (by decide), c, _, _, rfl, rfl, upd_same, by rw [List.length_map]; exact small1000 (by omega), ?_⟩
        refine ⟨_, rfl, _, rfl, _, _, rfl, rfl, m0, ?_⟩
        refine q _ _ (Int.emod_nonneg _ (by omega)) (Int.emod_lt_of_pos _ m0) (k3.own cm) ⟨D.ne, ⟨_, _, by rw [upd_ne D.ne]; exact hd3⟩, ns ++ [n / m], ?_, ?_⟩
        · rw [upd_same, List.map_append]; rfl
        · rw [List.length_append, List.length_singleton]; omega
      · refine ⟨_, rfl, _, rfl, _, _, rfl, rfl, m0, ?_⟩
        exact q _ _ (Int.emod_nonneg _ (by omega)) (Int.emod_lt_of_pos _ m0) k3 ⟨D.ne, ⟨_, _, hd3⟩, ns, upd_same, by omega⟩
abbrev A_L_take : List Str := ["_law_deck_here", "_law_most"]
theorem h_take (a : At K mg "_law_take" s_L_take A_L_take) (am : At K mg "_law_mixed" s_L_mixed ["_law_cell", "_law_k"]) : Has P w K mg base 2 "_law_take" A_L_take SP_draw := by
  obtain ⟨g, gd, FG, bG, mG⟩ := am
  refine has_of a (fun f fd F => ok_take F (ok_mixed FG) bG FG.kp mG) fun vs H Q E ⟨ds, G, R, r, wd, l, ⟨d, m, e, ⟨c, hk⟩, m0, m1, q⟩, fin⟩ => ?_
  subst e
  cases r with
  | cons r1 r2 =>
    cases r2 with
    | cons r2 r3 =>
      cases r3
      cases r1
      cases r2
      obtain ⟨O, wo⟩ := id wd
      obtain ⟨_, _, D, _⟩ := wo.ob d _ hk
      refine ⟨d, c, m, rfl, D, m0, m1, fun r H' r0 r1 kp D' => ?_⟩
      have t : TKs K H H' := TKs.kp kp (deck_lst D)
      exact fin _ G _ H' (q r r0 r1) t (wd.abs_keep hk kp t D' (deck_lst D')) (.int r)
end
end K07
/-! a call of a local name that holds a def; x or y of tuples -/
namespace DD
open PySem PySem.W L2 SX Cm
section
variable {X : Cx} {k i : Nat} {f : Addr} {ps : List Str} {dsp : DSp} {x : Str} {e : Expr} {es : List Expr} {ts : TDA} {p pos : Pos}
/-- x or y, x a tuple -/
def dOrT (ta tb : TD) : TD := fun δ G Q => ta δ G fun x G1 => ∃ ds, x = .tup ds ∧ if (!ds.isEmpty) = true then Q (.tup ds) G1 else tb δ G1 Q
theorem w_orT {ta tb : TD} {δ : DSt} {G : DG} {Q : DK} (h : ta δ G fun x G1 => ∃ ds, x = .tup ds ∧ if (!ds.isEmpty) = true then Q (.tup ds) G1 else tb δ G1 Q) : dOrT ta tb δ G Q := h
end
end DD
/-! promises of two outcomes over data: a value, or an error of a class -/
namespace DD
open PySem PySem.W L2 SX Cm
abbrev DXk := Value → DG → Prop
def FinX (K : Frag) (H : Hp) (RX : DXk) (E : XK) : Prop := ∀ cls G H', RX cls G → TKs K H H' → Wd K H' G → E cls none H'
theorem FinX.step {K : Frag} {H H1 : Hp} {RX : DXk} {E : XK} (f : FinX K H RX E) (t : TKs K H H1) : FinX K H1 RX E := fun c G H' r t' w => f c G H' r (t.trans t') w
abbrev DSpX := List DV → DG → DK → DXk → Prop
/-- less is known of the store where an error is let out -/
def LessX (RX : DXk) : DXk := fun c G => ∃ G', Sub G' G ∧ RX c G'
theorem LessX.of {RX : DXk} {c : Value} {G : DG} (h : RX c G) : LessX RX c G := ⟨G, Sub.refl G, h⟩
/-! ### defs -/
/-! ### a call that may let an error out, within a def that lets it out -/
section
variable {X : Cx} {k : Nat} {nm : Str} {ps : List Str} {dsp : DSpX} {e : Expr} {es : List Expr} {ts : TDA} {p pos : Pos} {E : XK} {RX : DXk}
def dCallX (n : Nat) (dsp : DSpX) (RX : DXk) (t : TDA) : TD := fun δ G Q => t δ G fun ds G1 => ds.length = n ∧ dsp ds G1 Q RX
theorem w_callX {n : Nat} {δ : DSt} {G : DG} {Q : DK} (h : ts δ G fun ds G1 => ds.length = n ∧ dsp ds G1 Q RX) : dCallX n dsp RX ts δ G Q := h
/-- raise C(m) -/
def dRaise (c : Value) (RX : DXk) : TDS := fun _ _ G => RX c G
theorem w_raise {c : Value} {D : DEnds} {δ : DSt} {G : DG} (h : RX c G) : dRaise c RX D δ G := h
end
/-- a class of errors whose makers are the built-in one's -/
structure ErrC (K : Frag) (mg : Str → Option Value) (x : Str) (C : Addr) : Prop where
  gP : mg x = some (.ref C)
  xP : excIn K C [.type "ValueError", .type "Exception", .type "BaseException", .type "object"] "ValueError.__new__" = true
  kP : keepIn K (.ref C) = true
  bP : subIn K (.ref C) (.type "BaseException") = some true
  tP : typeIn K (.ref C) = some (.type "type")
/-! ### try -/
abbrev TDX := DSt → DG → DK → DXk → Prop
abbrev TDAX := DSt → DG → (List DV → DG → Prop) → DXk → Prop
def FinW (K : Frag) (H : Hp) (RX : DXk) (W : WX) (σ : L2.St) : Prop := ∀ cls G H', RX cls G → TKs K H H' → Wd K H' G → W cls none σ H'
theorem FinW.step {K : Frag} {H H1 : Hp} {RX : DXk} {W : WX} {σ : L2.St} (f : FinW K H RX W σ) (t : TKs K H H1) : FinW K H1 RX W σ := fun c G H' r t' w => f c G H' r (t.trans t') w
section
variable {X : Cx} {k : Nat} {nm : Str} {ps : List Str} {dsp : DSpX} {e : Expr} {es : List Expr} {ts : TDA} {p pos : Pos}
def xCall (n : Nat) (dsp : DSpX) (t : TDA) : TDX := fun δ G Q RX => t δ G fun ds G1 => ds.length = n ∧ dsp ds G1 Q RX
/-- an expression that lets no error out -/
def xE (t : TD) : TDX := fun δ G Q _ => t δ G Q
def xNil : TDAX := fun δ G Q _ => Q [] G
def xCons (t : TDX) (u : TDAX) : TDAX := fun δ G Q RX => t δ G (fun d G1 => u δ G1 (fun ds G2 => Q (d :: ds) G2) RX) RX
/-- [x, ..] -/
def xLst (t : TDAX) : TDX := fun δ G Q RX => t δ G (fun ds G1 => ds.length ≤ sizeLine ∧ ∀ p, G1 p = none → Q (.ref p) (dupd G1 p (.lst ds))) RX
/-- (x, ..) -/
def xTup (t : TDAX) : TDX := fun δ G Q RX => t δ G (fun ds G1 => ds.length ≤ sizeLine ∧ Q (.tup ds) G1) RX
end
/-! a call of a local name that holds a def -/
/-! statements within a try -/
abbrev TDSX := DEnds → DSt → DG → DXk → Prop
section
variable {X : Cx} {e : Expr} {te : TDX}
def xSet (i : Nat) (te : TDX) : TDSX := fun D δ G RX => te δ G (fun d G1 => D.nx (δ.set i (some d)) G1) RX
def xExpr (te : TDX) : TDSX := fun D δ G RX => te δ G (fun _ G1 => D.nx δ G1) RX
/-- try: body; except c as n: suite (slot i is n's). The error stands in the store behind the suite. -/
def dTry (K : Frag) (c : Value) (i : Nat) (tb : TDSX) (ts : Addr → Value → TDS) : TDS := fun D δ G => tb D δ G fun cls G1 => exmOne K cls c = some true ∧ ∀ a, G1 a = none →
  ts a cls { nx := fun δ' G2 => G2 a = none → D.nx (δ'.set i none) (dupd G2 a (.err cls)), rt := D.rt, bk := fun δ' G2 => D.bk (δ'.set i none) G2, ct := fun δ' G2 => D.ct (δ'.set i none) G2 } (δ.set i (some (.ref a))) G1
end
/-! ### isinstance of an error: in its suite, and behind it -/
section
variable {X : Cx}
def clsOf : DV → Option Value
  | .ref a => some (.ref a)
  | .ty n => some (.type n)
  | _ => none
theorem clsOf_rel {K : Frag} {H : Hp} {v : V} {d : DV} {c : Value} (r : RV K H v d) (e : clsOf d = some c) : ∀ u, RelV v u → u = c := fun u ru => by
  cases r with
  | ref a => cases e; exact ru
  | ty n => cases e; exact ru
  | _ => cases e
end
section
variable {K : Frag} {c : Value} {i : Nat} {tb : TDSX} {ts : Addr → Value → TDS} {D : DEnds} {δ : DSt} {G : DG} {RX : DXk} {Q : DK} {te : TDX} {t : TD} {u : TDAX} {QA : List DV → DG → Prop} {tda : TDA} {n : Nat} {dsp : DSpX}
theorem w_try (h : tb D δ G fun cls G1 => exmOne K cls c = some true ∧ ∀ a, G1 a = none →
  ts a cls { nx := fun δ' G2 => G2 a = none → D.nx (δ'.set i none) (dupd G2 a (.err cls)), rt := D.rt, bk := fun δ' G2 => D.bk (δ'.set i none) G2, ct := fun δ' G2 => D.ct (δ'.set i none) G2 } (δ.set i (some (.ref a))) G1) : dTry K c i tb ts D δ G := h
theorem w_xSet (h : te δ G (fun d G1 => D.nx (δ.set i (some d)) G1) RX) : xSet i te D δ G RX := h
theorem w_xExpr (h : te δ G (fun _ G1 => D.nx δ G1) RX) : xExpr te D δ G RX := h
theorem w_xLst (h : u δ G (fun ds G1 => ds.length ≤ sizeLine ∧ ∀ p, G1 p = none → Q (.ref p) (dupd G1 p (.lst ds))) RX) : xLst u δ G Q RX := h
theorem w_xTup (h : u δ G (fun ds G1 => ds.length ≤ sizeLine ∧ Q (.tup ds) G1) RX) : xTup u δ G Q RX := h
theorem w_xCons (h : te δ G (fun d G1 => u δ G1 (fun ds G2 => QA (d :: ds) G2) RX) RX) : xCons te u δ G QA RX := h
theorem w_xNil (h : QA [] G) : xNil δ G QA RX := h
theorem w_xE (h : t δ G Q) : xE t δ G Q RX := h
theorem w_xCall (h : tda δ G fun ds G1 => ds.length = n ∧ dsp ds G1 Q RX) : xCall n dsp tda δ G Q RX := h
end
end DD
/-! own exceptions under own exceptions, over ValueError: an __init__ that says super().__init__(text), then stores -/
namespace Cm
open PySem PySem.W L2 SX NdefX
open PySem.Spec PyProof.Rows PySem.Calls
/-- what the written part says of such a class: C, the cell cc of its name, its __init__'s code object cda -/
structure SupC (P : Program) (K : Frag) (C cc cda : Addr) : Prop where
  own : OexC K C
  cell : ∃ cl cld csl, K.lookup cc = some ⟨cl, cld, .cell (some (.ref C)), csl⟩
  opq : nsIn K cStatics "thirdparty.any" = some none
  sup : ks_superIn K C C "__init__" = some (some (.builtin "ValueError.__init__"))
  sub : subIn K (.ref C) (.type "ValueError") = some true
  self : mroIn K C (.ref C) = some true
  code : ∃ ccl cdd vs ccs file tf, K.lookup cda = some ⟨ccl, cdd, .fields vs, ccs⟩ ∧ vs[2]? = some (.str file tf) ∧ ((P.main.file : Str) == file) = true
  top : (P.main.scope.names.lookup ("super" : Str)).isSome = false
abbrev supSt (z : Str) (j : Nat) (p0 p1 p2 p3 p4 p5 : Pos) : Stmt := .Expr (.Call (.Attribute (.Call (.Name "super" p0) [] [] p1) "__init__" p2) [.Constant (.str z) j p3] [] p4) p5
theorem sup_init {X : Cx} {pins : List (Addr × Obj)} {σ : L2.St} {H : Hp} {s : Shared} {a C cc cda f : Addr} {of : Obj} {fd : FuncData} {ar : Arg} {body : List Stmt} {z : Str} {j : Nat} {p0 p1 p2 p3 p4 p5 : Pos} {E : Value → Shared → Prop}
    (I : Inv X pins σ H s) (T : SupC X.prog X.K C cc cda) (ea : H a = some (exo a C none))
    (hks : X.env.kindOf "super" = some .globalImplicit) (hkc : X.env.kindOf "__class__" = some .free) (hcl : X.env.cells.lookup ("__class__" : Str) = some cc) (hfu : X.env.func = some f) (hco : X.env.code = .ref cda)
    (lk : X.K.lookup f = some of) (hfd : of.data = .func fd) (hp : (fd.params.posonlyargs ++ fd.params.args).head? = some ar) (hN : X.N[0]? = some ar.arg) (hσ : σ[0]? = some (some (.ref a))) (hka : X.env.kindOf ar.arg = some .local) (hvis : X.env.scope.names.lookup ar.arg = some .local) (hm : X.mg "super" = none)
    (hi : interactive X.env = false := by rfl) (hs : swapsWith (.Call (.Attribute (.Call (.Name "super" p0) [] [] p1) "__init__" p2) [.Constant (.str z) j p3] [] p4) none p5.line X.env = pure false := by rfl)
    (pl : Sem Bool)
    (he : eval (.Call (.Attribute (.Call (.Name "super" p0) [] [] p1) "__init__" p2) [.Constant (.str z) j p3] [] p4) X.env = (do
      let ov ← attributeBase (.Call (.Name "super" p0) [] [] p1) "__init__" X.env (eval (.Call (.Name "super" p0) [] [] p1) X.env)
      standAt p2.atName
      let (f, first) ← holding [ov] (getMethod ov "__init__" pl)
      callWith p4 f first (backTo p4 (starEach [.Constant (.str z) j p3] X.env)) [])) :
    _root_.PySem.wpAt (model X.prog X.w) X.A (.func body X.env) (exec (supSt z j p0 p1 p2 p3 p4 p5) X.env) (fun fl s' => fl = .next ∧ Inv X pins σ H s') E s := by
  obtain ⟨ccl, cdd, vs, ccs, file, tf, hcode, hvs, hfile⟩ := T.code
  obtain ⟨cl, cld, csl, hcell⟩ := T.cell
  obtain ⟨nm, q, N, bs, bm, sn, sub, ab, col, dd, k0, k1, k2, k3, k5, hC, hbm⟩ := T.own.cls
  have hcd : clsIn X.K C = some { name := nm, bases := bs, mro := .ref C :: bm, ns := N, qualname := q, hasDict := true, slotNames := sn, subclasses := sub, abstract := ab, collection := col, hasDel := false } := by unfold PySem.W.clsIn; rw [hC] <;> rfl
  obtain ⟨t1, ho⟩ := exo_at I.hok ea
  obtain ⟨m, hns, hlook⟩ := I.loc
  obtain ⟨u, ru, lu⟩ := hlook 0 ar.arg (.ref a) hN hσ (.inl hvis)
  cases (show u = Value.ref a from ru)
  have hma : m ar.arg = some (.ref a) := by
    rcases lu with ⟨_, e⟩ | ⟨e, _⟩
    · exact e
    · rcases e with e | e <;> rw [hka] at e <;> cases e
  have X0 : X.K.In s.heap := I.kIn
  have hop : Looks (model X.prog X.w) s.heap (opaqueClassAbove (.ref C)) none := looks_opaque X0 T.opq
  have hsup := T.sup
  unfold ks_superIn at hsup
  rw [hcd] at hsup
  obtain ⟨hh, g, d, t, os⟩ := s
  refine ks_wpAt_Expr_any ?_ hi hs
  refine ks_wpAt_MethodCall ?_ he
  refine ks_wpAt_super_base hks hkc rfl hfu (X0 _ _ lk) hfd hp hco (X0 _ _ hcode) rfl hvs hfile T.top ?_
  obtain ⟨mb, b1, b2⟩ := I.mod.blt
  refine ks_loadName_global I.ok.kind hks (loadGlobal_builtin (by rw [I.ok.glob]; exact I.mod.glob.keeps I.bk) hm (by rw [I.ok.blt]; exact b1.keeps I.bk) ((b2 "super" (by decide)).trans (PyProof.Rows.Boot.«super»)) ⟨rfl, ?_⟩)
  refine wpAny_loadName_free I.ok.kind hkc hcl ⟨_, X0 _ _ hcell, rfl⟩ ?_
  refine wpAny_loadName_local I.ok.kind hka hns hma ?_
  refine ks_wpAny_isType_cls (X0 _ _ hC) rfl ⟨rfl, ?_⟩
  refine ks_wpAny_call_super (X0 _ _ hC) rfl ho rfl (fun c e => by cases e) (looks_mroIn X0 T.self) (fun h1 e1 k1 => ?_)
  have J1 : Inv X pins σ H ⟨h1, g, d, t, os⟩ := I.kept (t' := t) k1
  have ho1 := k1 _ _ ho
  have IA : InstAt h1 a _ C none := ⟨ho1, rfl, rfl, trivial⟩
  have hI : Looks (model X.prog X.w) h1 (isInstance (.ref a) (.type "ValueError")) true := IA.type.andThen (looks_subIn J1.kIn T.sub)
  refine kxs_getMethod kxs_ValueError e1 (looks_opaque J1.kIn T.opq) (l₀ := .ref C :: bm) (fun A Q E s k q => wpAny_bind ((looks_clsIn J1.kIn hcd) A _ E s k (wpAny_pure q))) rfl J1.kIn hsup hI (ks_ne J1.kIn IA hcd) rfl ?_
  have k2 : ∀ b o, h1.get? b = some o → (h1.push (kxs_mw "ValueError.__init__" a)).get? b = some o := fun b o e => Heap.get?_push_of_some _ e
  have hu : (h1.push (kxs_mw "ValueError.__init__" a)).get? h1.objs.size = some (kxs_mw "ValueError.__init__" a) := Heap.get?_push_size _ rfl
  have J2 : Inv X pins σ H ⟨h1.push (kxs_mw "ValueError.__init__" a), g, d, t + 1, os⟩ := J1.kept (t' := t + 1) k2
  refine kxs_callWith (i := "ValueError.__init__") (x := a) (by rfl) ?_
  refine evalArgs_plain ?_
  show wpAny _ _ (spliced ((false, eval (.Constant (.str z) j p3) X.env) :: backTo p4 (starEach [] X.env))) _ _ _
  refine Calls.spliced_cons (Calls.Constant_str (Calls.spliced_nil ?_))
  refine ⟨hu, ?_⟩
  show wpAny _ _ (call (.ref h1.objs.size) [.str z (t + 1)]) _ _ _
  have X2 : X.K.In (h1.push (kxs_mw "ValueError.__init__" a)) := J2.kIn
  refine wpAny_call (codeAny_of_tree ?_)
  show wpAny _ X.A.in1 (callAny (.ref h1.objs.size) ⟨[.str z (t + 1)], []⟩) _ _ _
  simp only [callAny]
  refine wpAny_bind (wpAny_load hu ?_)
  simp only [kxs_mw, show (Value.type "method-wrapper" == Value.type "method" || Value.type "method-wrapper" == Value.type "builtin_function_or_method" || Value.type "method-wrapper" == Value.type "method-wrapper") = true by decide, if_true]
  refine KFB.if_so (by decide) ?_
  have ho2 := k2 _ _ ho1
  refine wpAny_bind (check_bound_init F.excBase_ValueError.toExcCallFacts (X2 _ _ hC) ho2 rfl ?_)
  refine wpAny_bind (wpAny_pure (wpAny_pure ?_))
  refine ⟨plainId_quiet F.excBase_ValueError.init.plain _, codeAny_builtin F.excBase_ValueError.initEntry ?_⟩
  refine exc_init_tree (cls := .ref C) (t0 := t1) (dv := none) (c2 := .none) (c3 := .none) (b4 := .bool false) ho2 (by show 1 ≤ sizeLine; rw [sizeLine_eq]; omega) fun h4 k4 e4 x4 => ?_
  have J4 := J2.write (t' := t + 1 + 1) (x := a) (e := a) (o := exo a C none) (by rw [ea]; exact True.intro) (.inl rfl) k4 ⟨_, e4⟩ (exo_ok e4)
  have eu : upd H a (exo a C none) = H := by
    funext b
    by_cases hb : b = a
    · rw [hb, upd_same, ea]
    · rw [upd_ne hb]
  rw [eu] at J4
  exact ⟨by first | rfl | trivial, J4⟩
/-- an __init__ that says super().__init__(text), then its rest -/
theorem ok_sup {P : Program} {w : World} {K : Frag} {mg : Str → Option Value} {base : Heap} {CX : CXT} {k : Nat} {f C cc cda : Addr} {name qual : Str} {params : Arguments} {rest : List Stmt} {scope : Scope} {dV kV doc pm ct oc : Value} {an od : Option Addr} {osl : Array (Option Value)} {N ps : List Str} {ar : Arg} {sp : Sp} {z : Str} {j : Nat} {p0 p1 p2 p3 p4 p5 : Pos}
    (lk : K.lookup f = some ⟨oc, od, .func (fnX name qual params (supSt z j p0 p1 p2 p3 p4 p5 :: rest) scope [("__class__", cc)] dV kV doc pm an (.ref cda) ct), osl⟩) (hcd : codeIn K (.ref cda) qual = true) (S : NScope N ps ["__class__"] scope) (T : SupC P K C cc cda)
    (hks : scope.names.lookup ("super" : Str) = some .globalImplicit) (hp : (params.posonlyargs ++ params.args).head? = some ar) (hN : N[0]? = some ar.arg) (hka : scope.names.lookup ar.arg = some .local) (hm : mg "super" = none)
    (len : ∀ vs H Q E, sp vs H Q E → vs.length = ps.length)
    (hs : ∀ L : Addr, swapsWith (.Call (.Attribute (.Call (.Name "super" p0) [] [] p1) "__init__" p2) [.Constant (.str z) j p3] [] p4) none p5.line (envF ⟨name, qual, params, supSt z j p0 p1 p2 p3 p4 p5 :: rest, scope, [("__class__", cc)], cda⟩ f L) = pure false)
    (hi : ∀ L : Addr, interactive (envF ⟨name, qual, params, supSt z j p0 p1 p2 p3 p4 p5 :: rest, scope, [("__class__", cc)], cda⟩ f L) = false)
    (pl : Env → Sem Bool)
    (he : ∀ env : Env, eval (.Call (.Attribute (.Call (.Name "super" p0) [] [] p1) "__init__" p2) [.Constant (.str z) j p3] [] p4) env = (do
      let ov ← attributeBase (.Call (.Name "super" p0) [] [] p1) "__init__" env (eval (.Call (.Name "super" p0) [] [] p1) env)
      standAt p2.atName
      let (f, first) ← holding [ov] (getMethod ov "__init__" (pl env))
      callWith p4 f first (backTo p4 (starEach [.Constant (.str z) j p3] env)) []))
    (hbody : ∀ (A : Around) (outer : List Env) (s : Shared) (H : Hp) (vs : List V) (Q : VK) (E : XK), Room k (A.deeper (envF ⟨name, qual, params, supSt z j p0 p1 p2 p3 p4 p5 :: rest, scope, [("__class__", cc)], cda⟩ f s.heap.objs.size)) → sp vs H Q E → ∃ a vs', vs = .ref a :: vs' ∧ H a = some (exo a C none) ∧
      ∃ t, PSs (ncx CX P w K mg base N ⟨name, qual, params, supSt z j p0 p1 p2 p3 p4 p5 :: rest, scope, [("__class__", cc)], cda⟩ f A outer s H E) rest t ∧ t { nx := fun _ H' => Q .non H', rt := Q } (startF N vs [none]) H) :
    FnOk P w K mg base CX (k + 1) f (fnX name qual params (supSt z j p0 p1 p2 p3 p4 p5 :: rest) scope [("__class__", cc)] dV kV doc pm an (.ref cda) ct) ps sp := by
  refine ⟨len, fun A outer s H args us vs Q E hr e0 hb r hsp => ?_⟩
  have hl := len _ _ _ _ hsp
  have KX : K.In s.heap := e0.mod.kin.keeps fun b o e => (e0.bs b o e).1
  have lim : s.heap.NoLimit := e0.mod.nolimit.keeps fun b o e => (e0.bs b o e).1
  refine codeAny_call_function hr.depth (KX _ _ lk) rfl S.co S.gen rfl (PySem.W.codeRec_of KX hcd) (hb _ _ _ _ ?_)
  refine wpAny_newFunctionEnv S.nocell (fun ⟨n, _⟩ hy => S.par n (List.of_mem_zip hy).1) (fun h₁ hns hsb => ⟨lim.fresh _ hsb, ?_⟩) S.kind
  show codeAny _ _ (.func (supSt z j p0 p1 p2 p3 p4 p5 :: rest) (envF ⟨name, qual, params, supSt z j p0 p1 p2 p3 p4 p5 :: rest, scope, [("__class__", cc)], cda⟩ f s.heap.objs.size)) _ _
  refine ks_codeAny_funcAt ?_
  have kp : ∀ b o, s.heap.get? b = some o → h₁.get? b = some o := fun b o e => hsb.extBut b o (Nat.ne_of_lt (Heap.lt_size e)) (Heap.get?_push_of_some _ e)
  obtain ⟨a, vs', rfl, ea, t, ht, hq⟩ := hbody A outer s H vs Q E (hr.deeper _) hsp
  obtain ⟨cl, cld, csl, hcell⟩ := T.cell
  have hcellB : base.get? cc = some ⟨cl, cld, .cell (some (.ref C)), csl⟩ := e0.mod.kin _ _ hcell
  have look1 : ∀ {y : Str} {c : Addr}, List.lookup y [(("__class__" : Str), cc)] = some c → c = cc ∧ y = "__class__" := fun {y c} e => by
    by_cases hy : y = "__class__"
    · subst hy
      have : List.lookup ("__class__" : Str) [(("__class__" : Str), cc)] = some cc := by simp [List.lookup]
      rw [this] at e
      cases e
      exact ⟨rfl, rfl⟩
    · have b : (y == ("__class__" : Str)) = false := by simpa using hy
      simp [List.lookup, b] at e
  have C1 : CellsAt [("__class__", cc)] ["__class__"] [none] s.heap H := ⟨rfl, fun y c e => by
      obtain ⟨rfl, rfl⟩ := look1 e
      exact ⟨(e0.bs _ _ hcellB).2, _, ⟨_, (e0.bs _ _ hcellB).1, rfl⟩⟩, fun x y c e1 e2 => (look1 e1).2.trans (look1 e2).2.symm, fun i y e => by
      cases i with
      | zero =>
        cases e
        exact ⟨cc, by simp [List.lookup], fun v e => by cases e⟩
      | succ i => simp at e⟩
  have I : Inv (ncx CX P w K mg base N ⟨name, qual, params, supSt z j p0 p1 p2 p3 p4 p5 :: rest, scope, [("__class__", cc)], cda⟩ f A outer s H E) [] (startF N (.ref a :: vs') [none]) H { s with heap := h₁, toks := s.toks + (ps.zip us).length } := inv_startN S hr.hd e0 hl r C1 hns kp
  refine ks_wpAt_execs_cons (ks_wpAt_mono (sup_init (cc := cc) (cda := cda) I T ea hks (S.frk _ List.mem_cons_self) (by show List.lookup ("__class__" : Str) [(("__class__" : Str), cc)] = _; simp [List.lookup]) rfl rfl lk rfl hp hN rfl hka hka hm (hi _) (hs _) (pl _) (he _)) (fun fl s' hs' => ?_) fun _ _ x => x)
  obtain ⟨rfl, J⟩ := hs'
  refine wpAt_of_wpAny (wpAny_mono (ht.run [] s' _ H _ J hq) (fun fl s' hs => ?_) fun e s' hs => hs)
  have fin : ∀ {σ' : L2.St} {H' : Hp} {v : V} {u : Value}, Inv (ncx CX P w K mg base N ⟨name, qual, params, supSt z j p0 p1 p2 p3 p4 p5 :: rest, scope, [("__class__", cc)], cda⟩ f A outer s H E) [] σ' H' s' → RelV v u → Q v H' → CE outer P w H s Q u s' :=
    fun {σ' H' v u} J rv q => ⟨v, H', J.os, J.bare, J.base, J.hok, rv, q⟩
  cases fl with
  | ret u =>
    obtain ⟨v, σ', H', J, rv, q⟩ := hs
    exact fin J rv q
  | next =>
    obtain ⟨σ', H', J, q⟩ := hs
    exact fin (v := V.non) (u := Value.none) J rfl q
  | brk =>
    obtain ⟨_, _, _, q⟩ := hs
    exact False.elim q
  | cont =>
    obtain ⟨_, _, _, q⟩ := hs
    exact False.elim q
end Cm
/-! own errors as values: made, kept in lists, asked for their class and their fields -/
namespace Cm
open PySem PySem.W L2 SX
open PySem.Spec PyProof.Rows PySem.Calls
section
variable {prog : Program} {w : World} {A : Around} {E : Value → Shared → Prop} {s : Shared} {K : Frag} {x D : Addr} {ox : Obj} {od : Option Obj}
theorem find_cls {C : Addr} {name : Str} {a g : Value} (hc : (clsIn K C).isSome = true) (ha : findIn K (.ref C) name = some (some a)) (hg : specialIn K a "__get__" = some (some g)) (ht : takesIn K a = some true) : findObj K C od name = some (.bind g a) := by
  obtain ⟨cd, hc⟩ := Option.isSome_iff_exists.mp hc
  unfold findObj
  rw [hc, Option.bind_some, ha, Option.bind_some]
  simp [hg, ht]
theorem cls_of_exc {Q : Option Value → Shared → Prop} (T : ExcC K D) (X : K.In s.heap) (I : InstAt s.heap x ox D od) (h : Q (some (.ref D)) { s with toks := s.toks + 1 }) : wpAny (model prog w) A (getAttr? (.ref x) "__class__") Q E s := by
  have hf : findObj K D od "__class__" = some (.bind (.builtin "getset_descriptor.__get__") (.builtin "object.__class__")) := find_cls (by obtain ⟨cd, hc, _⟩ := any_some T.hd; rw [hc]; rfl) T.ha T.hn T.ht
  obtain ⟨hp, g, d, t, os⟩ := s
  have L0 := I.type (M := model prog w)
  have sub : Looks (model prog w) hp (isInstance (.ref x) (.type "BaseException")) true := L0.andThen (looks_subIn X T.hs)
  have hx0 : (false && onTheHeap (Value.builtin "BaseException.__getattribute__")) = false := rfl
  have hx2 : (Value.builtin "BaseException.__getattribute__" == Value.builtin "object.__getattribute__") = false := by decide +kernel
  have hx1 : (onTheHeap (Value.ref D) && Value.builtin "BaseException.__getattribute__" == Value.builtin "object.__getattribute__") = false := by rw [hx2]; rfl
  unfold getAttr? getAttrBy? getAttrBy
  refine wpAny_bind (wpAny_mkText (wpAny_bind (wpAny_attempt (wpAny_holding (wpAny_bind (L0.at (wpAny_bind ((looks_findIn (M := model prog w) X T.hg).at ?_))))))))
  show wpAny _ _ (if (onTheHeap (Value.ref D) && Value.builtin "BaseException.__getattribute__" == Value.builtin "object.__getattribute__") = true then _ else _) _ _ _
  rw [hx1, if_neg Bool.false_ne_true]
  unfold getAttrByItsOwn hookBefore
  refine wpAny_bind ?_
  rw [if_pos (show onTheHeap (Value.ref D) = true from rfl)]
  refine (looks_findIn (M := model prog w) X T.hk).at ?_
  refine wpAny_bind (wpAny_attempt (wpAny_holding ?_))
  unfold callGetattribute
  rw [hx0, if_neg Bool.false_ne_true]
  unfold boundAndCalled
  rw [PySem.F.excAttr_ValueError.ga.bind (.ref x)]
  refine wpAny_bind (wpAny_pure ?_)
  show wpAny _ _ (call (.builtin "BaseException.__getattribute__") [.ref x, .str "__class__" t]) _ _ _
  refine wpAny_call (codeAny_call_builtin PySem.F.excAttr_ValueError.ga.plain PySem.F.entry_bexc_ga ?_)
  refine @check_slot (model prog w) _ _ ⟨hp, g, d, t + 1, os⟩ "BaseException.__getattribute__" "BaseException" "__getattribute__" (.ref x) [.str "__class__" t] [] _ (by decide +kernel) (by decide +kernel) sub (PySem.F.args_bexc_ga (.ref x) (.str "__class__" t)) ?_
  unfold Builtin.«object.__getattribute__»
  refine wpAny_bind (wpAny_of_eq (a := ((Value.ref x : Value), [Value.str "__class__" t])) (by first | rfl | (simp only [slotArgs]; rfl)) ?_)
  refine wpAny_bind (wpAny_pure (wpAny_bind (L0.at (wpAny_bind ((looks_find (M := model prog w) X I hf).at ?_)))))
  show wpAny _ _ (holding [Value.builtin "object.__class__"] (call (.builtin "getset_descriptor.__get__") [.builtin "object.__class__", .ref x, .ref D]) >>= ret) _ _ _
  refine wpAny_bind (wpAny_holding (wpAny_call (class_get (s := ⟨hp, g, d, t + 1, os⟩) (ox := ox) (od := od) X I T.hm ?_)))
  refine wpAny_pure ?_
  show wpAny _ _ (handedOut (.ref D)) _ _ _
  rw [handedOut_of (v := .ref D) rfl]
  first
    | exact wpAny_pure (wpAny_pure h)
    | exact wpAny_pure h
    | exact wpAny_pure (wpAny_bind (wpAny_pure (wpAny_pure h)))
theorem kit_exd (T : ExcC K D) : KitX K (.ref x) (.ref D) (fun h => InstAt h x ox D od) where
  ty := fun _ _ _ I => I.type
  it := fun _ _ X _ => by
    obtain ⟨cdD, hcD, _⟩ := any_some T.hd
    unfold clsIn at hcD
    split at hcD
    · rename_i c' d' cd' sl' ho
      intro A' Q' E' s' k q
      unfold isType loadHead
      exact wpAny_bind (wpAny_loadPart (k _ _ (X _ _ ho)) (wpAny_pure q))
    · cases hcD
  ne := fun h tp dd its n sl X htp => by
    obtain ⟨cdD, hcD, _⟩ := any_some T.hd
    refine Bool.eq_false_iff.mpr fun q => ?_
    obtain rfl : D = tp := Value.ref.inj (beq_iff_eq.mp q)
    unfold clsIn at hcD
    split at hcD
    · rename_i c' d' cd' sl' ho
      have z := (X _ _ ho).symm.trans htp
      cases z
    · cases hcD
  ca := fun X I k => cls_of_exc T X I k
end
section
variable {X : Cx}
theorem exo_inst {P : Program} {w : World} {H : Hp} {h : Heap} {a D d : Addr} {fs : List (Str × V)} (hok : HOk P w H h) (ea : H a = some (exo a D (some d))) (ed : H d = some (exd d fs)) : ∃ oe od, InstAt h a oe D (some od) ∧ ∃ mA, h.Ns1 d mA ∧ (∀ f, RelO (fs.lookup f) (mA f)) ∧ h.get? d = some od ∧ oe.dict = some d := by
  obtain ⟨t1, ho⟩ := exo_at hok ea
  obtain ⟨mA, hns, hr⟩ := exd_at hok ed
  obtain ⟨od, hod, hl⟩ := lookIn_ns hns
  exact ⟨_, od, ⟨ho, rfl, rfl, hod⟩, mA, hns, hr, hod, rfl⟩
/-- isinstance(e, c), e an own error with fields -/
def rIsX (K : Frag) : List V → Hp → VK → Prop := fun xs H Q => ∃ (a D d : Addr) (fs : List (Str × V)) (c : V) (cv : Value) (b : Bool), xs = [.ref a, c] ∧ ExcC K D ∧ H a = some (exo a D (some d)) ∧ H d = some (exd d fs) ∧ (∀ u, RelV c u → u = cv) ∧ kitOne K (.ref D) cv = some b ∧ Q (.bl b) H
theorem call_isX : CallR X (.builtin "isinstance") (rIsX X.K) := by
  intro pins s σ H xs us Q I r h
  obtain ⟨a, D, d, fs, c, cv, b, rfl, C, ha, hd, hcv, e, q⟩ := h
  obtain ⟨u1, u2, rfl, r1, r2⟩ := r.two
  cases r1
  have ec := hcv _ r2
  subst ec
  obtain ⟨oe, od, J, _⟩ := exo_inst I.hok ha hd
  exact PySem.W.kia_one (kit_exd C) I.kIn J e (fun z => nomatch z) fun tk => ⟨.bl b, H, I.tok tk, rfl, q⟩
/-- e.f, e an own error with fields -/
def tXv (K : Frag) (f : Str) (te : TE) : TE := fun σ H Q => te σ H fun x H1 => ∃ (a C d : Addr) (fs : List (Str × V)) (v : V), x = .ref a ∧ XfC K C ∧ findIn K (.ref C) f = some none ∧ H1 a = some (exo a C (some d)) ∧ H1 d = some (exd d fs) ∧ fs.lookup f = some v ∧ Q v H1
theorem pe_xv {e : Expr} {te : TE} {pos : Pos} {n : Str} (he : PE X e te) (hb : attributeBase e n X.env (eval e X.env) = eval e X.env := by rfl) : PE X (.Attribute e n pos) (tXv X.K n te) := by
  refine ⟨fun pins s σ H Q I h => ?_⟩
  refine attr_of hb (thn (he.run pins s σ H _ I h) fun u s1 hh => ?_)
  obtain ⟨x, H1, I1, rx, a, C, d, fs, v, ex, T, hno, ea, ed, l, q⟩ := hh
  subst ex
  obtain rfl : u = Value.ref a := rx
  obtain ⟨t1, ho⟩ := exo_at I1.hok ea
  obtain ⟨mA, hns, hr⟩ := exd_at I1.hok ed
  obtain ⟨od, hod, hl⟩ := lookIn_ns hns
  obtain ⟨u, hu, ru⟩ := RelO.some_of (v := v) (o := mA n) (by rw [← l]; exact hr n)
  have J : InstAt s1.heap a _ C (some od) := ⟨ho, rfl, rfl, hod⟩
  exact HandSPX.exc_get I1.kIn J T.ga T.gg T.exC (PySem.W.findObj_own T.hdC hno rfl (by rw [hl, hu])) (handed_of ru) ⟨v, H1, I1.tok _, ru, q⟩
/-- C(text), an own class without own __init__, as a value -/
theorem pe_exV {C : Addr} {bmB : List Value} {B newId initId : String} {x : Str} {e : Expr} {ta : TE} {p pos : Pos} (F : ExcBaseFacts B newId initId bmB) (q : excIn X.K C bmB newId = true) (gC : X.mg x = some (.ref C)) (kC : keepIn X.K (.ref C) = true) (hg : Gl X x)
    (he : PE X e ta) (hs : starEach [e] X.env = (false, eval e X.env) :: starEach [] X.env := by rfl) (hdb : (x == ("__debug__" : Str)) = false := by decide) :
    PE X (.Call (.Name x p) [e] [] pos) (fun σ H Q => ta σ H fun _ H1 => ∀ a, H1 a = none → Q (.ref a) (upd H1 a (eOb a (.ref C) none))) := by
  refine ⟨fun pins s σ H Q I h => ?_⟩
  refine wpAny_Call_Name_kw (ld_glob I hg gC ?_ hdb)
  refine PySem.W.callWith_K (h₀ := X.base) I.ok.mod.kin kC ?_ hs (by rfl)
  rw [hs]
  show wpAny _ _ (spliced ((false, eval e X.env) :: backTo pos (starEach [] X.env))) _ _ s
  refine Calls.spliced_cons (thn (he.run pins s σ H _ I h) fun u s1 ⟨v, H1, I1, r1, q1⟩ => ?_)
  refine Calls.spliced_nil ⟨I1.kIn, ?_⟩
  show wpAny _ _ (call (.ref C) [u]) _ _ _
  obtain ⟨bm, N, nm, qn, bs, hdct, sn, sub, ab, col, dd, k0, k1, k2, k3, k5, mN, hC, hN, hni, T⟩ := exc_obj I1.kIn q
  refine wpAny_call_exc_subT F T hC hN hni (fun h' a hm => ?_) (by show 1 ≤ sizeLine; rw [sizeLine_eq]; omega)
  have hn : H1 a = none := I1.hok.gone hm.new
  obtain ⟨t, ht, _, _⟩ := hm.there
  exact ⟨.ref a, upd H1 a (eOb a (.ref C) none), I1.laidN hm.keeps hm.new hn (eOb_ok ht ⟨rfl, rfl⟩ rfl), rfl, q1 a hn⟩
/-- C(e, ..) as a value, C's own __init__ keeping sp -/
def tMkV (C : Addr) (sp : Sp) (ta : TA) : TE := fun σ H Q => ta σ H fun vs H1 => vs.length ≤ 1000 ∧ ∀ a, H1 a = none → sp (.ref a :: vs) (upd H1 a (exo a C none)) (fun v H2 => v = .non ∧ Q (.ref a) H2) (fun _ _ _ => False)
theorem pe_oexV {CX : CXT} {x : Str} {e : Expr} {es : List Expr} {ta : TA} {p pos : Pos} {C fI : Addr} {k : Nat} {fd : FuncData} {ps : List Str} {sp : Sp} (T : OexC X.K C) (kC : keepIn X.K (.ref C) = true) (iC : findIn X.K (.ref C) "__init__" = some (some (.ref fI))) (tI : typeIn X.K (.ref fI) = some (.type "function"))
    (F1 : FnOk X.prog X.w X.K X.mg X.base CX k fI fd ps sp) (hr : Room (k + 1) X.A) (hb : L2.Binds X.K fd ps []) (hx : Passes CX X (fun _ _ _ => False)) (hg : Gl X x) (hm : X.mg x = some (.ref C)) (ha : PA X (e :: es) ta)
    (hdb : (x == ("__debug__" : Str)) = false := by decide) (he : starEach (e :: es) X.env = (false, eval e X.env) :: starEach es X.env := by rfl) (hpl : (backTo pos (starEach es X.env)).any (·.1) = false := by rfl) :
    PE X (.Call (.Name x p) (e :: es) [] pos) (tMkV C sp ta) := by
  refine ⟨fun pins s σ H Q I h => ?_⟩
  obtain ⟨nm, q, N, bs, bm, sn, sub, ab, col, dd, k0, k1, k2, k3, k5, hC, hbm⟩ := T.cls
  refine wpAny_Call_Name_kw (ld_glob I hg hm ?_ hdb)
  refine PySem.W.callWith_K (h₀ := X.base) I.ok.mod.kin kC (thn (ha.run pos pins s σ H _ I h) fun us s1 ⟨vs, H1, I1, r1, hz, q1⟩ => ⟨I1.kIn, ?_⟩) he hpl
  show wpAny _ _ (call (.ref C) us) _ _ _
  obtain ⟨hp, g, dr, tk, os⟩ := s1
  have hsz : hp.objs.size ≤ hp.objs.size + 1 := Nat.le_succ _
  have hn : H1 (hp.objs.size + 1) = none := I1.hok.fresh hsz
  have hq := q1 (hp.objs.size + 1) hn
  have kk : ∀ b o, hp.get? b = some o → ((hp.push (PySem.W.kdv_tup us)).push (PySem.HandSPX.excO C hp.objs.size)).get? b = some o := fun b o e => Heap.get?_push_of_some _ (Heap.get?_push_of_some _ e)
  have hget : ((hp.push (PySem.W.kdv_tup us)).push (PySem.HandSPX.excO C hp.objs.size)).get? (hp.objs.size + 1) = some (PySem.HandSPX.excO C hp.objs.size) := by heap_get
  have I2 : Inv X pins σ (upd H1 (hp.objs.size + 1) (exo (hp.objs.size + 1) C none)) ⟨(hp.push (PySem.W.kdv_tup us)).push (PySem.HandSPX.excO C hp.objs.size), g, dr, tk, os⟩ :=
    I1.laid (t' := tk) (a := hp.objs.size + 1) (o := exo (hp.objs.size + 1) C none) (h' := (hp.push (PySem.W.kdv_tup us)).push (PySem.HandSPX.excO C hp.objs.size)) kk hsz (exo_ok hget)
  have r2 : Vals (V.ref (hp.objs.size + 1) :: vs) (Value.ref (hp.objs.size + 1) :: us) := .cons rfl r1
  have hl : (Value.ref (hp.objs.size + 1) :: us ++ []).length = ps.length := by
    have e := r2.length
    rw [F1.len _ _ _ _ hq] at e
    rw [List.append_nil]
    exact e.symm
  have hus : us.length ≤ sizeLine := by
    rw [← Paired.length r1, sizeLine_eq]
    omega
  refine wpAny_call (PySem.HandSPX.call_own F.excBase_ValueError (fun Y => PySem.HandSPX.refsVE_contains Y bm hbm) (I1.kIn _ _ hC) (PySem.W.looks_findIn I1.kIn iC) (fun self => PySem.W.bind_fn I1.kIn self tI) hus
    (codeAny_mono (F1.run _ X.stack _ _ ⟨Value.ref (hp.objs.size + 1) :: us, []⟩ (Value.ref (hp.objs.size + 1) :: us) _ _ (fun _ _ _ => False) (hr.make C us []) (I2.env0.make C us []) (by have z := hb _ (Value.ref (hp.objs.size + 1) :: us) I2.kIn hl; rw [List.append_nil] at z; exact z) r2 hq) fun r s' hq' => ?_))
  cases r with
  | error er => exact hx pins σ _ _ er s' I2 hq'
  | ok fl =>
    cases fl with
    | ret u =>
      obtain ⟨v, H2, J, rv, ev, q2⟩ := I2.after hq'
      subst ev
      exact ⟨rv, .ref (hp.objs.size + 1), H2, J, rfl, q2⟩
    | next => exact False.elim hq'
    | brk => exact False.elim hq'
    | cont => exact False.elim hq'
end
end Cm
/-! tuples kept as the objects that were made: dict of a tuple of pairs; zip; calls of what a local name holds -/
namespace DD
open PySem PySem.W L2 SX Cm
section
variable {X : Cx}
/-! dict of a tuple of pairs -/
/-! zip of two tuples or of two lists -/
def zipD (xs ys : List DV) : List DV := List.zipWith (fun x y => .tup [x, y]) xs ys
variable {elts : List Expr} {kk : Nat} {tpos : Pos}
def dIZip (t : TDA) : TDI := fun δ G R => t δ G fun vs G1 => (∃ xs ys, vs = [.tup xs, .tup ys] ∧ R (zipD xs ys) (fun _ => True) G1) ∨ ∃ p q xs ys, vs = [.ref p, .ref q] ∧ Ls G1 p xs ∧ Ls G1 q ys ∧ R (zipD xs ys) (fun G => Ls G p xs ∧ Ls G q ys) G1
end
end DD
namespace DD
open PySem PySem.W L2 SX Cm
section
variable {X : Cx} {i o : Expr} {ti td : TD} {pos : Pos}
theorem wi_zip {δ : DSt} {G : DG} {t : TDA} {R : List DV → (DG → Prop) → DG → Prop} (h : t δ G fun vs G1 => (∃ xs ys, vs = [.tup xs, .tup ys] ∧ R (zipD xs ys) (fun _ => True) G1) ∨ ∃ p q xs ys, vs = [.ref p, .ref q] ∧ Ls G1 p xs ∧ Ls G1 q ys ∧ R (zipD xs ys) (fun G => Ls G p xs ∧ Ls G q ys) G1) : dIZip t δ G R := h
end
end DD
/-! instances of a class over data: fields, methods, makers -/
namespace DD
open PySem PySem.W L2 SX Cm
def oputO (f : Str) (v : DV) : List (Str × DV) → List (Str × DV)
  | [] => [(f, v)]
  | (g, x) :: r => if g = f then (g, v) :: r else (g, x) :: oputO f v r
theorem look_cons {α : Type} (f g : Str) (x : α) (r : List (Str × α)) : List.lookup f ((g, x) :: r) = if f = g then some x else List.lookup f r := by
  rw [List.lookup_cons]
  by_cases h : f = g
  · rw [if_pos h, h, beq_self_eq_true]
  · rw [if_neg h, beq_eq_false_iff_ne.mpr h]
theorem FRV.len {K : Frag} {H : Hp} {vs : List (Str × V)} {ds : List (Str × DV)} (h : FRV K H vs ds) : vs.length = ds.length := by
  induction h with
  | nil => rfl
  | cons _ _ ih => rw [List.length_cons, List.length_cons, ih]
theorem FRV.look {K : Frag} {H : Hp} {f : Str} {vs : List (Str × V)} {ds : List (Str × DV)} (h : FRV K H vs ds) : ∀ {d : DV}, ds.lookup f = some d → ∃ v, vs.lookup f = some v ∧ RV K H v d := by
  induction h with
  | nil => intro d e; cases e
  | cons r _ ih =>
    intro d e
    rw [look_cons] at e ⊢
    split at e
    · cases e; rw [if_pos (by assumption)]; exact ⟨_, rfl, r⟩
    · rw [if_neg (by assumption)]; exact ih e
theorem FRV.none {K : Frag} {H : Hp} {f : Str} {vs : List (Str × V)} {ds : List (Str × DV)} (h : FRV K H vs ds) : ds.lookup f = Option.none → vs.lookup f = Option.none := by
  induction h with
  | nil => intro _; rfl
  | cons r _ ih =>
    intro e
    rw [look_cons] at e ⊢
    split at e
    · cases e
    · rw [if_neg (by assumption)]; exact ih e
theorem FRV.put {K : Frag} {H : Hp} {f : Str} {v : V} {d : DV} (r : RV K H v d) {vs : List (Str × V)} {ds : List (Str × DV)} (h : FRV K H vs ds) : FRV K H (putF f v vs) (oputO f d ds) := by
  induction h with
  | nil => exact .cons r .nil
  | cons q t ih =>
    unfold putF oputO
    split
    · exact .cons r t
    · exact .cons q ih
theorem _root_.Cm.TKs.ins {K : Frag} {H : Hp} {p C dx : Addr} {fs : List (Str × V)} {u : HO} (h : H p = some (.ins C dx fs)) : TKs K H (upd H p u) := fun a xs g => by
  have ne : ∀ o, H a = some o → (∀ C dx fs, o ≠ .ins C dx fs) → a ≠ p := fun o e n z => by
    rw [z, h] at e
    exact n _ _ _ (Option.some.inj e).symm
  rcases g with (g | ⟨o, g⟩) | g
  · exact .inl (.inl (by rw [upd_ne (ne _ g fun _ _ _ z => by cases z)]; exact g))
  · exact .inl (.inr ⟨o, by rw [upd_ne (ne _ g fun _ _ _ z => by cases z)]; exact g⟩)
  · exact .inr g
/-! readings -/
end DD
/-! own errors as values, over data -/
namespace DD
open PySem PySem.W L2 SX Cm
/-- an own error of the class at C, its dict at d -/
def exoG (C d : Addr) : DO := .gen fun _ H a => H a = some (exo a C (some d))
/-- the dict of an own error -/
def exdG (fs : List (Str × DV)) : DO := .gen fun K H d => ∃ vs, H d = some (exd d vs) ∧ FRV K H vs fs
theorem or_exo {K : Frag} {H : Hp} {O : Addr → Option Addr} {a C d : Addr} (e : H a = some (exo a C (some d))) : OR K H O a (exoG C d) := ⟨⟨_, e⟩, e, fun H1 H2 t k h => k.trans h⟩
theorem or_exd {K : Frag} {H : Hp} {O : Addr → Option Addr} {d : Addr} {vs : List (Str × V)} {fs : List (Str × DV)} (e : H d = some (exd d vs)) (r : FRV K H vs fs) : OR K H O d (exdG fs) := ⟨⟨_, e⟩, ⟨vs, e, r⟩, fun H1 H2 t k ⟨vs, h, r⟩ => ⟨vs, k.trans h, r.mono t⟩⟩
theorem wd_exo {K : Frag} {H : Hp} {G : DG} {a C d : Addr} (w : Wd K H G) (e : G a = some (exoG C d)) : H a = some (exo a C (some d)) := by
  obtain ⟨O, w⟩ := w
  exact (w.ob a _ e).2.1
theorem wd_exd {K : Frag} {H : Hp} {G : DG} {d : Addr} {fs : List (Str × DV)} (w : Wd K H G) (e : G d = some (exdG fs)) : ∃ vs, H d = some (exd d vs) ∧ FRV K H vs fs := by
  obtain ⟨O, w⟩ := w
  exact (w.ob d _ e).2.1
/-- what an own __init__ with these fields promises -/
def spEx (C : Addr) (fl : List Str) : Sp := fun vs H Q E => ∃ a more, vs = .ref a :: more ∧ more.length = fl.length ∧ H a = some (exo a C none) ∧ ∀ d, H d = none → d ≠ a → Q .non (upd (upd H d (exd d (fl.zip more).reverse)) a (exo a C (some d)))
structure ExI (P : Program) (w : World) (K : Frag) (mg : Str → Option Value) (base : Heap) (k : Nat) (x : Str) (C : Addr) (fl : List Str) : Prop where
  own : OexC K C
  kC : keepIn K (.ref C) = true
  mgC : mg x = some (.ref C)
  ini : ∃ fI fd ps, findIn K (.ref C) "__init__" = some (some (.ref fI)) ∧ typeIn K (.ref fI) = some (.type "function") ∧ FnOk P w K mg base (L2.CX P w) k fI fd ps (spEx C fl) ∧ L2.Binds K fd ps []
theorem frv_zip {K : Frag} {H : Hp} : ∀ (fl : List Str) {vs : List V} {ds : List DV}, RVs K H vs ds → FRV K H (fl.zip vs) (fl.zip ds)
  | [], _, _, _ => .nil
  | f :: fl, _, _, .nil => .nil
  | f :: fl, _, _, .cons r t => .cons r (frv_zip fl t)
theorem FRV.snoc {K : Frag} {H : Hp} {vs vs' : List (Str × V)} {ds ds' : List (Str × DV)} (h : FRV K H vs ds) (g : FRV K H vs' ds') : FRV K H (vs ++ vs') (ds ++ ds') := by
  induction h with
  | nil => exact g
  | cons r _ ih => exact .cons r ih
theorem FRV.rev {K : Frag} {H : Hp} {vs : List (Str × V)} {ds : List (Str × DV)} (h : FRV K H vs ds) : FRV K H vs.reverse ds.reverse := by
  induction h with
  | nil => exact .nil
  | cons r _ ih => rw [List.reverse_cons, List.reverse_cons]; exact ih.snoc (.cons r .nil)
section
variable {X : Cx} {k : Nat} {x : Str} {C : Addr} {fl : List Str} {e : Expr} {es : List Expr} {ta : TDA} {te : TD} {p pos : Pos}
/-- C(e, ..), C with its own __init__ -/
def dMkX (C : Addr) (fl : List Str) (ta : TDA) : TD := fun δ G Q => ta δ G fun ds G1 => ds.length = fl.length ∧ ds.length ≤ 1000 ∧ ∀ a d, G1 a = none → G1 d = none → a ≠ d → Q (.ref a) (dupd (dupd G1 d (exdG (fl.zip ds).reverse)) a (exoG C d))
theorem de_mkX (T : ExI X.prog X.w X.K X.mg X.base k x C fl) (hr : Room (k + 1) X.A) (hg : Gl X x) (ha : DA X (e :: es) ta)
    (hdb : (x == ("__debug__" : Str)) = false := by decide) (he : starEach (e :: es) X.env = (false, eval e X.env) :: starEach es X.env := by rfl) (hpl : (backTo pos (starEach es X.env)).any (·.1) = false := by rfl) :
    DE X (.Call (.Name x p) (e :: es) [] pos) (dMkX C fl ta) := by
  obtain ⟨fI, fd, ps, iC, tI, F1, hb⟩ := T.ini
  refine PE_mono (pe_oexV T.own T.kC iC tI F1 hr hb (passes_call (E := fun _ _ _ => False) takes0 fun _ _ _ _ h => h) hg T.mgC ha hdb he hpl) fun σ H Q ⟨δ, G, R, sl, w, h, f⟩ => ⟨δ, G, _, sl, w, h, fun ds G1 vs H1 ⟨l1, l2, q⟩ t1 w1 r1 => ⟨by rw [r1.len]; exact l2, fun a na => ⟨a, vs, rfl, by rw [r1.len]; exact l1, upd_same, fun d nd da => ⟨rfl, ?_⟩⟩⟩⟩
  have nd1 : H1 d = none := by rw [upd_ne da] at nd; exact nd
  have eH : upd (upd (upd H1 a (exo a C none)) d (exd d (fl.zip vs).reverse)) a (exo a C (some d)) = upd (upd H1 d (exd d (fl.zip vs).reverse)) a (exo a C (some d)) := by
    funext b
    by_cases hb : b = a
    · rw [hb, upd_same, upd_same]
    · rw [upd_ne hb, upd_ne hb]
      by_cases hd : b = d
      · rw [hd, upd_same, upd_same]
      · rw [upd_ne hd, upd_ne hd, upd_ne hb]
  rw [eH]
  have s1 := same_new nd1 (exd d (fl.zip vs).reverse)
  have na2 : (upd H1 d (exd d (fl.zip vs).reverse)) a = none := by rw [upd_ne da.symm]; exact na
  have s2 := same_new na2 (exo a C (some d))
  have w2 := w1.new (o := exdG (fl.zip ds).reverse) nd1 fun O => or_exd upd_same ((frv_zip fl (r1.mono (.of s1))).rev)
  have w3 := w2.new (o := exoG C d) na2 fun O => or_exo upd_same
  exact f _ _ _ _ (q a d (w1.free na) (w1.free nd1) da.symm) (t1.trans ((TKs.of s1).trans (TKs.of s2))) w3 (.ref a)
/-- C(text) -/
def dEx1 (C : Addr) (te : TD) : TD := fun δ G Q => te δ G fun _ G1 => ∀ a, G1 a = none → Q (.ref a) (dupd G1 a (.err (.ref C)))
theorem de_ex1 (c : ErrC X.K X.mg x C) (hg : Gl X x) (he : DE X e te) (hs : starEach [e] X.env = (false, eval e X.env) :: starEach [] X.env := by rfl) (hdb : (x == ("__debug__" : Str)) = false := by decide) : DE X (.Call (.Name x p) [e] [] pos) (dEx1 C te) :=
  PE_mono (pe_exV PySem.F.excBase_ValueError c.xP c.gP c.kP hg he hs hdb) fun σ H Q ⟨δ, G, R, sl, w, h, f⟩ => ⟨δ, G, _, sl, w, h, fun ds G1 vs H1 q t1 w1 r1 => fun a na => by
    have s' := same_new na (eOb a (.ref C) none)
    exact f _ _ _ _ (q a (w1.free na)) (t1.trans (TKs.of s')) (w1.new na fun O => upd_same) (.ref a)⟩
/-- the own error at a, of the class at D -/
def IsEx (G : DG) (a D : Addr) : Prop := G a = some (.err (.ref D)) ∨ ∃ d fs, G a = some (exoG D d) ∧ G d = some (exdG fs)
def bIsX (K : Frag) : DC := fun ds G Q => ∃ a D d c b, ds = [.ref a, d] ∧ IsEx G a D ∧ ExcC K D ∧ clsOf d = some c ∧ kitOne K (.ref D) c = some b ∧ Q (.bl b) G
theorem cd_isX : CallD X (.builtin "isinstance") (bIsX X.K) := by
  refine ⟨fun xs H Q => rIsH X.K xs H Q ∨ rIsX X.K xs H Q, fun pins s σ H xs us Q I r h => ?_, fun ds vs H G R Q r w ⟨a, D, dd, c, b, e, ha, C, hc, hk, q⟩ f => ?_⟩
  · rcases h with h | h
    · exact call_isH pins s σ H xs us Q I r h
    · exact call_isX pins s σ H xs us Q I r h
  subst e
  cases r with
  | cons r1 r2 =>
    cases r2 with
    | cons r2 r3 =>
      cases r3
      cases r1
      rcases ha with ha | ⟨d, fs, ha, hd⟩
      · obtain ⟨O, wo⟩ := id w
        exact .inl ⟨a, D, _, c, b, rfl, C, wo.ob a _ ha, clsOf_rel r2 hc, hk, f _ G _ H q (TKs.refl H) w (.bl b)⟩
      · obtain ⟨vs, hv, _⟩ := wd_exd w hd
        exact .inr ⟨a, D, d, vs, _, c, b, rfl, C, wd_exo w ha, hv, clsOf_rel r2 hc, hk, f _ G _ H q (TKs.refl H) w (.bl b)⟩
/-- e.f, e an own error -/
def dXv (K : Frag) (f : Str) (te : TD) : TD := fun δ G Q => te δ G fun x G1 => ∃ a C d fs y, x = .ref a ∧ XfC K C ∧ findIn K (.ref C) f = some none ∧ G1 a = some (exoG C d) ∧ G1 d = some (exdG fs) ∧ fs.lookup f = some y ∧ Q y G1
theorem de_xv {n : Str} (he : DE X e te) (hb : attributeBase e n X.env (eval e X.env) = eval e X.env := by rfl) : DE X (.Attribute e n pos) (dXv X.K n te) :=
  PE_mono (pe_xv he hb) fun σ H Q ⟨δ, G, R, sl, w, h, f⟩ => ⟨δ, G, _, sl, w, h, fun x G1 v H1 ⟨a, C, d, fs, y, ex, T, hno, ha, hd, l, q⟩ t1 w1 r1 => by
    subst ex
    cases r1
    obtain ⟨vs, hv, rv⟩ := wd_exd w1 hd
    obtain ⟨v, lv, r⟩ := rv.look l
    exact ⟨a, C, d, vs, v, rfl, T, hno, wd_exo w1 ha, hv, lv, f _ _ _ _ q t1 w1 r⟩⟩
end
/-! ### readings -/
section
variable {K : Frag} {C : Addr} {fl : List Str} {ta : TDA} {te : TD} {δ : DSt} {G : DG} {Q : DK}
theorem w_mkX (h : ta δ G fun ds G1 => ds.length = fl.length ∧ ds.length ≤ 1000 ∧ ∀ a d, G1 a = none → G1 d = none → a ≠ d → Q (.ref a) (dupd (dupd G1 d (exdG (fl.zip ds).reverse)) a (exoG C d))) : dMkX C fl ta δ G Q := h
theorem w_ex1 (h : te δ G fun _ G1 => ∀ a, G1 a = none → Q (.ref a) (dupd G1 a (.err (.ref C)))) : dEx1 C te δ G Q := h
theorem w_isX {a D : Addr} {d : DV} {v : Value} {b : Bool} (ha : IsEx G a D) (x : ExcC K D) (hc : clsOf d = some v) (hk : kitOne K (.ref D) v = some b) (h : Q (.bl b) G) : bIsX K [.ref a, d] G Q := ⟨a, D, d, v, b, rfl, ha, x, hc, hk, h⟩
theorem w_xv {n : Str} (h : te δ G fun x G1 => ∃ a C d fs y, x = .ref a ∧ XfC K C ∧ findIn K (.ref C) n = some none ∧ G1 a = some (exoG C d) ∧ G1 d = some (exdG fs) ∧ fs.lookup n = some y ∧ Q y G1) : dXv K n te δ G Q := h
end
/-! ### __init__ with one field, with two -/
end DD
/-! own errors whose __init__ says super().__init__(text) and stores one field or two -/
namespace DD
open PySem PySem.W L2 SX Cm NdefX
section
variable {P : Program} {w : World} {K : Frag} {mg : Str → Option Value} {base : Heap} {k : Nat} {x : Str} {C cc cda fI : Addr} {st : Stmt} {qual : Str} {dV kV doc pm ct oc : Value} {an od : Option Addr} {osl : Array (Option Value)} {f1 f2 a1 a2 z : Str} {j : Nat} {p0 p1 p2 p3 p4 p5 q1 q2 q3 q4 r1 r2 r3 r4 : Pos}
abbrev supFn (st : Stmt) (qual : Str) (cc cda : Addr) (body : List Stmt) : NF := ⟨"__init__", qual, defArgs st, body, defScope st, [("__class__", cc)], cda⟩
theorem exI1 (own : OexC K C) (kC : keepIn K (.ref C) = true) (mgC : mg x = some (.ref C)) (iC : findIn K (.ref C) "__init__" = some (some (.ref fI))) (tI : typeIn K (.ref fI) = some (.type "function"))
    (lk : K.lookup fI = some ⟨oc, od, .func (fnX "__init__" qual (defArgs st) (defBody st) (defScope st) [("__class__", cc)] dV kV doc pm an (.ref cda) ct), osl⟩) (hcd : codeIn K (.ref cda) qual = true) (T : SupC P K C cc cda) (hm : mg "super" = none)
    (eb : defBody st = [supSt z j p0 p1 p2 p3 p4 p5, .Assign [.Attribute (.Name "self" q1) f1 q2] (.Name a1 q3) q4])
    (S : NScope ["self", a1, "__class__"] ["self", a1] ["__class__"] (defScope st)) (hks : (defScope st).names.lookup ("super" : Str) = some .globalImplicit)
    {ar : Arg} (hp : ((defArgs st).posonlyargs ++ (defArgs st).args).head? = some ar) (har : ar.arg = "self")
    (nb : findIn K (.ref C) f1 = some none) (hb : L2.Binds K (fnX "__init__" qual (defArgs st) (defBody st) (defScope st) [("__class__", cc)] dV kV doc pm an (.ref cda) ct) ["self", a1] [])
    (d1 : (a1 == ("__debug__" : Str)) = false) (d2 : (a1 == ("__classdict__" : Str)) = false)
    (hs : ∀ (L : Addr) (b : List Stmt), swapsWith (.Call (.Attribute (.Call (.Name "super" p0) [] [] p1) "__init__" p2) [.Constant (.str z) j p3] [] p4) none p5.line (envF (supFn st qual cc cda b) fI L) = pure false)
    (hi : ∀ (L : Addr) (b : List Stmt), interactive (envF (supFn st qual cc cda b) fI L) = false)
    (hsw : ∀ (L : Addr) (b : List Stmt), swapsWith (.Name a1 q3) (some (.Attribute (.Name "self" q1) f1 q2)) q4.line (envF (supFn st qual cc cda b) fI L) = pure false)
    (pl : Env → Sem Bool)
    (he : ∀ env : Env, eval (.Call (.Attribute (.Call (.Name "super" p0) [] [] p1) "__init__" p2) [.Constant (.str z) j p3] [] p4) env = (do
      let ov ← attributeBase (.Call (.Name "super" p0) [] [] p1) "__init__" env (eval (.Call (.Name "super" p0) [] [] p1) env)
      standAt p2.atName
      let (f, first) ← holding [ov] (getMethod ov "__init__" (pl env))
      callWith p4 f first (backTo p4 (starEach [.Constant (.str z) j p3] env)) [])) : ExI P w K mg base 1 x C [f1] := by
  refine ⟨own, kC, mgC, fI, _, _, iC, tI, ?_, hb⟩
  rw [eb] at lk
  have hself : (defScope st).names.lookup ("self" : Str) = some .local := S.par "self" List.mem_cons_self
  rw [eb]
  refine ok_sup (N := ["self", a1, "__class__"]) (k := 0) lk hcd S T hks hp (by rw [har]; rfl) (by rw [har]; exact hself) hm (fun vs H Q E ⟨a, more, e, l, _⟩ => by subst e; rw [List.length_cons, l]; rfl) (fun L => hs L _) (fun L => hi L _) pl he fun A outer s H vs Q E hr ⟨a, more, e, l, ea, q⟩ => ?_
  subst e
  obtain ⟨y, rfl⟩ : ∃ y, more = [y] := by
    cases more with
    | nil => cases l
    | cons y m =>
      cases m with
      | nil => exact ⟨y, rfl⟩
      | cons _ _ => cases l
  refine ⟨a, [y], rfl, ea, _, pss_one (ps_ost (f := f1) (pe_var (i := 0) rfl (.inl hself)) (pe_var (i := 1) rfl (.inl (S.par a1 (.tail _ List.mem_cons_self))) d1 d2) (hsw _ _)), ?_⟩
  exact ⟨y, rfl, .ref a, rfl, a, C, rfl, own, nb, .inl ⟨ea, fun dx nd ne => q dx nd ne⟩⟩
theorem exI2 (own : OexC K C) (kC : keepIn K (.ref C) = true) (mgC : mg x = some (.ref C)) (iC : findIn K (.ref C) "__init__" = some (some (.ref fI))) (tI : typeIn K (.ref fI) = some (.type "function"))
    (lk : K.lookup fI = some ⟨oc, od, .func (fnX "__init__" qual (defArgs st) (defBody st) (defScope st) [("__class__", cc)] dV kV doc pm an (.ref cda) ct), osl⟩) (hcd : codeIn K (.ref cda) qual = true) (T : SupC P K C cc cda) (hm : mg "super" = none)
    (eb : defBody st = [supSt z j p0 p1 p2 p3 p4 p5, .Assign [.Attribute (.Name "self" q1) f1 q2] (.Name a1 q3) q4, .Assign [.Attribute (.Name "self" r1) f2 r2] (.Name a2 r3) r4])
    (S : NScope ["self", a1, a2, "__class__"] ["self", a1, a2] ["__class__"] (defScope st)) (hks : (defScope st).names.lookup ("super" : Str) = some .globalImplicit)
    {ar : Arg} (hp : ((defArgs st).posonlyargs ++ (defArgs st).args).head? = some ar) (har : ar.arg = "self")
    (nb : findIn K (.ref C) f1 = some none) (nb2 : findIn K (.ref C) f2 = some none) (hb : L2.Binds K (fnX "__init__" qual (defArgs st) (defBody st) (defScope st) [("__class__", cc)] dV kV doc pm an (.ref cda) ct) ["self", a1, a2] [])
    (d1 : (a1 == ("__debug__" : Str)) = false) (d2 : (a1 == ("__classdict__" : Str)) = false) (d3 : (a2 == ("__debug__" : Str)) = false) (d4 : (a2 == ("__classdict__" : Str)) = false)
    (hs : ∀ (L : Addr) (b : List Stmt), swapsWith (.Call (.Attribute (.Call (.Name "super" p0) [] [] p1) "__init__" p2) [.Constant (.str z) j p3] [] p4) none p5.line (envF (supFn st qual cc cda b) fI L) = pure false)
    (hi : ∀ (L : Addr) (b : List Stmt), interactive (envF (supFn st qual cc cda b) fI L) = false)
    (hsw : ∀ (L : Addr) (b : List Stmt), swapsWith (.Name a1 q3) (some (.Attribute (.Name "self" q1) f1 q2)) q4.line (envF (supFn st qual cc cda b) fI L) = pure false)
    (hsw2 : ∀ (L : Addr) (b : List Stmt), swapsWith (.Name a2 r3) (some (.Attribute (.Name "self" r1) f2 r2)) r4.line (envF (supFn st qual cc cda b) fI L) = pure false)
    (pl : Env → Sem Bool)
    (he : ∀ env : Env, eval (.Call (.Attribute (.Call (.Name "super" p0) [] [] p1) "__init__" p2) [.Constant (.str z) j p3] [] p4) env = (do
      let ov ← attributeBase (.Call (.Name "super" p0) [] [] p1) "__init__" env (eval (.Call (.Name "super" p0) [] [] p1) env)
      standAt p2.atName
      let (f, first) ← holding [ov] (getMethod ov "__init__" (pl env))
      callWith p4 f first (backTo p4 (starEach [.Constant (.str z) j p3] env)) [])) : ExI P w K mg base 1 x C [f1, f2] := by
  refine ⟨own, kC, mgC, fI, _, _, iC, tI, ?_, hb⟩
  rw [eb] at lk
  have hself : (defScope st).names.lookup ("self" : Str) = some .local := S.par "self" List.mem_cons_self
  rw [eb]
  refine ok_sup (N := ["self", a1, a2, "__class__"]) (k := 0) lk hcd S T hks hp (by rw [har]; rfl) (by rw [har]; exact hself) hm (fun vs H Q E ⟨a, more, e, l, _⟩ => by subst e; rw [List.length_cons, l]; rfl) (fun L => hs L _) (fun L => hi L _) pl he fun A outer s H vs Q E hr ⟨a, more, e, l, ea, q⟩ => ?_
  subst e
  obtain ⟨y, y2, rfl⟩ : ∃ y y2, more = [y, y2] := by
    cases more with
    | nil => cases l
    | cons y m =>
      cases m with
      | nil => cases l
      | cons y2 m =>
        cases m with
        | nil => exact ⟨y, y2, rfl⟩
        | cons _ _ => cases l
  refine ⟨a, [y, y2], rfl, ea, _, pss_cons (ps_ost (f := f1) (pe_var (i := 0) rfl (.inl hself)) (pe_var (i := 1) rfl (.inl (S.par a1 (.tail _ List.mem_cons_self))) d1 d2) (hsw _ _)) (pss_one (ps_ost (f := f2) (pe_var (i := 0) rfl (.inl hself)) (pe_var (i := 2) rfl (.inl (S.par a2 (.tail _ (.tail _ List.mem_cons_self)))) d3 d4) (hsw2 _ _))), ?_⟩
  refine ⟨y, rfl, .ref a, rfl, a, C, rfl, own, nb, .inl ⟨ea, fun dx nd ne => ⟨y2, rfl, .ref a, rfl, a, C, rfl, own, nb2, .inr ⟨dx, [(f1, y)], upd_same, by rw [upd_ne ne, upd_same], (by show 1 ≤ 900; omega), ?_⟩⟩⟩⟩
  have z := q dx nd ne
  have eH : upd (upd (upd H dx (exd dx [(f1, y)])) a (exo a C (some dx))) dx (exd dx [(f2, y2), (f1, y)]) = upd (upd H dx (exd dx [(f2, y2), (f1, y)])) a (exo a C (some dx)) := by
    funext b
    by_cases hb : b = dx
    · rw [hb, upd_same, upd_ne ne, upd_same]
    · rw [upd_ne hb]
      by_cases ha : b = a
      · rw [ha, upd_same, upd_same]
      · rw [upd_ne ha, upd_ne hb, upd_ne ha, upd_ne hb]
  show Q .non _
  rw [eH]
  exact z
end
end DD
/-! sorted(set(xs)), xs a list of places: some of them, each once -/
namespace DD
open PySem PySem.W L2 SX Cm PyProof.Rows
section
variable {X : Cx}
/-- sorted(set) of tuples of ints, none of them empty: a list of some of them -/
def rSortSet (K : Frag) (P : Program) (w : World) : List V → Hp → VK → Prop := fun vs H Q => ∃ (a : Addr) (L : List (Addr × List Int)), vs = [V.ref a] ∧ H a = some (SetTO P w a L) ∧ (∀ p ∈ L, SqT K H p.1 (p.2.map V.int)) ∧ (∀ p ∈ L, p.2 ≠ []) ∧
  ∀ (L' : List (Addr × List Int)) (p : Addr), (∀ q ∈ L', q ∈ L) → L'.length < 64 → H p = none → Q (.ref p) (upd H p (.lst (L'.map fun q => V.ref q.1)))
theorem dp_row {K : Frag} {H : Hp} : ∀ (ns : List Int), DpAll K H (ns.map V.int) (ns.map .int)
  | [] => .nil
  | n :: r => .cons (.int n) (dp_row r)
theorem dp_rows {K : Frag} {H : Hp} : ∀ (L : List (Addr × List Int)), (∀ p ∈ L, SqT K H p.1 (p.2.map V.int)) → DpAll K H (L.map fun p => V.ref p.1) (L.map fun p => plE p.2)
  | [], _ => .nil
  | p :: L, h => .cons (.tup (h p List.mem_cons_self) (dp_row p.2)) (dp_rows L fun q hq => h q (List.mem_cons_of_mem _ hq))
theorem reads_each {h : Heap} : ∀ {L : List (Addr × List Int)} {as : List Addr}, ReadsAll h (L.map fun p => Value.ref p.1) (L.map fun p => plE p.2) as → ∀ p ∈ L, ∃ as, Reads h (.ref p.1) (plE p.2) as
  | [], _, _, p, hp => nomatch hp
  | q :: L, _, r, p, hp => by
    cases r with
    | cons r1 r2 =>
      rcases List.mem_cons.mp hp with e | e
      · rw [e]; exact ⟨_, r1⟩
      · exact reads_each r2 p e
theorem each_of {h : Heap} : ∀ {L : List (Addr × List Int)}, (∀ p ∈ L, ∃ as, Reads h (.ref p.1) (plE p.2) as) → EachIs (fun v d => ∃ as, Reads h v d as) (L.map fun p => Value.ref p.1) (L.map fun p => plE p.2)
  | [], _ => .nil
  | p :: L, H => .cons (H p List.mem_cons_self) (each_of fun q hq => H q (List.mem_cons_of_mem _ hq))
theorem cr_sortSet (hc : X.calm = true) (hu : X.A.units + 64 < cLine) : CallR X (.builtin "sorted") (rSortSet X.K X.prog X.w) := by
  intro pins s σ H vs us Q I r h
  obtain ⟨a, L, rfl, ha, hk, hne, q⟩ := h
  have R0 : SetT0 X.prog X.w s.heap a L := (I.hok a _ ha).1
  obtain ⟨es, ep, t, R⟩ := R0.full fun p hp => I.isT (hk p hp)
  rw [Vals.ref1 r]
  have hh := I.ok.hd hc
  obtain ⟨as0, hr0⟩ := Dp.readsAll I _ _ (L.map fun p => Value.ref p.1) (dp_rows L hk) (vals_of_refs L)
  have rd := reads_each hr0
  obtain ⟨o, ho, hex, hd⟩ := R.ob
  have hfew := R.few
  have hsz := R.size
  refine Calls.call_function_entry kind_sorted plain_sorted entry_sorted (args_sorted1 _) ?_
  unfold Builtin.«sorted»
  refine wpAny_bind (m := checkCount "sorted" 1 1 _) (wpAny_pure ?_)
  refine wpAny_bind (collect_set (A := X.A.in1) hh ⟨o, ho, hex.1, hd⟩ R.fits (by unfold scanBound; omega) R.tab.ris R.led fun s1 vs k1 hz g1 o1 pm => ?_)
  have hes : es.toList.map (·.2) = L.map fun q => Value.ref q.1 := by
    rw [R.rows]
    unfold L2.rowsOf
    rw [List.map_map] <;> rfl
  rw [hes] at pm
  have ord : ∀ vs : List Value, (∀ v ∈ vs, ∃ q ∈ L, v = Value.ref q.1) → ∃ L1 : List (Addr × List Int), vs = L1.map (fun q => Value.ref q.1) ∧ ∀ q ∈ L1, q ∈ L := by
    intro vs
    induction vs with
    | nil => intro _; exact ⟨[], rfl, fun q hq => nomatch hq⟩
    | cons v vs ih =>
      intro hv
      obtain ⟨q, hq, e⟩ := hv v List.mem_cons_self
      obtain ⟨L1, e1, hs⟩ := ih fun u hu => hv u (List.mem_cons_of_mem _ hu)
      refine ⟨q :: L1, by rw [List.map_cons, e, e1], fun r hr => ?_⟩
      rcases List.mem_cons.mp hr with z | z
      · rw [z]; exact hq
      · exact hs r z
  obtain ⟨L1, rfl, hs1⟩ := ord vs fun v hv => by
    obtain ⟨q, hq, e⟩ := List.mem_map.mp (pm.mem_iff.mp hv)
    exact ⟨q, hq, e.symm⟩
  have hvl : (L1.map fun q => Value.ref q.1).length < 64 := by rw [pm.length_eq, List.length_map]; exact hfew
  have hL' : (L1.map fun q => Value.ref q.1).length ≤ sizeLine := by rw [sizeLine_eq]; omega
  refine wpAny_bind (wpAny_newList ?_ hL')
  have hoL : (s1.heap.push (seqObj "list" (L1.map fun q => Value.ref q.1).toArray 0)).get? s1.heap.objs.size = some (seqObj "list" (L1.map fun q => Value.ref q.1).toArray 0) := Heap.get?_push_size _ rfl
  have al : ∀ x y : List Int, alike (plE x) (plE y) = true := fun x y => by
    show alike (.tuple (x.map .int)) (.tuple (y.map .int)) = true
    simp only [alike]
    exact alike_ints x y
  have rdS : ∀ p ∈ L1, ∃ as, Reads (sortingHeap (s1.heap.push (seqObj "list" (L1.map fun q => Value.ref q.1).toArray 0)) s1.heap.objs.size (L1.map fun q => Value.ref q.1)) (.ref p.1) (plE p.2) as := fun p hp => by
    obtain ⟨as, r0⟩ := rd p (hs1 p hp)
    exact ⟨as, PyProof.Rows.Reads.keeps (fun b o e => by
      have e1 := k1 b o e
      exact sortingHeap_old (Nat.ne_of_lt (Heap.lt_size e1)) (Heap.get?_push_of_some _ e1)) r0⟩
  have S := SortsAt.data (prog := X.prog) (w := X.w) (A := X.A.in1.in1) (s := { s1 with heap := sortingHeap (s1.heap.push (seqObj "list" (L1.map fun q => Value.ref q.1).toArray 0)) s1.heap.objs.size (L1.map fun q => Value.ref q.1) }) (each_of rdS) (by
      have := AllAlike.of (bs := L1) (enc := fun p => plE p.2) fun b b' => al b.2 b'.2
      exact this) (.inl fun d hm => by
      obtain ⟨p, hp, rfl⟩ := List.mem_map.mp hm
      cases e : p.2 with
      | nil => exact absurd e (hne p (hs1 p hp))
      | cons x r => exact ⟨.int x, r.map .int, by rfl⟩) (fun d hm => by
      obtain ⟨p, hp, rfl⟩ := List.mem_map.mp hm
      have : (plE p.2).depth = 1 := by
        show (PyData.tuple (p.2.map .int)).depth = 1
        simp only [PyData.depth, depth_ints]
      rw [this]
      show X.A.units + 1 + 1 + 1 < cLine
      omega)
  generalize dataKind _ _ = κ at S
  refine wpAny_bind (wpAny_holding (wpAny_call_entry slot_list_sort ⟨_, hoL, rfl⟩ entry_list_sort (list_sort_vals (s := { s1 with heap := s1.heap.push (seqObj "list" (L1.map fun q => Value.ref q.1).toArray 0) }) hoL S hL' ⟨_, rfl, ?_⟩) (args_list_sort _)))
  obtain ⟨L2, e2, hs2⟩ := ord _ fun v hv => by
    obtain ⟨q, hq, e⟩ := List.mem_map.mp (sortVals_mem (κ := κ) _ hv)
    exact ⟨q, hs1 q hq, e.symm⟩
  have l2 : L2.length < 64 := by
    have := congrArg List.length e2
    rw [sortVals_length false rfl, List.length_map] at this
    rw [List.length_map] at hvl this
    rw [← this]; exact hvl
  obtain ⟨c, hcP⟩ := sortedHeap_at (vs := L1.map fun q => Value.ref q.1) (out := (sortVals κ false (L1.map fun q => Value.ref q.1) (L1.map fun q => Value.ref q.1)).toArray) hoL
  have hn : H s1.heap.objs.size = none := I.hok.fresh hz
  have k : ∀ b o, s.heap.get? b = some o → (sortedHeap (s1.heap.push (seqObj "list" (L1.map fun q => Value.ref q.1).toArray 0)) s1.heap.objs.size (L1.map fun q => Value.ref q.1) (sortVals κ false (L1.map fun q => Value.ref q.1) (L1.map fun q => Value.ref q.1)).toArray).get? b = some o := fun b o e => by
    have q := k1 b o e
    have hlt := Heap.lt_size q
    rw [sortedHeap_old (Nat.ne_of_lt hlt) (by rw [size_push']; exact Nat.lt_succ_of_lt hlt)]
    exact Heap.get?_push_of_some _ q
  refine wpAny_pure ⟨_, rfl, ?_⟩
  have hlen : (L2.map fun q => V.ref q.1).length ≤ sizeLine := by rw [List.length_map, sizeLine_eq]; omega
  have hv : Vals (L2.map fun q => V.ref q.1) (sortVals κ false (L1.map fun q => Value.ref q.1) (L1.map fun q => Value.ref q.1)).toArray.toList := by rw [List.toList_toArray, e2]; exact vals_of_refs L2
  obtain ⟨hp1, g1', d1, t1, os1⟩ := s1
  obtain rfl : g1' = s.gens := g1
  obtain rfl : os1 = s.os := o1
  have new : ObjOk X.prog X.w (upd H hp1.objs.size (.lst (L2.map fun q => V.ref q.1))) (sortedHeap (hp1.push (seqObj "list" (L1.map fun q => Value.ref q.1).toArray 0)) hp1.objs.size (L1.map fun q => Value.ref q.1) (sortVals κ false (L1.map fun q => Value.ref q.1) (L1.map fun q => Value.ref q.1)).toArray) hp1.objs.size (.lst (L2.map fun q => V.ref q.1)) := ⟨hlen, _, c, hv, hcP⟩
  have J := I.call (ch := []) (Un.laid k hz hn) (I.hok.laid k hz new) I.bare (fun _ z => nomatch z) (d' := d1) (t' := t1)
  exact ⟨.ref hp1.objs.size, _, J, rfl, q L2 _ hs2 l2 hn⟩
variable {e : Expr} {te : TD} {p1 p2 p3 p4 : Pos}
def dSS (te : TD) : TD := fun δ G Q => te δ G fun x G1 => ∃ (l : Addr) (pls : List (List Int)), x = .ref l ∧ G1 l = some (.lst (pls.map plD)) ∧ pls.length < 64 ∧ (∀ p ∈ pls, p ≠ []) ∧ ∀ (qs : List (List Int)) (r : Addr), (∀ q ∈ qs, q ∈ pls) → qs.length < 64 → G1 r = none → Q (.ref r) (dupd G1 r (.lst (qs.map plD)))
theorem w_ss {te : TD} {δ : DSt} {G : DG} {Q : DK} (h : te δ G fun x G1 => ∃ (l : Addr) (pls : List (List Int)), x = .ref l ∧ G1 l = some (.lst (pls.map plD)) ∧ pls.length < 64 ∧ (∀ p ∈ pls, p ≠ []) ∧ ∀ (qs : List (List Int)) (r : Addr), (∀ q ∈ qs, q ∈ pls) → qs.length < 64 → G1 r = none → Q (.ref r) (dupd G1 r (.lst (qs.map plD)))) : dSS te δ G Q := h
theorem rows_of {K : Frag} {H : Hp} : ∀ {pls : List (List Int)} {xs : List V}, RVs K H xs (pls.map plD) → ∃ ks : List (Addr × List Int), xs = ks.map (fun p => V.ref p.1) ∧ pls = ks.map (·.2) ∧ ∀ p ∈ ks, SqT K H p.1 (p.2.map V.int)
  | [], _, .nil => ⟨[], rfl, rfl, fun _ h => nomatch h⟩
  | p :: pls, _, .cons r t => by
    obtain ⟨ks, e1, e2, h⟩ := rows_of t
    obtain ⟨a, xs, e, hs, rr⟩ := RV.tupD r
    have ei : ∀ {ns : List Int} {xs : List V}, RVs K H xs (ns.map .int) → xs = ns.map V.int := by
      intro ns
      induction ns with
      | nil => intro xs r; cases r; rfl
      | cons n ns ih =>
        intro xs r
        cases r with
        | cons r t => cases r; rw [ih t]; rfl
    rw [ei rr] at hs
    refine ⟨(a, p) :: ks, by rw [e, e1]; rfl, by rw [e2]; rfl, fun q hq => ?_⟩
    rcases List.mem_cons.mp hq with z | z
    · rw [z]; exact hs
    · exact h q z
theorem de_sortSetI (hc : X.calm = true) (hu : X.A.units + 64 < cLine) (h1 : X.mg "sorted" = none) (g1 : Gl X "sorted") (h2 : X.mg "set" = none) (g2 : Gl X "set") (he : DE X e te)
    (s1 : starEach [.Call (.Name "set" p1) [e] [] p2] X.env = (false, eval (.Call (.Name "set" p1) [e] [] p2) X.env) :: starEach [] X.env := by rfl) (s2 : starEach [e] X.env = (false, eval e X.env) :: starEach [] X.env := by rfl) :
    DE X (.Call (.Name "sorted" p3) [.Call (.Name "set" p1) [e] [] p2] [] p4) (dSS te) := by
  refine PE_mono (pe_callB (cr_sortSet hc hu) g1 h1 PyProof.Rows.Boot.«sorted» (pa_cons (pe_callTy (cr_setOfT hc hu) g2 h2 PyProof.Rows.Boot.«set» (pa_cons he pa_nil s2) (he := s2)) pa_nil s1) (he := s1)) fun σ H Q ⟨δ, G, R, sl, w, h, f⟩ => ⟨δ, G, _, sl, w, h, fun x G1 v H1 ⟨l, pls, ex, hl, h64, hne, q⟩ t1 w1 r1 => ?_⟩
  subst ex
  cases r1
  obtain ⟨O, wo⟩ := id w1
  obtain ⟨xs, hx, rx⟩ := wo.ob l _ hl
  obtain ⟨ks, rfl, rfl, hk⟩ := rows_of rx
  rw [List.length_map] at h64
  refine ⟨l, ks, rfl, .inl (.inl hx), hk, h64, fun a L na hL _ => ?_⟩
  have s' := same_new na (SetTO X.prog X.w a L)
  have t' := TKs.of (K := X.K) s'
  refine ⟨a, L, rfl, upd_same, fun p hp => t' _ _ (hk p (hL p hp)), fun p hp => hne _ (List.mem_map.mpr ⟨p, hL p hp, rfl⟩), fun L' p hL' h64' np => ?_⟩
  have w2 := w1.same s'
  have s3 := same_new np (.lst (L'.map fun q => V.ref q.1))
  have t3 := TKs.of (K := X.K) s3
  have rr : ∀ (L' : List (Addr × List Int)) {H' : Hp}, (∀ q ∈ L', SqT X.K H' q.1 (q.2.map V.int)) → RVs X.K H' (L'.map fun q => V.ref q.1) ((L'.map (·.2)).map plD) := fun L' => by
    induction L' with
    | nil => intro H' _; exact .nil
    | cons q r ih => intro H' h; exact .cons (.tup (h q List.mem_cons_self) (RVs.ints _)) (ih fun z hz => h z (List.mem_cons_of_mem _ hz))
  have w3 := w2.new (o := .lst ((L'.map (·.2)).map plD)) np fun O => ⟨_, upd_same, rr L' fun q hq => t3 _ _ (t' _ _ (hk q (hL q (hL' q hq))))⟩
  exact f _ _ _ _ (q (L'.map (·.2)) p (fun q hq => by
    obtain ⟨z, hz, rfl⟩ := List.mem_map.mp hq
    exact List.mem_map.mpr ⟨z, hL z (hL' z hz), rfl⟩) (by rw [List.length_map]; exact h64') (w2.free np)) (t1.trans (t'.trans t3)) w3 (.ref p)
end
end DD
set_option maxHeartbeats 1000000
namespace K07
open PySem PySem.W L2 SX Cm DD
local macro_rules | `(tactic| walk_at "d1") => `(tactic| first | (with_reducible refine w_seq ?_) | (with_reducible refine w_next ?_) | ((with_reducible show dVar _ _ _ _); refine w_var rfl ?_) | (with_reducible refine w_asg ?_) | (with_reducible refine w_cons ?_) | (with_reducible refine w_nil ?_) | (with_reducible refine w_c ?_) | (with_reducible refine w_op ?_) | (with_reducible refine w_call ?_) | (with_reducible refine w_CB ?_) | (with_reducible refine w_ret ?_) | (with_reducible refine w_ifS ?_) | (with_reducible refine w_drop ?_) | (with_reducible refine w_tup ?_) | (with_reducible refine w_lst ?_) | (with_reducible refine w_sl ?_) | (with_reducible refine w_none ?_) | (with_reducible refine w_some ?_) | (with_reducible refine w_BM ?_) | (with_reducible refine w_BM0 ?_) | (with_reducible refine w_test ?_) | (with_reducible refine w_tru ?_) | (with_reducible refine w_and ?_) | (with_reducible refine w_or ?_) | (with_reducible refine w_not ?_) | (with_reducible refine w_yes ?_) | (with_reducible refine w_ifE ?_) | (with_reducible refine w_andV ?_) | (with_reducible refine w_orV ?_) | (with_reducible refine w_notV ?_) | (with_reducible refine w_neg ?_) | (with_reducible refine w_rev ?_) | (with_reducible refine w_exI ?_) | (with_reducible refine w_exB ?_) | (with_reducible refine w_exT ?_) | (with_reducible refine w_exS ?_) | (with_reducible refine w_parE ?_) | (with_reducible refine w_par ?_) | (with_reducible refine w_asgS ?_) | (with_reducible refine w_retN ?_) | (with_reducible refine w_break ?_) | (with_reducible refine w_cont ?_) | (with_reducible refine w_truB ?_) | (with_reducible refine w_truI ?_) | (with_reducible refine w_truN ?_) | (with_reducible refine w_truT ?_) | (with_reducible refine w_addI ?_) | (with_reducible refine w_subI ?_) | (with_reducible refine w_cmpI ?_) | (with_reducible refine w_cmpS ?_) | (with_reducible refine w_eqSS ?_) | (with_reducible refine w_eqII ?_) | (with_reducible refine w_eqBB ?_) | (with_reducible refine w_neSS ?_) | (with_reducible refine w_neII ?_) | (with_reducible refine w_neBB ?_) | (with_reducible refine w_eqSN ?_) | (with_reducible refine w_eqIN ?_) | (with_reducible refine w_eqSI ?_) | (with_reducible refine w_eqIS ?_) | (with_reducible refine w_eqNS ?_) | (with_reducible refine w_eqBS ?_) | (with_reducible refine w_eqT0 ?_) | (with_reducible refine w_ix0 ?_) | (with_reducible refine w_ix1 ?_) | (with_reducible refine w_ix2 ?_) | (with_reducible refine w_ix3 ?_) | (with_reducible refine w_slT ?_) | (with_reducible refine w_lenT ?_) | (with_reducible refine w_intB ?_) | (with_reducible refine w_intI ?_) | (with_reducible refine w_tupT ?_) | (with_reducible refine w_rcvS ?_) | (with_reducible refine ly1 ?_) | (with_reducible refine ly2 ?_) | (with_reducible refine lt1' ?_) | (with_reducible refine lt2' ?_) | (with_reducible refine g_n ?_) | (with_reducible refine w_isN ?_) | (with_reducible refine w_isnN ?_) | (with_reducible refine w_for ?_) | (with_reducible refine w_lc ?_) | (with_reducible refine wi_tup ?_) | (with_reducible refine wi_lst ?_) | (with_reducible refine wi_str ?_) | (with_reducible refine wi_rng ?_) | (with_reducible refine wi_rng2 ?_) | (with_reducible refine wi_enumT ?_) | (with_reducible refine wi_enum ?_) | (with_reducible refine wi_rev ?_) | (with_reducible refine wi_revR ?_) | (with_reducible refine wx_enumT ?_) | (with_reducible refine w_callX ?_) | (with_reducible refine w_methX ?_) | (with_reducible refine w_raise ?_) | (with_reducible refine w_try ?_) | (with_reducible refine w_xSet ?_) | (with_reducible refine w_xExpr ?_) | (with_reducible refine w_xLst ?_) | (with_reducible refine w_xTup ?_) | (with_reducible refine w_xCons ?_) | (with_reducible refine w_xNil ?_) | (with_reducible refine w_xE ?_) | (with_reducible refine w_xCall ?_) | (with_reducible refine w_call0 ?_) | (with_reducible refine w_asgL ?_) | (with_reducible refine w_tupPd ?_) | (with_reducible refine wi_zip ?_) | (with_reducible refine w_dnew ?_) | (with_reducible refine w_dget ?_) | (with_reducible refine w_dget2 ?_) | (with_reducible refine w_din ?_) | (with_reducible refine w_dput ?_) | (with_reducible refine w_asgT ?_) | (with_reducible refine g_C ?_) | (with_reducible refine g_0 ?_) | (with_reducible refine w_inS ?_) | (with_reducible refine w_delT ?_) | (with_reducible refine w_dc ?_) | (with_reducible refine w_revL ?_) | (with_reducible refine wi_revT ?_) | (with_reducible refine w_lstZip ?_) | (with_reducible refine w_chain ?_) | (with_reducible refine w_orT ?_) | (with_reducible refine w_try0 ?_) | (with_reducible refine w_xAsg ?_) | (with_reducible refine wi_zipTL ?_) | (with_reducible refine wi_zipSL ?_) | ((with_reducible show gT _ _ _ _ _ _); refine g_T ?_ rfl) | ((with_reducible show ∃ p, DV.ref _ = _ ∧ (∃ kvs, _) ∧ _); refine wx_get (by walk_at "gq") ?_) | ((with_reducible show ∃ kvs z, _ = _ ∧ _ = some (DO.dct _) ∧ _); refine wx_get2 (by walk_at "gq") ?_) | ((with_reducible show ∃ p kvs z, _ = _ ∧ _ = _ ∧ _ = some (DO.dct _) ∧ _); refine wx_in (by walk_at "gq") ?_) | ((with_reducible show List.length _ = _ ∧ _); refine w_len ?_ rfl) | ((with_reducible show List.length _ ≤ sizeLine ∧ _); refine w_sz ?_ (szl rfl)) | ((with_reducible show bIx _ (.int _) _ _); first | refine w_ix0 ?_ | refine w_ix1 ?_ | refine w_ix2 ?_ | refine w_ix3 ?_) | ((with_reducible show bIsi [_, _] _ _); first | refine w_isi (by decide) (a := "tuple") rfl rfl ?_ | refine w_isi (by decide) (a := "str") rfl rfl ?_ | refine w_isi (by decide) (a := "int") rfl rfl ?_ | refine w_isi (by decide) (a := "bool") rfl rfl ?_ | refine w_isi (by decide) (a := "NoneType") rfl rfl ?_) | ((with_reducible show ∃ ds, _ = DV.tup ds ∧ _); refine w_exT ?_) | ((with_reducible show ∃ z, _ = DV.str z ∧ _); refine w_exS ?_) | ((with_reducible show ∃ ds, [_] = [DV.tup ds] ∧ _); refine wx_enumT ?_) | ((with_reducible show bSl _ _ _ _ _); refine w_slT ?_) | ((with_reducible show bTuple [_] _ _); refine w_tupT ?_) | ((with_reducible show bLen [_] _ _); refine w_lenT ?_) | ((with_reducible show bTru _ _ _); first | refine w_truT ?_ | refine w_truN ?_ | refine w_truB ?_ | refine w_truI ?_) | ((with_reducible show bEq _ _ _ _ _); first | refine w_eqSS ?_ | refine w_eqII ?_ | refine w_neSS ?_ | refine w_neII ?_ | refine w_eqT0 ?_) | ((with_reducible show bInt _ _ (.int _) (.int _) _ _); refine w_int (by first | decide | exact ⟨by decide, by decide, by decide⟩ | exact .inl ⟨by decide, by decide⟩ | exact .inr ⟨by decide, by decide⟩) ?_) | ((with_reducible show if _ = true then _ else _); first | refine w_it (by first | rfl | decide +kernel) ?_ | refine w_if0 (by first | rfl | decide +kernel) ?_) | ((with_reducible show rcv "list" (.ref _) _ ∧ _); refine w_rcvL (by walk_at "gq") ?_) | ((with_reducible show bTuple [.ref _] _ _); refine w_tupL (by walk_at "gq") ?_) | ((with_reducible show bLen [.ref _] _ _); refine w_lenL (by walk_at "gq") ?_) | ((with_reducible show bTru (.ref _) _ _); refine w_truL (by walk_at "gq") ?_) | ((with_reducible show ∃ _ _, DV.ref _ = _ ∧ Ls _ _ _ ∧ _); refine wx_lst (by walk_at "gq") ?_) | ((with_reducible show ∃ _ _, [DV.ref _] = _ ∧ Ls _ _ _ ∧ _); refine wx_lstA (by walk_at "gq") ?_))
local macro_rules | `(tactic| walk_at "dd") => `(tactic| repeat (walk_at "d1"))
local macro_rules | `(tactic| walk_at "gq") => `(tactic| first | assumption | exact dupd_same | exact sub_get (by assumption) (by walk_at "gq") | exact upd_get (by assumption) (by walk_at "gq") (by walk_at "gn") | exact subx_get (by assumption) (by walk_at "gq") (by walk_at "gn") | (refine (dupd_ne ?_).trans ?_; (focus walk_at "gn"); walk_at "gq"))
local macro_rules | `(tactic| walk_at "gs") => `(tactic| first | assumption | exact Sub.refl _ | exact sub_tr (by assumption) (by walk_at "gs") | exact sub_up (by assumption) (by walk_at "gs") (by walk_at "g0") | exact sub_ux (by assumption) (by walk_at "gs") (by walk_at "g0") | (refine Sub.new ?_ ?_; (focus walk_at "gs"); walk_at "g0"))
local macro_rules | `(tactic| walk_at "gk") => `(tactic| first | assumption | exact dk_sub (by assumption) (by walk_at "gk") | exact dk_upd (by assumption) (by walk_at "gk") ⟨_, by walk_at "gq"⟩ | exact dk_updD (by assumption) (by walk_at "gk") ⟨_, by walk_at "gq"⟩)
local macro_rules | `(tactic| walk_at "gu") => `(tactic| first | assumption | exact Upd.refl _ _ | exact upd_in (by assumption) (by walk_at "gu"))
local macro_rules | `(tactic| walk_at "gx") => `(tactic| first | assumption | exact SubX.refl _ _ | exact subx_sub (by assumption) (by walk_at "gx") | exact subx_upd (by assumption) (by walk_at "gx") | exact subx_tr (by assumption) (by walk_at "gx"))
local macro_rules | `(tactic| walk_at "gn") => `(tactic| first | assumption | exact Ne.symm (by assumption) | exact ne_ns (by assumption) ⟨_, by walk_at "gq"⟩ | exact ne_sn (by assumption) ⟨_, by walk_at "gq"⟩)
local macro_rules | `(tactic| walk_at "g0") => `(tactic| first | assumption | exact nn_ (by assumption) (by walk_at "gs"))
theorem ints_of : ∀ (acc : List DV), (∀ (i : Nat) y, acc[i]? = some y → ∃ n : Int, y = .int n) → ∃ ns : List Int, acc = ns.map .int
  | [], _ => ⟨[], rfl⟩
  | x :: r, h => by
    obtain ⟨ns, e⟩ := ints_of r fun i y hy => h (i + 1) y (by simpa using hy)
    obtain ⟨n, e2⟩ := h 0 x rfl
    exact ⟨n :: ns, by rw [e, e2]; rfl⟩
theorem plds_of : ∀ (acc : List DV), (∀ (i : Nat) y, acc[i]? = some y → ∃ p : List Int, p ≠ [] ∧ y = plD p) → ∃ ps : List (List Int), acc = ps.map plD ∧ ∀ p ∈ ps, p ≠ []
  | [], _ => ⟨[], rfl, fun _ h => nomatch h⟩
  | x :: r, h => by
    obtain ⟨ns, e, hn⟩ := plds_of r fun i y hy => h (i + 1) y (by simpa using hy)
    obtain ⟨n, e0, e2⟩ := h 0 x rfl
    refine ⟨n :: ns, by rw [e, e2]; rfl, fun p hp => ?_⟩
    rcases List.mem_cons.mp hp with z | z
    · rw [z]; exact e0
    · exact hn p z
theorem mid {n : Nat} (h : n ≤ 100) : n ≤ sizeLine := Nat.le_trans h (by decide)
theorem IsEx.sub {G G' : DG} {a D : Addr} (h : IsEx G a D) (s : Sub G G') : IsEx G' a D := by
  rcases h with h | ⟨d, fs, h1, h2⟩
  · exact .inl (s _ _ h)
  · exact .inr ⟨d, fs, s _ _ h1, s _ _ h2⟩
/-- the row of truths that belongs to the i-th class -/
def row (i : Nat) : List DV := (List.range 11).map fun j => .bl (decide (i = j))
/-- what the end says of the eleven classes -/
structure KsOk (K : Frag) (Cs : List Addr) : Prop where
  ex : ∀ (i : Nat) (C : Addr), Cs[i]? = some C → ExcC K C
  kit : ∀ (i j : Nat) (C D : Addr), Cs[i]? = some C → Cs[j]? = some D → kitOne K (.ref C) (.ref D) = some (decide (i = j))
section
variable {P : Program} {w : World} {K : Frag} {mg : Str → Option Value} {base : Heap}
def SP_num : DSp := fun ds G R => ∃ d, ds = [.ref d] ∧ HasDk G d ∧ ∀ r : Int, R (.int r) G
def SP_pl : DSp := fun ds G R => ∃ d, ds = [.ref d] ∧ HasDk G d ∧ ∀ p : List Int, p ≠ [] → R (plD p) G
def SP_kn (K : Frag) (Cs : List Addr) : DSp := fun ds G R => ∃ a i C, ds = [.ref a] ∧ Cs[i]? = some C ∧ IsEx G a C ∧ ∀ r G', G r = none → Sub G G' → G' r = some (.lst (row i)) → R (.ref r) G'
abbrev N_L_number : List Str := ["_law_deck_here"]
abbrev A_L_number : List Str := ["_law_deck_here"]
theorem sc_L_number : FnScope N_L_number A_L_number (defScope s_L_number) := ⟨rfl, rfl, rfl, by decide +kernel, rfl, by decide +kernel, by decide +kernel⟩
theorem h_L_number (a : At K mg "_law_number" s_L_number A_L_number) (B : BI mg) (c_L_take : Has P w K mg base 2 "_law_take" A_L_take SP_draw) : Has P w K mg base 3 "_law_number" A_L_number SP_num := by
  refine at_mk a sc_L_number fun f cdv A outer s H E hr ds G R hl h => ?_
  refine ⟨_, (dss_one (ds_ret (de_op od_mul (de_call c_L_take (hr.mono (by omega)) rfl (da_cons (dv 0) (da_cons (de_ix (de_lst (da_cons de_int (da_cons (de_op od_pow de_int de_int) da_nil))) (de_call c_L_take (hr.mono (by omega)) rfl (da_cons (dv 0) (da_cons de_int da_nil)))) da_nil))) (de_ix (de_lst (da_cons de_int (da_cons (de_neg de_int) da_nil))) (de_call c_L_take (hr.mono (by omega)) rfl (da_cons (dv 0) (da_cons de_int da_nil))))))), ?_⟩
  obtain ⟨d, rfl, hk, q⟩ := h
  walk_at "dd"
  intro p np
  refine abs_new np fun G1 s1 h1 => ?_
  have hk1 : HasDk G1 d := by walk_at "gk"
  walk_at "dd"
  refine ⟨d, 2, rfl, hk1, by decide, by decide, fun r1 a1 b1 => ?_⟩
  have h1 : G1 p = some (.lst [DV.int 10, .int (10 ^ 12)]) := h1
  obtain ⟨x, hx, ex⟩ := pick (xs := [DV.int 10, .int (10 ^ 12)]) a1 (n := 2) b1 rfl
  have hm : ∃ m : Int, x = .int m ∧ 1 ≤ m ∧ m ≤ 10 ^ 12 := by
    simp only [List.mem_cons, List.not_mem_nil, or_false] at hx
    rcases hx with rfl | rfl
    · exact ⟨10, rfl, by decide, by decide⟩
    · exact ⟨10 ^ 12, rfl, by decide, by decide⟩
  obtain ⟨m, rfl, m1, m2⟩ := hm
  refine w_ixL h1 ex ?_
  walk_at "dd"
  refine ⟨d, m, rfl, hk1, by omega, by omega, fun r2 a2 b2 => ?_⟩
  walk_at "dd"
  intro p2 np2
  refine abs_new np2 fun G2 s2 h2 => ?_
  have hk2 : HasDk G2 d := by walk_at "gk"
  walk_at "dd"
  refine ⟨d, 2, rfl, hk2, by decide, by decide, fun r3 a3 b3 => ?_⟩
  have h2 : G2 p2 = some (.lst [DV.int 1, .int (-1)]) := h2
  obtain ⟨y, hy, ey⟩ := pick (xs := [DV.int 1, .int (-1)]) a3 (n := 2) b3 rfl
  have hn : ∃ m : Int, y = .int m := by
    simp only [List.mem_cons, List.not_mem_nil, or_false] at hy
    rcases hy with rfl | rfl <;> exact ⟨_, rfl⟩
  obtain ⟨n, rfl⟩ := hn
  refine w_ixL h2 ey ?_
  walk_at "dd"
  refine ⟨?_, G, s1.trans s2, q _⟩
  exact .inl ⟨by omega, by omega⟩
abbrev N_L_place : List Str := ["_law_deck_here", "_law_k"]
abbrev A_L_place : List Str := ["_law_deck_here"]
theorem sc_L_place : FnScope N_L_place A_L_place (defScope s_L_place) := ⟨rfl, rfl, rfl, by decide +kernel, rfl, by decide +kernel, by decide +kernel⟩
theorem h_L_place (a : At K mg "_law_place" s_L_place A_L_place) (B : BI mg) (c_L_take : Has P w K mg base 2 "_law_take" A_L_take SP_draw) : Has P w K mg base 3 "_law_place" A_L_place SP_pl := by
  refine at_mk a sc_L_place fun f cdv A outer s H E hr ds G R hl h => ?_
  refine ⟨_, (dss_one (ds_ret (de_callTy cd_tuple B.tup rfl (by decide +kernel) (da_cons (de_lc (own := [("_law_k", 1)]) (lt1 (i := 1) (by decide)) rfl sc_L_place.nd (di_range B.range rfl (da_cons (de_op od_add de_int (de_call c_L_take (hr.mono (by omega)) rfl (da_cons (dv 0) (da_cons de_int da_nil)))) da_nil)) (blkOk_by (own := [("_law_k", 1)]) (N := N_L_place) (sc := defScope s_L_place) (by decide +kernel)) (fun _ _ _ _ _ => pg_name (i := 1) sc_L_place.nd rfl (Or.inl rfl)) (fun _ _ _ _ _ => dts_nil) (fun _ _ _ _ _ => (de_call c_L_take (hr.mono (by omega)) rfl (da_cons (dv 0) (da_cons de_int da_nil))))) da_nil)))), ?_⟩
  obtain ⟨d, rfl, hk, q⟩ := h
  walk_at "dd"
  refine ⟨d, 6, rfl, hk, by decide, by decide, fun r1 a1 b1 => ?_⟩
  obtain ⟨m, rfl⟩ := Int.eq_ofNat_of_zero_le a1
  walk_at "dd"
  refine wx_rng (by omega) (by omega) ?_
  rw [show ((1 : Int) + (m : Int)).toNat = 1 + m by omega]
  refine lcs_each (fun _ y => ∃ n : Int, y = .int n) (fun _ _ => trivial) (by rw [rng_len]; omega) ?_ ?_
  · intro i y hy G' k1 k0 s' e1
    rw [rng_get (by have := (List.getElem?_eq_some_iff.mp hy).1; rw [rng_len] at this; exact this)] at hy
    cases hy
    have hk' : HasDk G' d := hk.sub s'
    walk_at "dd"
    refine ⟨d, 60, rfl, hk', by decide, by decide, fun r2 a2 b2 => ?_⟩
    exact e1 _ ⟨_, rfl⟩
  intro p G1 acc np s1 h1 la ha
  obtain ⟨ns, rfl⟩ := ints_of acc ha
  rw [List.length_map, rng_len] at la
  walk_at "dd"
  refine ⟨G, s1, q ns fun e => ?_⟩
  rw [e] at la
  exact absurd la (by show ¬ (0 = _); omega)
abbrev N_L_kinds : List Str := ["_law_error", "_law_found"]
abbrev A_L_kinds : List Str := ["_law_error"]
theorem sc_L_kinds : FnScope N_L_kinds A_L_kinds (defScope s_L_kinds) := ⟨rfl, rfl, rfl, by decide +kernel, rfl, by decide +kernel, by decide +kernel⟩
theorem h_L_kinds (a : At K mg "_law_kinds" s_L_kinds A_L_kinds) (B : BI mg) {e_NoTurn : Addr} (m_NoTurn : mg "NoTurn" = some (.ref e_NoTurn)) {e_NoStep : Addr} (m_NoStep : mg "NoStep" = some (.ref e_NoStep)) {e_NoText : Addr} (m_NoText : mg "NoText" = some (.ref e_NoText)) {e_Twice : Addr} (m_Twice : mg "Twice" = some (.ref e_Twice)) {e_NoRow : Addr} (m_NoRow : mg "NoRow" = some (.ref e_NoRow)) {e_NoShuffle : Addr} (m_NoShuffle : mg "NoShuffle" = some (.ref e_NoShuffle)) {e_NoBook : Addr} (m_NoBook : mg "NoBook" = some (.ref e_NoBook)) {e_NoKind : Addr} (m_NoKind : mg "NoKind" = some (.ref e_NoKind)) {e_NoWord : Addr} (m_NoWord : mg "NoWord" = some (.ref e_NoWord)) {e_NoCode : Addr} (m_NoCode : mg "NoCode" = some (.ref e_NoCode)) {e_TooMany : Addr} (m_TooMany : mg "TooMany" = some (.ref e_TooMany)) (T : KsOk K [e_NoText, e_NoStep, e_NoTurn, e_NoShuffle, e_NoRow, e_Twice, e_NoWord, e_NoKind, e_NoBook, e_TooMany, e_NoCode]) : Has P w K mg base 1 "_law_kinds" A_L_kinds (SP_kn K [e_NoText, e_NoStep, e_NoTurn, e_NoShuffle, e_NoRow, e_Twice, e_NoWord, e_NoKind, e_NoBook, e_TooMany, e_NoCode]) := by
  refine at_mk a sc_L_kinds fun f cdv A outer s H E hr ds G R hl h => ?_
  refine ⟨_, (dss_cons (ds_set (i := 1) sc_L_kinds.nd rfl (.inl rfl) (de_lst (da_cons (de_callB cd_isX B.isi rfl (by decide +kernel) (da_cons (dv 0) (da_cons (de_gref m_NoText rfl) da_nil))) (da_cons (de_callB cd_isX B.isi rfl (by decide +kernel) (da_cons (dv 0) (da_cons (de_gref m_NoStep rfl) da_nil))) (da_cons (de_callB cd_isX B.isi rfl (by decide +kernel) (da_cons (dv 0) (da_cons (de_gref m_NoTurn rfl) da_nil))) da_nil)))))
    (dss_cons (ds_set (i := 1) sc_L_kinds.nd rfl (.inl rfl) (de_op od_add (dv 1) (de_lst (da_cons (de_callB cd_isX B.isi rfl (by decide +kernel) (da_cons (dv 0) (da_cons (de_gref m_NoShuffle rfl) da_nil))) (da_cons (de_callB cd_isX B.isi rfl (by decide +kernel) (da_cons (dv 0) (da_cons (de_gref m_NoRow rfl) da_nil))) (da_cons (de_callB cd_isX B.isi rfl (by decide +kernel) (da_cons (dv 0) (da_cons (de_gref m_Twice rfl) da_nil))) da_nil))))))
    (dss_cons (ds_set (i := 1) sc_L_kinds.nd rfl (.inl rfl) (de_op od_add (dv 1) (de_lst (da_cons (de_callB cd_isX B.isi rfl (by decide +kernel) (da_cons (dv 0) (da_cons (de_gref m_NoWord rfl) da_nil))) (da_cons (de_callB cd_isX B.isi rfl (by decide +kernel) (da_cons (dv 0) (da_cons (de_gref m_NoKind rfl) da_nil))) (da_cons (de_callB cd_isX B.isi rfl (by decide +kernel) (da_cons (dv 0) (da_cons (de_gref m_NoBook rfl) da_nil))) da_nil))))))
    (dss_one (ds_ret (de_op od_add (dv 1) (de_lst (da_cons (de_callB cd_isX B.isi rfl (by decide +kernel) (da_cons (dv 0) (da_cons (de_gref m_TooMany rfl) da_nil))) (da_cons (de_callB cd_isX B.isi rfl (by decide +kernel) (da_cons (dv 0) (da_cons (de_gref m_NoCode rfl) da_nil))) da_nil))))))))), ?_⟩
  obtain ⟨a, i, C, rfl, hC, hx, q⟩ := h
  have st : ∀ {j : Nat} {D : Addr} {G' : DG} {Q : DK}, ([e_NoText, e_NoStep, e_NoTurn, e_NoShuffle, e_NoRow, e_Twice, e_NoWord, e_NoKind, e_NoBook, e_TooMany, e_NoCode] : List Addr)[j]? = some D → Sub G G' → Q (.bl (decide (i = j))) G' → bIsX K [.ref a, .ref D] G' Q := fun hD s' h' => w_isX (IsEx.sub hx s') (T.ex i C hC) rfl (T.kit _ _ _ _ hC hD) h'
  walk_at "dd"
  refine st (j := 0) rfl (Sub.refl _) ?_
  walk_at "dd"
  refine st (j := 1) rfl (Sub.refl _) ?_
  walk_at "dd"
  refine st (j := 2) rfl (Sub.refl _) ?_
  walk_at "dd"
  intro p1 n1
  refine abs_new n1 fun G1 s1 h1 => ?_
  walk_at "dd"
  refine st (j := 3) rfl (s1) ?_
  walk_at "dd"
  refine st (j := 4) rfl (s1) ?_
  walk_at "dd"
  refine st (j := 5) rfl (s1) ?_
  walk_at "dd"
  intro p2 n2
  refine abs_new n2 fun G2 s2 h2 => ?_
  walk_at "dd"
  refine w_addL (s2 _ _ h1) h2 (by show _ ≤ _; simp; decide) fun p3 n3 => ?_
  refine abs_new n3 fun G3 s3 h3 => ?_
  have t3 := s1.trans (s2.trans s3)
  walk_at "dd"
  refine st (j := 6) rfl (t3) ?_
  walk_at "dd"
  refine st (j := 7) rfl (t3) ?_
  walk_at "dd"
  refine st (j := 8) rfl (t3) ?_
  walk_at "dd"
  intro p4 n4
  refine abs_new n4 fun G4 s4 h4 => ?_
  walk_at "dd"
  refine w_addL (s4 _ _ h3) h4 (by show _ ≤ _; simp; decide) fun p5 n5 => ?_
  refine abs_new n5 fun G5 s5 h5 => ?_
  have t5 := t3.trans (s4.trans s5)
  walk_at "dd"
  refine st (j := 9) rfl (t5) ?_
  walk_at "dd"
  refine st (j := 10) rfl (t5) ?_
  walk_at "dd"
  intro p6 n6
  refine abs_new n6 fun G6 s6 h6 => ?_
  walk_at "dd"
  refine w_addL (s6 _ _ h5) h6 (by show _ ≤ _; simp; decide) fun p7 n7 => ?_
  refine abs_new n7 fun G7 s7 h7 => ?_
  walk_at "dd"
  have t7 := t5.trans (s6.trans s7)
  refine ⟨G7, Sub.refl _, q _ _ ?_ t7 h7⟩
  exact nn_ n7 (t5.trans s6)
end
end K07
set_option maxHeartbeats 1000000
namespace K07
open PySem PySem.W L2 SX Cm DD
local macro_rules | `(tactic| walk_at "d1") => `(tactic| first | (with_reducible refine w_seq ?_) | (with_reducible refine w_next ?_) | ((with_reducible show dVar _ _ _ _); refine w_var rfl ?_) | (with_reducible refine w_asg ?_) | (with_reducible refine w_cons ?_) | (with_reducible refine w_nil ?_) | (with_reducible refine w_c ?_) | (with_reducible refine w_op ?_) | (with_reducible refine w_call ?_) | (with_reducible refine w_CB ?_) | (with_reducible refine w_ret ?_) | (with_reducible refine w_ifS ?_) | (with_reducible refine w_drop ?_) | (with_reducible refine w_tup ?_) | (with_reducible refine w_lst ?_) | (with_reducible refine w_sl ?_) | (with_reducible refine w_none ?_) | (with_reducible refine w_some ?_) | (with_reducible refine w_BM ?_) | (with_reducible refine w_BM0 ?_) | (with_reducible refine w_test ?_) | (with_reducible refine w_tru ?_) | (with_reducible refine w_and ?_) | (with_reducible refine w_or ?_) | (with_reducible refine w_not ?_) | (with_reducible refine w_yes ?_) | (with_reducible refine w_ifE ?_) | (with_reducible refine w_andV ?_) | (with_reducible refine w_orV ?_) | (with_reducible refine w_notV ?_) | (with_reducible refine w_neg ?_) | (with_reducible refine w_rev ?_) | (with_reducible refine w_exI ?_) | (with_reducible refine w_exB ?_) | (with_reducible refine w_exT ?_) | (with_reducible refine w_exS ?_) | (with_reducible refine w_parE ?_) | (with_reducible refine w_par ?_) | (with_reducible refine w_asgS ?_) | (with_reducible refine w_retN ?_) | (with_reducible refine w_break ?_) | (with_reducible refine w_cont ?_) | (with_reducible refine w_truB ?_) | (with_reducible refine w_truI ?_) | (with_reducible refine w_truN ?_) | (with_reducible refine w_truT ?_) | (with_reducible refine w_addI ?_) | (with_reducible refine w_subI ?_) | (with_reducible refine w_cmpI ?_) | (with_reducible refine w_cmpS ?_) | (with_reducible refine w_eqSS ?_) | (with_reducible refine w_eqII ?_) | (with_reducible refine w_eqBB ?_) | (with_reducible refine w_neSS ?_) | (with_reducible refine w_neII ?_) | (with_reducible refine w_neBB ?_) | (with_reducible refine w_eqSN ?_) | (with_reducible refine w_eqIN ?_) | (with_reducible refine w_eqSI ?_) | (with_reducible refine w_eqIS ?_) | (with_reducible refine w_eqNS ?_) | (with_reducible refine w_eqBS ?_) | (with_reducible refine w_eqT0 ?_) | (with_reducible refine w_ix0 ?_) | (with_reducible refine w_ix1 ?_) | (with_reducible refine w_ix2 ?_) | (with_reducible refine w_ix3 ?_) | (with_reducible refine w_slT ?_) | (with_reducible refine w_lenT ?_) | (with_reducible refine w_intB ?_) | (with_reducible refine w_intI ?_) | (with_reducible refine w_tupT ?_) | (with_reducible refine w_rcvS ?_) | (with_reducible refine ly1 ?_) | (with_reducible refine ly2 ?_) | (with_reducible refine lt1' ?_) | (with_reducible refine lt2' ?_) | (with_reducible refine g_n ?_) | (with_reducible refine w_isN ?_) | (with_reducible refine w_isnN ?_) | (with_reducible refine w_for ?_) | (with_reducible refine w_lc ?_) | (with_reducible refine wi_tup ?_) | (with_reducible refine wi_lst ?_) | (with_reducible refine wi_str ?_) | (with_reducible refine wi_rng ?_) | (with_reducible refine wi_rng2 ?_) | (with_reducible refine wi_enumT ?_) | (with_reducible refine wi_enum ?_) | (with_reducible refine wi_rev ?_) | (with_reducible refine wi_revR ?_) | (with_reducible refine wx_enumT ?_) | (with_reducible refine w_callX ?_) | (with_reducible refine w_methX ?_) | (with_reducible refine w_raise ?_) | (with_reducible refine w_try ?_) | (with_reducible refine w_xSet ?_) | (with_reducible refine w_xExpr ?_) | (with_reducible refine w_xLst ?_) | (with_reducible refine w_xTup ?_) | (with_reducible refine w_xCons ?_) | (with_reducible refine w_xNil ?_) | (with_reducible refine w_xE ?_) | (with_reducible refine w_xCall ?_) | (with_reducible refine w_call0 ?_) | (with_reducible refine w_asgL ?_) | (with_reducible refine w_tupPd ?_) | (with_reducible refine wi_zip ?_) | (with_reducible refine w_dnew ?_) | (with_reducible refine w_dget ?_) | (with_reducible refine w_dget2 ?_) | (with_reducible refine w_din ?_) | (with_reducible refine w_dput ?_) | (with_reducible refine w_asgT ?_) | (with_reducible refine g_C ?_) | (with_reducible refine g_0 ?_) | (with_reducible refine w_inS ?_) | (with_reducible refine w_delT ?_) | (with_reducible refine w_dc ?_) | (with_reducible refine w_revL ?_) | (with_reducible refine wi_revT ?_) | (with_reducible refine w_lstZip ?_) | (with_reducible refine w_chain ?_) | (with_reducible refine w_orT ?_) | (with_reducible refine w_try0 ?_) | (with_reducible refine w_xAsg ?_) | (with_reducible refine wi_zipTL ?_) | (with_reducible refine wi_zipSL ?_) | ((with_reducible show gT _ _ _ _ _ _); refine g_T ?_ rfl) | ((with_reducible show ∃ p, DV.ref _ = _ ∧ (∃ kvs, _) ∧ _); refine wx_get (by walk_at "gq") ?_) | ((with_reducible show ∃ kvs z, _ = _ ∧ _ = some (DO.dct _) ∧ _); refine wx_get2 (by walk_at "gq") ?_) | ((with_reducible show ∃ p kvs z, _ = _ ∧ _ = _ ∧ _ = some (DO.dct _) ∧ _); refine wx_in (by walk_at "gq") ?_) | ((with_reducible show List.length _ = _ ∧ _); refine w_len ?_ rfl) | ((with_reducible show List.length _ ≤ sizeLine ∧ _); refine w_sz ?_ (szl rfl)) | ((with_reducible show bIx _ (.int _) _ _); first | refine w_ix0 ?_ | refine w_ix1 ?_ | refine w_ix2 ?_ | refine w_ix3 ?_) | ((with_reducible show bIsi [_, _] _ _); first | refine w_isi (by decide) (a := "tuple") rfl rfl ?_ | refine w_isi (by decide) (a := "str") rfl rfl ?_ | refine w_isi (by decide) (a := "int") rfl rfl ?_ | refine w_isi (by decide) (a := "bool") rfl rfl ?_ | refine w_isi (by decide) (a := "NoneType") rfl rfl ?_) | ((with_reducible show ∃ ds, _ = DV.tup ds ∧ _); refine w_exT ?_) | ((with_reducible show ∃ z, _ = DV.str z ∧ _); refine w_exS ?_) | ((with_reducible show ∃ ds, [_] = [DV.tup ds] ∧ _); refine wx_enumT ?_) | ((with_reducible show bSl _ _ _ _ _); refine w_slT ?_) | ((with_reducible show bTuple [_] _ _); refine w_tupT ?_) | ((with_reducible show bLen [_] _ _); refine w_lenT ?_) | ((with_reducible show bTru _ _ _); first | refine w_truT ?_ | refine w_truN ?_ | refine w_truB ?_ | refine w_truI ?_) | ((with_reducible show bEq _ _ _ _ _); first | refine w_eqSS ?_ | refine w_eqII ?_ | refine w_neSS ?_ | refine w_neII ?_ | refine w_eqT0 ?_) | ((with_reducible show bInt _ _ (.int _) (.int _) _ _); refine w_int (by first | decide | exact ⟨by decide, by decide, by decide⟩ | exact .inl ⟨by decide, by decide⟩ | exact .inr ⟨by decide, by decide⟩) ?_) | ((with_reducible show if _ = true then _ else _); first | refine w_it (by first | rfl | decide +kernel) ?_ | refine w_if0 (by first | rfl | decide +kernel) ?_) | ((with_reducible show rcv "list" (.ref _) _ ∧ _); refine w_rcvL (by walk_at "gq") ?_) | ((with_reducible show bTuple [.ref _] _ _); refine w_tupL (by walk_at "gq") ?_) | ((with_reducible show bLen [.ref _] _ _); refine w_lenL (by walk_at "gq") ?_) | ((with_reducible show bTru (.ref _) _ _); refine w_truL (by walk_at "gq") ?_) | ((with_reducible show ∃ _ _, DV.ref _ = _ ∧ Ls _ _ _ ∧ _); refine wx_lst (by walk_at "gq") ?_) | ((with_reducible show ∃ _ _, [DV.ref _] = _ ∧ Ls _ _ _ ∧ _); refine wx_lstA (by walk_at "gq") ?_))
local macro_rules | `(tactic| walk_at "dd") => `(tactic| repeat (walk_at "d1"))
local macro_rules | `(tactic| walk_at "gq") => `(tactic| first | assumption | exact dupd_same | exact sub_get (by assumption) (by walk_at "gq") | exact upd_get (by assumption) (by walk_at "gq") (by walk_at "gn") | exact subx_get (by assumption) (by walk_at "gq") (by walk_at "gn") | (refine (dupd_ne ?_).trans ?_; (focus walk_at "gn"); walk_at "gq"))
local macro_rules | `(tactic| walk_at "gs") => `(tactic| first | assumption | exact Sub.refl _ | exact sub_tr (by assumption) (by walk_at "gs") | exact sub_up (by assumption) (by walk_at "gs") (by walk_at "g0") | exact sub_ux (by assumption) (by walk_at "gs") (by walk_at "g0") | (refine Sub.new ?_ ?_; (focus walk_at "gs"); walk_at "g0"))
local macro_rules | `(tactic| walk_at "gk") => `(tactic| first | assumption | exact dk_sub (by assumption) (by walk_at "gk") | exact dk_upd (by assumption) (by walk_at "gk") ⟨_, by walk_at "gq"⟩ | exact dk_updD (by assumption) (by walk_at "gk") ⟨_, by walk_at "gq"⟩)
local macro_rules | `(tactic| walk_at "gu") => `(tactic| first | assumption | exact Upd.refl _ _ | exact upd_in (by assumption) (by walk_at "gu"))
local macro_rules | `(tactic| walk_at "gx") => `(tactic| first | assumption | exact SubX.refl _ _ | exact subx_sub (by assumption) (by walk_at "gx") | exact subx_upd (by assumption) (by walk_at "gx") | exact subx_tr (by assumption) (by walk_at "gx"))
local macro_rules | `(tactic| walk_at "gn") => `(tactic| first | assumption | exact Ne.symm (by assumption) | exact ne_ns (by assumption) ⟨_, by walk_at "gq"⟩ | exact ne_sn (by assumption) ⟨_, by walk_at "gq"⟩)
local macro_rules | `(tactic| walk_at "g0") => `(tactic| first | assumption | exact nn_ (by assumption) (by walk_at "gs"))
/-- what may be compared: plain, of shallow depth -/
structure PW (n : Nat) (d : DV) : Prop where
  pl : plain d = true
  tx : txB d = true
  dp : dpt d ≤ n
structure PWs (n : Nat) (ds : List DV) : Prop where
  pl : plains ds = true
  tx : txBs ds = true
  dp : dpts ds ≤ n
theorem PWs.nil {n : Nat} : PWs n [] := ⟨rfl, rfl, Nat.zero_le _⟩
theorem PWs.cons {n : Nat} {d : DV} {ds : List DV} (h : PW n d) (g : PWs n ds) : PWs n (d :: ds) := ⟨by show (plain d && plains ds) = true; rw [h.pl, g.pl]; rfl, by show (txB d && txBs ds) = true; rw [h.tx, g.tx]; rfl, Nat.max_le.mpr ⟨h.dp, g.dp⟩⟩
theorem PW.tup {n : Nat} {ds : List DV} (h : PWs n ds) : PW (n + 1) (.tup ds) := ⟨h.pl, h.tx, by have := h.dp; first | (show dpts ds + 1 ≤ n + 1; omega) | (show 1 + dpts ds ≤ n + 1; omega) | (simp only [dpt]; omega)⟩
theorem PW.int {n : Nat} (i : Int) : PW n (.int i) := ⟨rfl, rfl, Nat.zero_le _⟩
theorem PWs.of {n : Nat} {α : Type} {f : α → DV} (h : ∀ a, PW n (f a)) : ∀ (l : List α), PWs n (l.map f)
  | [] => .nil
  | a :: l => .cons (h a) (PWs.of h l)
theorem pw_pl (p : List Int) : PW 1 (plD p) := .tup (PWs.of (n := 0) (fun i => PW.int i) p)
theorem pw_pls (ps : List (List Int)) : PW 2 (.tup (ps.map plD)) := .tup (PWs.of pw_pl ps)
theorem PW.cmp {n : Nat} {d : DV} (h : PW n d) (hn : n ≤ 60) : Cmp d := ⟨plain_pure _ h.pl, h.tx, Nat.le_trans h.dp hn⟩
theorem w_neSame {n : Nat} {d : DV} {G : DG} {Q : DK} (h : PW n d) (hn : n ≤ 60) (q : Q (.bl false) G) : bEq true d d G Q := w_neP h.pl h.pl (h.cmp hn) (h.cmp hn) (by rw [decide_eq_true rfl]; exact q)
@[elab_as_elim] theorem abs_ex {G : DG} {a d C : Addr} {fs : List (Str × DV)} {M : DG → Prop} (na : G a = none) (nd : G d = none) (ne : a ≠ d) (h : ∀ G', Sub G G' → G' a = some (exoG C d) → G' d = some (exdG fs) → M G') : M (dupd (dupd G d (exdG fs)) a (exoG C d)) := h _ (((Sub.refl G).new nd).new na) dupd_same (by rw [dupd_ne ne.symm]; exact dupd_same)
def eqI (i : Int) : DV → Option DV
  | .int x => some (.bl (decide (x = i)))
  | _ => none
theorem row_eq : ∀ (i : Nat), i < 11 → (rng 0 11).filterMap (eqI i) = row i
  | 0, _ => by rfl
  | 1, _ => by rfl
  | 2, _ => by rfl
  | 3, _ => by rfl
  | 4, _ => by rfl
  | 5, _ => by rfl
  | 6, _ => by rfl
  | 7, _ => by rfl
  | 8, _ => by rfl
  | 9, _ => by rfl
  | 10, _ => by rfl
  | n + 11, h => absurd h (by omega)
theorem row_cmp : ∀ (i : Nat), i < 11 → Cmps (row i) ∧ PyData.eqvAll (dats (row i)) (dats (row i)) = true
  | 0, _ => ⟨⟨rfl, rfl, by decide⟩, by rfl⟩
  | 1, _ => ⟨⟨rfl, rfl, by decide⟩, by rfl⟩
  | 2, _ => ⟨⟨rfl, rfl, by decide⟩, by rfl⟩
  | 3, _ => ⟨⟨rfl, rfl, by decide⟩, by rfl⟩
  | 4, _ => ⟨⟨rfl, rfl, by decide⟩, by rfl⟩
  | 5, _ => ⟨⟨rfl, rfl, by decide⟩, by rfl⟩
  | 6, _ => ⟨⟨rfl, rfl, by decide⟩, by rfl⟩
  | 7, _ => ⟨⟨rfl, rfl, by decide⟩, by rfl⟩
  | 8, _ => ⟨⟨rfl, rfl, by decide⟩, by rfl⟩
  | 9, _ => ⟨⟨rfl, rfl, by decide⟩, by rfl⟩
  | 10, _ => ⟨⟨rfl, rfl, by decide⟩, by rfl⟩
  | n + 11, h => absurd h (by omega)
section
variable {P : Program} {w : World} {K : Frag} {mg : Str → Option Value} {base : Heap}
abbrev N_L_law : List Str := ["_law_script", "_law_deck_here", "_law_k", "_law_place_here", "_law_other", "_law_j", "_law_places", "_law_numbers", "_law_what", "_law_errors", "_law_at", "_law_spot"]
abbrev A_L_law : List Str := ["_law_script"]
theorem sc_L_law : FnScope N_L_law A_L_law (defScope s_L_law) := ⟨rfl, rfl, rfl, by decide +kernel, rfl, by decide +kernel, by decide +kernel⟩
theorem ok_law {f gd : Addr} {fd dd : FuncData} {e_TakeError e_NoText e_NoStep e_NoTurn e_NoShuffle e_NoRow e_Twice e_NoWord e_NoKind e_NoBook e_TooMany e_NoCode : Addr} (F : Fun K "law" "law" s_L_law f fd) (B : BI mg) (DE : FnOk P w K mg base CX0 1 gd dd ["_law_script"] (spDeck K)) (bDE : L2.Binds K dd ["_law_script"] []) (kDE : keepIn K (.ref gd) = true) (mDE : mg "_law_deck" = some (.ref gd))
    (c_L_place : Has P w K mg base 3 "_law_place" A_L_place SP_pl)
    (c_L_take : Has P w K mg base 2 "_law_take" A_L_take SP_draw)
    (c_L_number : Has P w K mg base 3 "_law_number" A_L_number SP_num)
    (c_L_kinds : Has P w K mg base 1 "_law_kinds" A_L_kinds (SP_kn K [e_NoText, e_NoStep, e_NoTurn, e_NoShuffle, e_NoRow, e_Twice, e_NoWord, e_NoKind, e_NoBook, e_TooMany, e_NoCode]))
    (m_ValueError : mg "ValueError" = none) (m_TakeError : mg "TakeError" = some (.ref e_TakeError))
    (x_NoText : ErrC K mg "NoText" e_NoText)
    (x_NoStep : ErrC K mg "NoStep" e_NoStep)
    (x_NoTurn : ErrC K mg "NoTurn" e_NoTurn)
    (x_NoShuffle : ErrC K mg "NoShuffle" e_NoShuffle)
    (x_NoRow : ErrC K mg "NoRow" e_NoRow)
    (x_Twice : ErrC K mg "Twice" e_Twice)
    (x_NoWord : ExI P w K mg base 1 "NoWord" e_NoWord ["place"])
    (x_NoKind : ExI P w K mg base 1 "NoKind" e_NoKind ["places"])
    (x_NoBook : ExI P w K mg base 1 "NoBook" e_NoBook ["number", "what"])
    (x_TooMany : ExI P w K mg base 1 "TooMany" e_TooMany ["many", "most"])
    (x_NoCode : ExI P w K mg base 1 "NoCode" e_NoCode ["place"])
    (T : KsOk K [e_NoText, e_NoStep, e_NoTurn, e_NoShuffle, e_NoRow, e_Twice, e_NoWord, e_NoKind, e_NoBook, e_TooMany, e_NoCode]) (kT : ∀ C ∈ [e_NoText, e_NoStep, e_NoTurn, e_NoShuffle, e_NoRow, e_Twice, e_NoWord, e_NoKind, e_NoBook, e_TooMany, e_NoCode], kitOne K (.ref C) (.ref e_TakeError) = some true) (kV : ∀ C ∈ [e_NoText, e_NoStep, e_NoTurn, e_NoShuffle, e_NoRow, e_Twice, e_NoWord, e_NoKind, e_NoBook, e_TooMany, e_NoCode], kitOne K (.ref C) (.type "ValueError") = some true)
    (xf_NoWord : XfC K e_NoWord)
    (nf_NoWord_place : findIn K (.ref e_NoWord) "place" = some none)
    (xf_NoKind : XfC K e_NoKind)
    (nf_NoKind_places : findIn K (.ref e_NoKind) "places" = some none)
    (xf_NoBook : XfC K e_NoBook)
    (nf_NoBook_number : findIn K (.ref e_NoBook) "number" = some none)
    (nf_NoBook_what : findIn K (.ref e_NoBook) "what" = some none)
    (xf_TooMany : XfC K e_TooMany)
    (nf_TooMany_many : findIn K (.ref e_TooMany) "many" = some none)
    (nf_TooMany_most : findIn K (.ref e_TooMany) "most" = some none)
    (xf_NoCode : XfC K e_NoCode)
    (nf_NoCode_place : findIn K (.ref e_NoCode) "place" = some none)
    : FnOk P w K mg base CX0 6 f fd ["_law_script"] (spLaw K) := by
  refine F.ok sc_L_law (fun vs H Q E h => ?_) (fun cdv A outer s H vs Q E hr h => ?_)
  · obtain ⟨a, ns, rfl, _⟩ := h
    rfl
  obtain ⟨a, ns, rfl, hS, h63, q⟩ := h
  refine ⟨_, pss_cons (ps_set (i := 1) sc_L_law.nd rfl (.inr rfl) (pe_call DE (hr.mono (by omega)) rfl mDE kDE bDE .nil pass0 (pa_cons (pv 0) pa_nil)))
    (dss_cons (ds_for PassesOwn.never rfl (di_range B.range rfl (da_cons de_int da_nil)) (dg_name (i := 2) sc_L_law.nd rfl (.inl rfl)) (dss_cons (ds_set (i := 3) sc_L_law.nd rfl (.inl rfl) (de_call c_L_place (hr.mono (by omega)) rfl (da_cons (dv 1) da_nil)))
      (dss_cons (ds_set (i := 4) sc_L_law.nd rfl (.inl rfl) (de_call c_L_place (hr.mono (by omega)) rfl (da_cons (dv 1) da_nil)))
      (dss_cons (ds_set (i := 6) sc_L_law.nd rfl (.inl rfl) (de_callTy cd_tuple B.tup rfl (by decide +kernel) (da_cons (de_sortSetI rfl hr.units B.sorted rfl B.set rfl (de_lc (own := [("_law_j", 5)]) (lt1 (i := 5) (by decide)) rfl sc_L_law.nd (di_range B.range rfl (da_cons (de_call c_L_take (hr.mono (by omega)) rfl (da_cons (dv 1) (da_cons de_int da_nil))) da_nil)) (blkOk_by (own := [("_law_j", 5)]) (N := N_L_law) (sc := defScope s_L_law) (by decide +kernel)) (fun _ _ _ _ _ => pg_name (i := 5) sc_L_law.nd rfl (Or.inl rfl)) (fun _ _ _ _ _ => dts_nil) (fun _ _ _ _ _ => (de_call c_L_place (hr.mono (by omega)) rfl (da_cons (dv 1) da_nil))))) da_nil)))
      (dss_cons (ds_setLc (i := 7) (own := [("_law_j", 5)]) (lt1 (i := 5) (by decide)) rfl sc_L_law.nd rfl rfl (sw_true rfl rfl rfl (by decide +kernel)) (di_range B.range rfl (da_cons de_int da_nil)) (blkOk_by (own := [("_law_j", 5)]) (N := N_L_law) (sc := defScope s_L_law) (by decide +kernel)) (fun _ _ _ _ _ => pg_name (i := 5) sc_L_law.nd rfl (Or.inl rfl)) (fun _ _ _ _ _ => dts_nil) (fun _ _ _ _ _ => (de_call c_L_number (hr.mono (by omega)) rfl (da_cons (dv 1) da_nil))))
      (dss_cons (ds_set (i := 8) sc_L_law.nd rfl (.inl rfl) (de_ix (de_lst (da_cons (de_tup (da_cons de_str (da_cons (dv 4) da_nil))) (da_cons (de_tup (da_cons de_str (da_cons (dv 6) da_nil))) (da_cons (de_tup (da_cons de_str da_nil)) da_nil)))) (de_call c_L_take (hr.mono (by omega)) rfl (da_cons (dv 1) (da_cons de_int da_nil)))))
      (dss_cons (ds_set (i := 9) sc_L_law.nd rfl (.inl rfl) (de_lst (da_cons (de_ex1 x_NoText rfl de_str) (da_cons (de_ex1 x_NoStep rfl de_str) (da_cons (de_ex1 x_NoTurn rfl de_str) (da_cons (de_ex1 x_NoShuffle rfl de_str) (da_cons (de_ex1 x_NoRow rfl de_str) (da_cons (de_ex1 x_Twice rfl de_str) (da_cons (de_mkX x_NoWord (hr.mono (by omega)) rfl (da_cons (dv 3) da_nil)) da_nil)))))))))
      (dss_cons (ds_set (i := 9) sc_L_law.nd rfl (.inl rfl) (de_op od_add (dv 9) (de_lst (da_cons (de_mkX x_NoKind (hr.mono (by omega)) rfl (da_cons (dv 6) da_nil)) (da_cons (de_mkX x_NoBook (hr.mono (by omega)) rfl (da_cons (de_ix (dv 7) de_int) (da_cons (dv 8) da_nil))) (da_cons (de_mkX x_TooMany (hr.mono (by omega)) rfl (da_cons (de_ix (dv 7) de_int) (da_cons (de_ix (dv 7) de_int) da_nil))) (da_cons (de_mkX x_NoCode (hr.mono (by omega)) rfl (da_cons (dv 4) da_nil)) da_nil)))))))
      (dss_cons (ds_for PassesOwn.never rfl (di_range B.range rfl (da_cons de_int da_nil)) (dg_name (i := 10) sc_L_law.nd rfl (.inr rfl)) (dss_cons (ds_if (dt_cmp (od_ne hr.units) (de_call c_L_kinds (hr.mono (by omega)) rfl (da_cons (de_ix (dv 9) (dv 10)) da_nil)) (de_lc (own := [("_law_spot", 11)]) (lt1 (i := 11) (by decide)) rfl sc_L_law.nd (di_range B.range rfl (da_cons de_int da_nil)) (blkOk_by (own := [("_law_spot", 11)]) (N := N_L_law) (sc := defScope s_L_law) (by decide +kernel)) (fun _ _ _ _ _ => pg_name (i := 11) sc_L_law.nd rfl (Or.inl rfl)) (fun _ _ _ _ _ => dts_nil) (fun _ _ _ _ _ => (de_cmp (od_eq hr.units) (dv 11) (dv 10) (nomark _)))) (nomark _)) (dss_one (ds_ret de_bl)) dss_nil)
        (dss_one (ds_if (dt_w (dw_or (dt_not (dt_e (de_callB cd_isX B.isi rfl (by decide +kernel) (da_cons (de_ix (dv 9) (dv 10)) (da_cons (de_gref m_TakeError rfl) da_nil))))) (dw_or1 (dt_not (dt_e (de_callB cd_isX B.isi rfl (by decide +kernel) (da_cons (de_ix (dv 9) (dv 10)) (da_cons (de_ty (n := "ValueError") m_ValueError rfl (by decide +kernel)) da_nil)))))))) (dss_one (ds_ret de_bl)) dss_nil))))
      (dss_cons (ds_if (dt_w (dw_or (dt_cmp (od_ne hr.units) (de_xv (de_ix (dv 9) de_int)) (dv 3) (nomark _)) (dw_or (dt_cmp (od_ne hr.units) (de_xv (de_ix (dv 9) de_int)) (dv 6) (nomark _)) (dw_or1 (dt_cmp (od_ne hr.units) (de_xv (de_ix (dv 9) de_int)) (dv 4) (nomark _)))))) (dss_one (ds_ret de_bl)) dss_nil)
      (dss_cons (ds_if (dt_w (dw_or (dt_cmp (od_ne hr.units) (de_xv (de_ix (dv 9) de_int)) (de_ix (dv 7) de_int) (nomark _)) (dw_or1 (dt_cmp (od_ne hr.units) (de_xv (de_ix (dv 9) de_int)) (dv 8) (nomark _))))) (dss_one (ds_ret de_bl)) dss_nil)
      (dss_one (ds_if (dt_w (dw_or (dt_cmp (od_ne hr.units) (de_xv (de_ix (dv 9) de_int)) (de_ix (dv 7) de_int) (nomark _)) (dw_or1 (dt_cmp (od_ne hr.units) (de_xv (de_ix (dv 9) de_int)) (de_ix (dv 7) de_int) (nomark _))))) (dss_one (ds_ret de_bl)) dss_nil)))))))))))))
    (dss_one (ds_ret de_bl))), ?_⟩
  refine ⟨_, rfl, a, ns, rfl, hS, h63, fun d c H1 s1 nd nc D1 => ?_⟩
  refine law_go (δ := [some (.ref a), some (.ref d), none, none, none, none, none, none, none, none, none, none]) D1 (.cons (.ref a) (.cons (.ref d) (Sl.nones 10))) (fun H' => q H') fun G hk => ?_
  clear D1 s1 nd nc hS h63 ns
  walk_at "dd"
  refine wx_rng (by decide) (by decide) ?_
  refine for_by (fun i δ G' => ∃ (x2 x3 x4 x5 x6 x7 x8 x9 x10 x11 : Option DV), δ = [some (.ref a), some (.ref d), x2, x3, x4, x5, x6, x7, x8, x9, x10, x11] ∧ Sub G G') (fun _ _ _ _ => trivial) ⟨_, _, _, _, _, _, _, _, _, _, rfl, Sub.refl _⟩ ?_ ?_
  · rintro i dd δ G0 hdd ⟨x2, x3, x4, x5, x6, x7, x8, x9, x10, x11, rfl, s0⟩
    have hk0 : HasDk G0 d := hk.sub s0
    clear hdd
    walk_at "dd"
    refine ⟨d, rfl, hk0, fun pA nA => ?_⟩
    walk_at "dd"
    refine ⟨d, rfl, hk0, fun pB nB => ?_⟩
    walk_at "dd"
    refine w_ss ?_
    walk_at "dd"
    refine ⟨d, 7, rfl, hk0, by decide, by decide, fun r a0 b0 => ?_⟩
    obtain ⟨m, rfl⟩ := Int.eq_ofNat_of_zero_le a0
    walk_at "dd"
    refine wx_rng (by omega) (by omega) ?_
    rw [show ((m : Int)).toNat = m by omega]
    refine lcs_each (fun _ y => ∃ p : List Int, p ≠ [] ∧ y = plD p) (fun _ _ => trivial) (by rw [rng_len]; omega) ?_ ?_
    · intro i y hy G' k1 k0 s' e1
      walk_at "dd"
      refine ⟨d, rfl, hk0.sub s', fun p hp => ?_⟩
      exact e1 _ ⟨p, hp, rfl⟩
    intro l G1 acc nl s1 h1 la ha
    obtain ⟨pls, rfl, hne⟩ := plds_of acc ha
    rw [List.length_map, rng_len] at la
    refine ⟨l, pls, rfl, h1, by omega, hne, fun qs r hq hl nr => ?_⟩
    refine abs_new nr fun G2 s2 h2 => ?_
    walk_at "dd"
    have hk2 : HasDk G2 d := hk0.sub (s1.trans s2)
    refine wx_rng (by decide) (by decide) ?_
    refine lcs_each (fun _ y => ∃ n : Int, y = .int n) (fun _ _ => trivial) (by rw [rng_len]; decide) ?_ ?_
    · intro i y hy G' k1 k0 s' e1
      walk_at "dd"
      refine ⟨d, rfl, hk2.sub s', fun n => ?_⟩
      exact e1 _ ⟨n, rfl⟩
    intro pn G3 acc np s3 h3 la2 ha2
    obtain ⟨ns, rfl⟩ := ints_of acc ha2
    rw [List.length_map, rng_len] at la2
    obtain ⟨n0, n1, n2, rfl⟩ : ∃ n0 n1 n2, ns = [n0, n1, n2] := by
      match ns, la2 with
      | [n0, n1, n2], _ => exact ⟨n0, n1, n2, rfl⟩
    have h3 : G3 pn = some (.lst [.int n0, .int n1, .int n2]) := h3
    have hk3 : HasDk G3 d := hk2.sub s3
    walk_at "dd"
    intro pw nw
    refine abs_new nw fun G4 s4 h4 => ?_
    walk_at "dd"
    refine ⟨d, 3, rfl, hk3.sub s4, by decide, by decide, fun r3 a3 b3 => ?_⟩
    obtain ⟨wt, hw, ew⟩ := pick (xs := [DV.tup [.str "word", plD pB], .tup [.str "kind", .tup (qs.map plD)], .tup [.str "told"]]) a3 (n := 3) b3 rfl
    have pwt : PW 5 wt := by
      have ws : ∀ z : Str, txB (.str z) = true → PW 4 (.str z) := fun z hz => ⟨rfl, hz, Nat.zero_le _⟩
      have up : ∀ {n : Nat} {d : DV}, PW n d → n ≤ 4 → PW 4 d := fun h hn => ⟨h.pl, h.tx, Nat.le_trans h.dp hn⟩
      simp only [List.mem_cons, List.not_mem_nil, or_false] at hw
      rcases hw with rfl | rfl | rfl
      · exact .tup (.cons (ws _ (by decide +kernel)) (.cons (up (pw_pl pB) (by decide)) .nil))
      · exact .tup (.cons (ws _ (by decide +kernel)) (.cons (up (pw_pls qs) (by decide)) .nil))
      · exact .tup (.cons (ws _ (by decide +kernel)) .nil)
    refine w_ixL h4 ew ?_
    have h3' := s4 _ _ h3
    have s04 : Sub G0 G4 := s1.trans (s2.trans (s3.trans s4))
    clear ew hw s4 h4 hk3 h3 nw np s3 hk2 nr s2 h2 s1 h1 nl
    walk_at "dd"
    refine w_ex1 ?_
    walk_at "dd"
    intro a0 na0
    refine abs_new na0 fun E0 z0 g0 => ?_
    walk_at "dd"
    refine w_ex1 ?_
    walk_at "dd"
    intro a1 na1
    refine abs_new na1 fun E1 z1 g1 => ?_
    walk_at "dd"
    refine w_ex1 ?_
    walk_at "dd"
    intro a2 na2
    refine abs_new na2 fun E2 z2 g2 => ?_
    walk_at "dd"
    refine w_ex1 ?_
    walk_at "dd"
    intro a3 na3
    refine abs_new na3 fun E3 z3 g3 => ?_
    walk_at "dd"
    refine w_ex1 ?_
    walk_at "dd"
    intro a4 na4
    refine abs_new na4 fun E4 z4 g4 => ?_
    walk_at "dd"
    refine w_ex1 ?_
    walk_at "dd"
    intro a5 na5
    refine abs_new na5 fun E5 z5 g5 => ?_
    walk_at "dd"
    refine w_mkX ?_
    walk_at "dd"
    refine ⟨Nat.le_of_ble_eq_true rfl, fun a6 d6 na6 nd6 ne6 => ?_⟩
    refine abs_ex na6 nd6 ne6 fun E6 z6 g6 k6 => ?_
    walk_at "dd"
    intro pe npe
    refine abs_new npe fun F1 f1 hF1 => ?_
    walk_at "dd"
    refine w_mkX ?_
    walk_at "dd"
    refine ⟨Nat.le_of_ble_eq_true rfl, fun a7 d7 na7 nd7 ne7 => ?_⟩
    refine abs_ex na7 nd7 ne7 fun E7 z7 g7 k7 => ?_
    walk_at "dd"
    refine w_mkX ?_
    walk_at "dd"
    refine w_ixL ((z0.trans (z1.trans (z2.trans (z3.trans (z4.trans (z5.trans (z6.trans (f1.trans z7)))))))) _ _ h3') (atI_nat (j := 0) rfl) ?_
    walk_at "dd"
    refine ⟨Nat.le_of_ble_eq_true rfl, fun a8 d8 na8 nd8 ne8 => ?_⟩
    refine abs_ex na8 nd8 ne8 fun E8 z8 g8 k8 => ?_
    walk_at "dd"
    refine w_mkX ?_
    walk_at "dd"
    refine w_ixL ((z0.trans (z1.trans (z2.trans (z3.trans (z4.trans (z5.trans (z6.trans (f1.trans (z7.trans z8))))))))) _ _ h3') (atI_nat (j := 1) rfl) ?_
    walk_at "dd"
    refine w_ixL ((z0.trans (z1.trans (z2.trans (z3.trans (z4.trans (z5.trans (z6.trans (f1.trans (z7.trans z8))))))))) _ _ h3') (atI_nat (j := 2) rfl) ?_
    walk_at "dd"
    refine ⟨Nat.le_of_ble_eq_true rfl, fun a9 d9 na9 nd9 ne9 => ?_⟩
    refine abs_ex na9 nd9 ne9 fun E9 z9 g9 k9 => ?_
    walk_at "dd"
    refine w_mkX ?_
    walk_at "dd"
    refine ⟨Nat.le_of_ble_eq_true rfl, fun a10 d10 na10 nd10 ne10 => ?_⟩
    refine abs_ex na10 nd10 ne10 fun E10 z10 g10 k10 => ?_
    walk_at "dd"
    intro pg npg
    refine abs_new npg fun F2 f2 hF2 => ?_
    walk_at "dd"
    refine w_addL ((z7.trans (z8.trans (z9.trans (z10.trans f2)))) _ _ hF1) hF2 (mid (Nat.le_of_ble_eq_true rfl)) fun pf npf => ?_
    refine abs_new npf fun F3 f3 hF3 => ?_
    have sF : Sub G4 F3 := (z0.trans (z1.trans (z2.trans (z3.trans (z4.trans (z5.trans (z6.trans (f1.trans (z7.trans (z8.trans (z9.trans (z10.trans (f2.trans f3)))))))))))))
    have hF3 : F3 pf = some (.lst [.ref a0, .ref a1, .ref a2, .ref a3, .ref a4, .ref a5, .ref a6, .ref a7, .ref a8, .ref a9, .ref a10]) := hF3
    have i0 : IsEx F3 a0 e_NoText := .inl ((z1.trans (z2.trans (z3.trans (z4.trans (z5.trans (z6.trans (f1.trans (z7.trans (z8.trans (z9.trans (z10.trans (f2.trans f3)))))))))))) _ _ g0)
    have i1 : IsEx F3 a1 e_NoStep := .inl ((z2.trans (z3.trans (z4.trans (z5.trans (z6.trans (f1.trans (z7.trans (z8.trans (z9.trans (z10.trans (f2.trans f3))))))))))) _ _ g1)
    have i2 : IsEx F3 a2 e_NoTurn := .inl ((z3.trans (z4.trans (z5.trans (z6.trans (f1.trans (z7.trans (z8.trans (z9.trans (z10.trans (f2.trans f3)))))))))) _ _ g2)
    have i3 : IsEx F3 a3 e_NoShuffle := .inl ((z4.trans (z5.trans (z6.trans (f1.trans (z7.trans (z8.trans (z9.trans (z10.trans (f2.trans f3))))))))) _ _ g3)
    have i4 : IsEx F3 a4 e_NoRow := .inl ((z5.trans (z6.trans (f1.trans (z7.trans (z8.trans (z9.trans (z10.trans (f2.trans f3)))))))) _ _ g4)
    have i5 : IsEx F3 a5 e_Twice := .inl ((z6.trans (f1.trans (z7.trans (z8.trans (z9.trans (z10.trans (f2.trans f3))))))) _ _ g5)
    have g6 := (f1.trans (z7.trans (z8.trans (z9.trans (z10.trans (f2.trans f3)))))) _ _ g6
    have k6 := (f1.trans (z7.trans (z8.trans (z9.trans (z10.trans (f2.trans f3)))))) _ _ k6
    have i6 : IsEx F3 a6 e_NoWord := .inr ⟨d6, _, g6, k6⟩
    have g7 := (z8.trans (z9.trans (z10.trans (f2.trans f3)))) _ _ g7
    have k7 := (z8.trans (z9.trans (z10.trans (f2.trans f3)))) _ _ k7
    have i7 : IsEx F3 a7 e_NoKind := .inr ⟨d7, _, g7, k7⟩
    have g8 := (z9.trans (z10.trans (f2.trans f3))) _ _ g8
    have k8 := (z9.trans (z10.trans (f2.trans f3))) _ _ k8
    have i8 : IsEx F3 a8 e_NoBook := .inr ⟨d8, _, g8, k8⟩
    have g9 := (z10.trans (f2.trans f3)) _ _ g9
    have k9 := (z10.trans (f2.trans f3)) _ _ k9
    have i9 : IsEx F3 a9 e_TooMany := .inr ⟨d9, _, g9, k9⟩
    have g10 := (f2.trans f3) _ _ g10
    have k10 := (f2.trans f3) _ _ k10
    have i10 : IsEx F3 a10 e_NoCode := .inr ⟨d10, _, g10, k10⟩
    have hE : ∀ j : Nat, j < 11 → ∃ a C, ([.ref a0, .ref a1, .ref a2, .ref a3, .ref a4, .ref a5, .ref a6, .ref a7, .ref a8, .ref a9, .ref a10] : List DV)[j]? = some (.ref a) ∧ ([e_NoText, e_NoStep, e_NoTurn, e_NoShuffle, e_NoRow, e_Twice, e_NoWord, e_NoKind, e_NoBook, e_TooMany, e_NoCode] : List Addr)[j]? = some C ∧ IsEx F3 a C := fun j hj => by
      match j, hj with
      | 0, _ => exact ⟨a0, _, rfl, rfl, i0⟩
      | 1, _ => exact ⟨a1, _, rfl, rfl, i1⟩
      | 2, _ => exact ⟨a2, _, rfl, rfl, i2⟩
      | 3, _ => exact ⟨a3, _, rfl, rfl, i3⟩
      | 4, _ => exact ⟨a4, _, rfl, rfl, i4⟩
      | 5, _ => exact ⟨a5, _, rfl, rfl, i5⟩
      | 6, _ => exact ⟨a6, _, rfl, rfl, i6⟩
      | 7, _ => exact ⟨a7, _, rfl, rfl, i7⟩
      | 8, _ => exact ⟨a8, _, rfl, rfl, i8⟩
      | 9, _ => exact ⟨a9, _, rfl, rfl, i9⟩
      | 10, _ => exact ⟨a10, _, rfl, rfl, i10⟩
      | n + 11, h => exact absurd h (by omega)
    have hN : F3 pn = some (.lst [.int n0, .int n1, .int n2]) := sF _ _ h3'
    have s05 : Sub G0 F3 := s04.trans sF
    clear f3 f2 z10 z9 z8 z7 f1 z6 z5 z4 z3 z2 z1 z0 hF1 hF2 sF s04 g0 g1 g2 g3 g4 g5
    walk_at "dd"
    refine wx_rng (by decide) (by decide) ?_
    refine for_by (fun j δ G' => ∃ (y5 y10 y11 : Option DV), δ = [some (.ref a), some (.ref d), some dd, some (plD pA), some (plD pB), y5, some (.tup (qs.map plD)), some (.ref pn), some wt, some (.ref pf), y10, y11] ∧ Sub F3 G') (fun _ _ _ _ => trivial) ⟨_, _, _, rfl, Sub.refl _⟩ ?_ ?_
    · rintro j dj δ G' hdj ⟨y5, y10, y11, rfl, s'⟩
      have hj : j < 11 := by have := (List.getElem?_eq_some_iff.mp hdj).1; rw [rng_len] at this; exact this
      rw [rng_get (by exact hj), Int.zero_add] at hdj
      cases hdj
      obtain ⟨ae, C, he, hC, hx⟩ := hE j hj
      have mC := List.mem_of_getElem? hC
      walk_at "dd"
      refine w_ixL (s' _ _ hF3) (atI_nat (j := j) he) ?_
      walk_at "dd"
      refine ⟨ae, j, C, rfl, hC, IsEx.sub hx s', fun r1 G5 n5 s5 h5 => ?_⟩
      walk_at "dd"
      refine wx_rng (by decide) (by decide) ?_
      refine lcs_pure (eqI j) (fun _ _ => trivial) (by rw [rng_len]; decide) ?_ ?_
      · intro y hy G' k1 k0 s6 e1 e0
        obtain ⟨i2, hi2⟩ := List.getElem?_of_mem hy
        have li : i2 < 11 := by have := (List.getElem?_eq_some_iff.mp hi2).1; rw [rng_len] at this; exact this
        rw [rng_get (by exact li)] at hi2
        cases hi2
        walk_at "dd"
        exact e1 _ rfl
      intro p2 G6 n6 s6 h6
      have h6 : G6 p2 = some (.lst (row j)) := by rw [h6]; exact congrArg (fun z => some (DO.lst z)) (row_eq j hj)
      refine ⟨_, _, .inl (s6 _ _ h5), .inl h6, .inr ⟨(row_cmp j hj).1, (row_cmp j hj).1, ?_⟩⟩
      rw [(row_cmp j hj).2]
      walk_at "dd"
      have s7 := s'.trans (s5.trans s6)
      refine w_ixL (s7 _ _ hF3) (atI_nat (j := j) he) ?_
      walk_at "dd"
      refine w_isX (IsEx.sub hx s7) (T.ex j C hC) rfl (kT C mC) ?_
      walk_at "dd"
      refine w_ixL (s7 _ _ hF3) (atI_nat (j := j) he) ?_
      walk_at "dd"
      refine w_isX (IsEx.sub hx s7) (T.ex j C hC) rfl (kV C mC) ?_
      walk_at "dd"
      exact ⟨_, _, _, rfl, s7⟩
    rintro δ G' ⟨y5, y10, y11, rfl, s'⟩
    walk_at "dd"
    refine w_xv ?_
    walk_at "dd"
    refine w_ixL (s' _ _ hF3) (atI_nat (j := 6) rfl) ?_
    refine ⟨a6, e_NoWord, d6, _, _, rfl, xf_NoWord, nf_NoWord_place, s' _ _ g6, s' _ _ k6, rfl, ?_⟩
    walk_at "dd"
    refine w_neSame (pw_pl pA) (by decide) ?_
    walk_at "dd"
    refine w_xv ?_
    walk_at "dd"
    refine w_ixL (s' _ _ hF3) (atI_nat (j := 7) rfl) ?_
    refine ⟨a7, e_NoKind, d7, _, _, rfl, xf_NoKind, nf_NoKind_places, s' _ _ g7, s' _ _ k7, rfl, ?_⟩
    walk_at "dd"
    refine w_neSame (pw_pls qs) (by decide) ?_
    walk_at "dd"
    refine w_xv ?_
    walk_at "dd"
    refine w_ixL (s' _ _ hF3) (atI_nat (j := 10) rfl) ?_
    refine ⟨a10, e_NoCode, d10, _, _, rfl, xf_NoCode, nf_NoCode_place, s' _ _ g10, s' _ _ k10, rfl, ?_⟩
    walk_at "dd"
    refine w_neSame (pw_pl pB) (by decide) ?_
    walk_at "dd"
    refine w_xv ?_
    walk_at "dd"
    refine w_ixL (s' _ _ hF3) (atI_nat (j := 8) rfl) ?_
    refine ⟨a8, e_NoBook, d8, _, _, rfl, xf_NoBook, nf_NoBook_number, s' _ _ g8, s' _ _ k8, rfl, ?_⟩
    walk_at "dd"
    refine w_ixL ((s' _ _ hN)) (atI_nat (j := 0) rfl) ?_
    walk_at "dd"
    rw [decide_eq_true (show n0 = n0 from rfl)]
    walk_at "dd"
    refine w_xv ?_
    walk_at "dd"
    refine w_ixL (s' _ _ hF3) (atI_nat (j := 8) rfl) ?_
    refine ⟨a8, e_NoBook, d8, _, _, rfl, xf_NoBook, nf_NoBook_what, s' _ _ g8, s' _ _ k8, rfl, ?_⟩
    walk_at "dd"
    refine w_neSame pwt (by decide) ?_
    walk_at "dd"
    refine w_xv ?_
    walk_at "dd"
    refine w_ixL (s' _ _ hF3) (atI_nat (j := 9) rfl) ?_
    refine ⟨a9, e_TooMany, d9, _, _, rfl, xf_TooMany, nf_TooMany_many, s' _ _ g9, s' _ _ k9, rfl, ?_⟩
    walk_at "dd"
    refine w_ixL ((s' _ _ hN)) (atI_nat (j := 1) rfl) ?_
    walk_at "dd"
    rw [decide_eq_true (show n1 = n1 from rfl)]
    walk_at "dd"
    refine w_xv ?_
    walk_at "dd"
    refine w_ixL (s' _ _ hF3) (atI_nat (j := 9) rfl) ?_
    refine ⟨a9, e_TooMany, d9, _, _, rfl, xf_TooMany, nf_TooMany_most, s' _ _ g9, s' _ _ k9, rfl, ?_⟩
    walk_at "dd"
    refine w_ixL ((s' _ _ hN)) (atI_nat (j := 2) rfl) ?_
    walk_at "dd"
    rw [decide_eq_true (show n2 = n2 from rfl)]
    walk_at "dd"
    exact ⟨_, _, _, _, _, _, _, _, _, _, rfl, s0.trans (s05.trans s')⟩
  rintro δ G' ⟨x2, x3, x4, x5, x6, x7, x8, x9, x10, x11, rfl, s'⟩
  walk_at "dd"
  rfl
end
end K07
set_option maxHeartbeats 1000000
namespace K07
open PySem PySem.W L2 SX Cm DD
local macro_rules | `(tactic| walk_at "d1") => `(tactic| first | (with_reducible refine w_seq ?_) | (with_reducible refine w_next ?_) | ((with_reducible show dVar _ _ _ _); refine w_var rfl ?_) | (with_reducible refine w_asg ?_) | (with_reducible refine w_cons ?_) | (with_reducible refine w_nil ?_) | (with_reducible refine w_c ?_) | (with_reducible refine w_op ?_) | (with_reducible refine w_call ?_) | (with_reducible refine w_CB ?_) | (with_reducible refine w_ret ?_) | (with_reducible refine w_ifS ?_) | (with_reducible refine w_drop ?_) | (with_reducible refine w_tup ?_) | (with_reducible refine w_lst ?_) | (with_reducible refine w_sl ?_) | (with_reducible refine w_none ?_) | (with_reducible refine w_some ?_) | (with_reducible refine w_BM ?_) | (with_reducible refine w_BM0 ?_) | (with_reducible refine w_test ?_) | (with_reducible refine w_tru ?_) | (with_reducible refine w_and ?_) | (with_reducible refine w_or ?_) | (with_reducible refine w_not ?_) | (with_reducible refine w_yes ?_) | (with_reducible refine w_ifE ?_) | (with_reducible refine w_andV ?_) | (with_reducible refine w_orV ?_) | (with_reducible refine w_notV ?_) | (with_reducible refine w_neg ?_) | (with_reducible refine w_rev ?_) | (with_reducible refine w_exI ?_) | (with_reducible refine w_exB ?_) | (with_reducible refine w_exT ?_) | (with_reducible refine w_exS ?_) | (with_reducible refine w_parE ?_) | (with_reducible refine w_par ?_) | (with_reducible refine w_asgS ?_) | (with_reducible refine w_retN ?_) | (with_reducible refine w_break ?_) | (with_reducible refine w_cont ?_) | (with_reducible refine w_truB ?_) | (with_reducible refine w_truI ?_) | (with_reducible refine w_truN ?_) | (with_reducible refine w_truT ?_) | (with_reducible refine w_addI ?_) | (with_reducible refine w_subI ?_) | (with_reducible refine w_cmpI ?_) | (with_reducible refine w_cmpS ?_) | (with_reducible refine w_eqSS ?_) | (with_reducible refine w_eqII ?_) | (with_reducible refine w_eqBB ?_) | (with_reducible refine w_neSS ?_) | (with_reducible refine w_neII ?_) | (with_reducible refine w_neBB ?_) | (with_reducible refine w_eqSN ?_) | (with_reducible refine w_eqIN ?_) | (with_reducible refine w_eqSI ?_) | (with_reducible refine w_eqIS ?_) | (with_reducible refine w_eqNS ?_) | (with_reducible refine w_eqBS ?_) | (with_reducible refine w_eqT0 ?_) | (with_reducible refine w_ix0 ?_) | (with_reducible refine w_ix1 ?_) | (with_reducible refine w_ix2 ?_) | (with_reducible refine w_ix3 ?_) | (with_reducible refine w_slT ?_) | (with_reducible refine w_lenT ?_) | (with_reducible refine w_intB ?_) | (with_reducible refine w_intI ?_) | (with_reducible refine w_tupT ?_) | (with_reducible refine w_rcvS ?_) | (with_reducible refine ly1 ?_) | (with_reducible refine ly2 ?_) | (with_reducible refine lt1' ?_) | (with_reducible refine lt2' ?_) | (with_reducible refine g_n ?_) | (with_reducible refine w_isN ?_) | (with_reducible refine w_isnN ?_) | (with_reducible refine w_for ?_) | (with_reducible refine w_lc ?_) | (with_reducible refine wi_tup ?_) | (with_reducible refine wi_lst ?_) | (with_reducible refine wi_str ?_) | (with_reducible refine wi_rng ?_) | (with_reducible refine wi_rng2 ?_) | (with_reducible refine wi_enumT ?_) | (with_reducible refine wi_enum ?_) | (with_reducible refine wi_rev ?_) | (with_reducible refine wi_revR ?_) | (with_reducible refine wx_enumT ?_) | (with_reducible refine w_callX ?_) | (with_reducible refine w_methX ?_) | (with_reducible refine w_raise ?_) | (with_reducible refine w_try ?_) | (with_reducible refine w_xSet ?_) | (with_reducible refine w_xExpr ?_) | (with_reducible refine w_xLst ?_) | (with_reducible refine w_xTup ?_) | (with_reducible refine w_xCons ?_) | (with_reducible refine w_xNil ?_) | (with_reducible refine w_xE ?_) | (with_reducible refine w_xCall ?_) | (with_reducible refine w_call0 ?_) | (with_reducible refine w_asgL ?_) | (with_reducible refine w_tupPd ?_) | (with_reducible refine wi_zip ?_) | (with_reducible refine w_dnew ?_) | (with_reducible refine w_dget ?_) | (with_reducible refine w_dget2 ?_) | (with_reducible refine w_din ?_) | (with_reducible refine w_dput ?_) | (with_reducible refine w_asgT ?_) | (with_reducible refine g_C ?_) | (with_reducible refine g_0 ?_) | (with_reducible refine w_inS ?_) | (with_reducible refine w_delT ?_) | (with_reducible refine w_dc ?_) | (with_reducible refine w_revL ?_) | (with_reducible refine wi_revT ?_) | (with_reducible refine w_lstZip ?_) | (with_reducible refine w_chain ?_) | (with_reducible refine w_orT ?_) | (with_reducible refine w_try0 ?_) | (with_reducible refine w_xAsg ?_) | (with_reducible refine wi_zipTL ?_) | (with_reducible refine wi_zipSL ?_) | ((with_reducible show gT _ _ _ _ _ _); refine g_T ?_ rfl) | ((with_reducible show ∃ p, DV.ref _ = _ ∧ (∃ kvs, _) ∧ _); refine wx_get (by walk_at "gq") ?_) | ((with_reducible show ∃ kvs z, _ = _ ∧ _ = some (DO.dct _) ∧ _); refine wx_get2 (by walk_at "gq") ?_) | ((with_reducible show ∃ p kvs z, _ = _ ∧ _ = _ ∧ _ = some (DO.dct _) ∧ _); refine wx_in (by walk_at "gq") ?_) | ((with_reducible show List.length _ = _ ∧ _); refine w_len ?_ rfl) | ((with_reducible show List.length _ ≤ sizeLine ∧ _); refine w_sz ?_ (szl rfl)) | ((with_reducible show bIx _ (.int _) _ _); first | refine w_ix0 ?_ | refine w_ix1 ?_ | refine w_ix2 ?_ | refine w_ix3 ?_) | ((with_reducible show bIsi [_, _] _ _); first | refine w_isi (by decide) (a := "tuple") rfl rfl ?_ | refine w_isi (by decide) (a := "str") rfl rfl ?_ | refine w_isi (by decide) (a := "int") rfl rfl ?_ | refine w_isi (by decide) (a := "bool") rfl rfl ?_ | refine w_isi (by decide) (a := "NoneType") rfl rfl ?_) | ((with_reducible show ∃ ds, _ = DV.tup ds ∧ _); refine w_exT ?_) | ((with_reducible show ∃ z, _ = DV.str z ∧ _); refine w_exS ?_) | ((with_reducible show ∃ ds, [_] = [DV.tup ds] ∧ _); refine wx_enumT ?_) | ((with_reducible show bSl _ _ _ _ _); refine w_slT ?_) | ((with_reducible show bTuple [_] _ _); refine w_tupT ?_) | ((with_reducible show bLen [_] _ _); refine w_lenT ?_) | ((with_reducible show bTru _ _ _); first | refine w_truT ?_ | refine w_truN ?_ | refine w_truB ?_ | refine w_truI ?_) | ((with_reducible show bEq _ _ _ _ _); first | refine w_eqSS ?_ | refine w_eqII ?_ | refine w_neSS ?_ | refine w_neII ?_ | refine w_eqT0 ?_) | ((with_reducible show bInt _ _ (.int _) (.int _) _ _); refine w_int (by first | decide | exact ⟨by decide, by decide, by decide⟩ | exact .inl ⟨by decide, by decide⟩ | exact .inr ⟨by decide, by decide⟩) ?_) | ((with_reducible show if _ = true then _ else _); first | refine w_it (by first | rfl | decide +kernel) ?_ | refine w_if0 (by first | rfl | decide +kernel) ?_) | ((with_reducible show rcv "list" (.ref _) _ ∧ _); refine w_rcvL (by walk_at "gq") ?_) | ((with_reducible show bTuple [.ref _] _ _); refine w_tupL (by walk_at "gq") ?_) | ((with_reducible show bLen [.ref _] _ _); refine w_lenL (by walk_at "gq") ?_) | ((with_reducible show bTru (.ref _) _ _); refine w_truL (by walk_at "gq") ?_) | ((with_reducible show ∃ _ _, DV.ref _ = _ ∧ Ls _ _ _ ∧ _); refine wx_lst (by walk_at "gq") ?_) | ((with_reducible show ∃ _ _, [DV.ref _] = _ ∧ Ls _ _ _ ∧ _); refine wx_lstA (by walk_at "gq") ?_))
local macro_rules | `(tactic| walk_at "dd") => `(tactic| repeat (walk_at "d1"))
local macro_rules | `(tactic| walk_at "gq") => `(tactic| first | assumption | exact dupd_same | exact sub_get (by assumption) (by walk_at "gq") | exact upd_get (by assumption) (by walk_at "gq") (by walk_at "gn") | exact subx_get (by assumption) (by walk_at "gq") (by walk_at "gn") | (refine (dupd_ne ?_).trans ?_; (focus walk_at "gn"); walk_at "gq"))
local macro_rules | `(tactic| walk_at "gs") => `(tactic| first | assumption | exact Sub.refl _ | exact sub_tr (by assumption) (by walk_at "gs") | exact sub_up (by assumption) (by walk_at "gs") (by walk_at "g0") | exact sub_ux (by assumption) (by walk_at "gs") (by walk_at "g0") | (refine Sub.new ?_ ?_; (focus walk_at "gs"); walk_at "g0"))
local macro_rules | `(tactic| walk_at "gk") => `(tactic| first | assumption | exact dk_sub (by assumption) (by walk_at "gk") | exact dk_upd (by assumption) (by walk_at "gk") ⟨_, by walk_at "gq"⟩ | exact dk_updD (by assumption) (by walk_at "gk") ⟨_, by walk_at "gq"⟩)
local macro_rules | `(tactic| walk_at "gu") => `(tactic| first | assumption | exact Upd.refl _ _ | exact upd_in (by assumption) (by walk_at "gu"))
local macro_rules | `(tactic| walk_at "gx") => `(tactic| first | assumption | exact SubX.refl _ _ | exact subx_sub (by assumption) (by walk_at "gx") | exact subx_upd (by assumption) (by walk_at "gx") | exact subx_tr (by assumption) (by walk_at "gx"))
local macro_rules | `(tactic| walk_at "gn") => `(tactic| first | assumption | exact Ne.symm (by assumption) | exact ne_ns (by assumption) ⟨_, by walk_at "gq"⟩ | exact ne_sn (by assumption) ⟨_, by walk_at "gq"⟩)
local macro_rules | `(tactic| walk_at "g0") => `(tactic| first | assumption | exact nn_ (by assumption) (by walk_at "gs"))
abbrev s_p_NoWord_init : Stmt := inClass (top 8) 0
abbrev s_p_NoKind_init : Stmt := inClass (top 9) 0
abbrev s_p_NoBook_init : Stmt := inClass (top 10) 0
abbrev s_p_TooMany_init : Stmt := inClass (top 11) 0
abbrev s_p_NoCode_init : Stmt := inClass (top 12) 0
def excB (K : Frag) (D : Addr) : Bool := decide (findIn K (.ref D) "__getattribute__" = some (some (.builtin "BaseException.__getattribute__"))) && (decide (findIn K (.ref D) "__getattr__" = some none) && (decide (subIn K (.ref D) (.type "BaseException") = some true) && (hasDictIn K D && (decide (findIn K (.ref D) "__class__" = some (some (.builtin "object.__class__"))) && decide (mroIn K D (.type "object") = some true)))))
theorem excB_ok {K : Frag} {D : Addr} (h6 : specialIn K (.builtin "object.__class__") "__get__" = some (some (.builtin "getset_descriptor.__get__"))) (h7 : takesIn K (.builtin "object.__class__") = some true) (h : excB K D = true) : ExcC K D := by
  unfold excB at h
  simp only [Bool.and_eq_true, decide_eq_true_eq] at h
  obtain ⟨a, b, c, d, e, f⟩ := h
  exact ⟨a, b, c, d, e, h6, h7, f⟩
def kitB (K : Frag) (Cs : List Addr) : Bool := (List.range 11).all fun i => (List.range 11).all fun j => match Cs[i]?, Cs[j]? with
  | some C, some D => (match kitOne K (.ref C) (.ref D) with
    | some b => b == decide (i = j)
    | none => false)
  | _, _ => false
theorem kitB_ok {K : Frag} {Cs : List Addr} (hl : Cs.length = 11) (h : kitB K Cs = true) (i j : Nat) (C D : Addr) (hC : Cs[i]? = some C) (hD : Cs[j]? = some D) : kitOne K (.ref C) (.ref D) = some (decide (i = j)) := by
  have li : i < 11 := by rw [← hl]; exact (List.getElem?_eq_some_iff.mp hC).1
  have lj : j < 11 := by rw [← hl]; exact (List.getElem?_eq_some_iff.mp hD).1
  have h1 := List.all_eq_true.mp (List.all_eq_true.mp h i (List.mem_range.mpr li)) j (List.mem_range.mpr lj)
  rw [hC, hD] at h1
  dsimp only at h1
  cases e : kitOne K (.ref C) (.ref D) with
  | none => rw [e] at h1; cases h1
  | some b =>
    rw [e] at h1
    rw [show b = decide (i = j) from eq_of_beq h1]
def upB (K : Frag) (v : Value) (Cs : List Addr) : Bool := Cs.all fun C => match kitOne K (.ref C) v with
  | some b => b
  | none => false
theorem upB_ok {K : Frag} {v : Value} {Cs : List Addr} (h : upB K v Cs = true) (C : Addr) (hC : C ∈ Cs) : kitOne K (.ref C) v = some true := by
  have h1 := List.all_eq_true.mp h C hC
  cases e : kitOne K (.ref C) v with
  | none => rw [e] at h1; cases h1
  | some b => rw [e] at h1; dsimp only at h1; rw [h1]
section
variable {P : Program} {w : World} {K : Frag} {mg : Str → Option Value} {base : Heap}
theorem ex_NoWord {C cc cda fI : Addr} {kV doc pm ct oc : Value} {an od : Option Addr} {osl : Array (Option Value)} (own : OexC K C) (mgC : mg "NoWord" = some (.ref C)) (iC : findIn K (.ref C) "__init__" = some (some (.ref fI))) (tI : typeIn K (.ref fI) = some (.type "function"))
    (lk : K.lookup fI = some ⟨oc, od, .func (fnX "__init__" "NoWord.__init__" (defArgs s_p_NoWord_init) (defBody s_p_NoWord_init) (defScope s_p_NoWord_init) [("__class__", cc)] .none kV doc pm an (.ref cda) ct), osl⟩) (hcd : codeIn K (.ref cda) "NoWord.__init__" = true) (T : SupC P K C cc cda) (hm : mg "super" = none) (nb0 : findIn K (.ref C) "place" = some none) : ExI P w K mg base 1 "NoWord" C ["place"] :=
  exI1 own own.kC mgC iC tI lk hcd T hm (by rfl) (NdefX.nscope_by (by decide +kernel)) (by decide +kernel) (by rfl) (by rfl) nb0 (Binds.all fun us hl => match us, hl with | [_, _], _ => rfl) (by decide) (by decide) (fun _ _ => by rfl) (fun _ _ => by rfl) (fun _ _ => by rfl) _ (fun _ => by rfl)
theorem ex_NoKind {C cc cda fI : Addr} {kV doc pm ct oc : Value} {an od : Option Addr} {osl : Array (Option Value)} (own : OexC K C) (mgC : mg "NoKind" = some (.ref C)) (iC : findIn K (.ref C) "__init__" = some (some (.ref fI))) (tI : typeIn K (.ref fI) = some (.type "function"))
    (lk : K.lookup fI = some ⟨oc, od, .func (fnX "__init__" "NoKind.__init__" (defArgs s_p_NoKind_init) (defBody s_p_NoKind_init) (defScope s_p_NoKind_init) [("__class__", cc)] .none kV doc pm an (.ref cda) ct), osl⟩) (hcd : codeIn K (.ref cda) "NoKind.__init__" = true) (T : SupC P K C cc cda) (hm : mg "super" = none) (nb0 : findIn K (.ref C) "places" = some none) : ExI P w K mg base 1 "NoKind" C ["places"] :=
  exI1 own own.kC mgC iC tI lk hcd T hm (by rfl) (NdefX.nscope_by (by decide +kernel)) (by decide +kernel) (by rfl) (by rfl) nb0 (Binds.all fun us hl => match us, hl with | [_, _], _ => rfl) (by decide) (by decide) (fun _ _ => by rfl) (fun _ _ => by rfl) (fun _ _ => by rfl) _ (fun _ => by rfl)
theorem ex_NoBook {C cc cda fI : Addr} {kV doc pm ct oc : Value} {an od : Option Addr} {osl : Array (Option Value)} (own : OexC K C) (mgC : mg "NoBook" = some (.ref C)) (iC : findIn K (.ref C) "__init__" = some (some (.ref fI))) (tI : typeIn K (.ref fI) = some (.type "function"))
    (lk : K.lookup fI = some ⟨oc, od, .func (fnX "__init__" "NoBook.__init__" (defArgs s_p_NoBook_init) (defBody s_p_NoBook_init) (defScope s_p_NoBook_init) [("__class__", cc)] .none kV doc pm an (.ref cda) ct), osl⟩) (hcd : codeIn K (.ref cda) "NoBook.__init__" = true) (T : SupC P K C cc cda) (hm : mg "super" = none) (nb0 : findIn K (.ref C) "number" = some none) (nb1 : findIn K (.ref C) "what" = some none) : ExI P w K mg base 1 "NoBook" C ["number", "what"] :=
  exI2 own own.kC mgC iC tI lk hcd T hm (by rfl) (NdefX.nscope_by (by decide +kernel)) (by decide +kernel) (by rfl) (by rfl) nb0 nb1 (Binds.all fun us hl => match us, hl with | [_, _, _], _ => rfl) (by decide) (by decide) (by decide) (by decide) (fun _ _ => by rfl) (fun _ _ => by rfl) (fun _ _ => by rfl) (fun _ _ => by rfl) _ (fun _ => by rfl)
theorem ex_TooMany {C cc cda fI : Addr} {kV doc pm ct oc : Value} {an od : Option Addr} {osl : Array (Option Value)} (own : OexC K C) (mgC : mg "TooMany" = some (.ref C)) (iC : findIn K (.ref C) "__init__" = some (some (.ref fI))) (tI : typeIn K (.ref fI) = some (.type "function"))
    (lk : K.lookup fI = some ⟨oc, od, .func (fnX "__init__" "TooMany.__init__" (defArgs s_p_TooMany_init) (defBody s_p_TooMany_init) (defScope s_p_TooMany_init) [("__class__", cc)] .none kV doc pm an (.ref cda) ct), osl⟩) (hcd : codeIn K (.ref cda) "TooMany.__init__" = true) (T : SupC P K C cc cda) (hm : mg "super" = none) (nb0 : findIn K (.ref C) "many" = some none) (nb1 : findIn K (.ref C) "most" = some none) : ExI P w K mg base 1 "TooMany" C ["many", "most"] :=
  exI2 own own.kC mgC iC tI lk hcd T hm (by rfl) (NdefX.nscope_by (by decide +kernel)) (by decide +kernel) (by rfl) (by rfl) nb0 nb1 (Binds.all fun us hl => match us, hl with | [_, _, _], _ => rfl) (by decide) (by decide) (by decide) (by decide) (fun _ _ => by rfl) (fun _ _ => by rfl) (fun _ _ => by rfl) (fun _ _ => by rfl) _ (fun _ => by rfl)
theorem ex_NoCode {C cc cda fI : Addr} {kV doc pm ct oc : Value} {an od : Option Addr} {osl : Array (Option Value)} (own : OexC K C) (mgC : mg "NoCode" = some (.ref C)) (iC : findIn K (.ref C) "__init__" = some (some (.ref fI))) (tI : typeIn K (.ref fI) = some (.type "function"))
    (lk : K.lookup fI = some ⟨oc, od, .func (fnX "__init__" "NoCode.__init__" (defArgs s_p_NoCode_init) (defBody s_p_NoCode_init) (defScope s_p_NoCode_init) [("__class__", cc)] .none kV doc pm an (.ref cda) ct), osl⟩) (hcd : codeIn K (.ref cda) "NoCode.__init__" = true) (T : SupC P K C cc cda) (hm : mg "super" = none) (nb0 : findIn K (.ref C) "place" = some none) : ExI P w K mg base 1 "NoCode" C ["place"] :=
  exI1 own own.kC mgC iC tI lk hcd T hm (by rfl) (NdefX.nscope_by (by decide +kernel)) (by decide +kernel) (by rfl) (by rfl) nb0 (Binds.all fun us hl => match us, hl with | [_, _], _ => rfl) (by decide) (by decide) (fun _ _ => by rfl) (fun _ _ => by rfl) (fun _ _ => by rfl) _ (fun _ => by rfl)
end
end K07
namespace K07
open PySem PySem.W L2 SX Cm DD
theorem all_mk {l : PySem.W.OpenLaw} {w : World} {K : PySem.W.Frag} {h : Heap} {mg : Str → Option Value} {fa f1 f2 f3 f4 f5 f6 f7 : Addr} {nmNoWord qNoWord : Str} {NNoWord ccNoWord cdaNoWord fINoWord : Addr} {bsNoWord bmNoWord subNoWord : List Value} {snNoWord : List Str} {abNoWord : Bool} {colNoWord : Option Bool} {ddNoWord cldNoWord cddNoWord odNoWord anNoWord : Option Addr} {k0NoWord k1NoWord k2NoWord k3NoWord k5NoWord : Option Value} {ocNoWord kVNoWord dcNoWord pmNoWord ctNoWord clNoWord cclNoWord : Value} {oslNoWord cslNoWord ccsNoWord : Array (Option Value)} {vsNoWord : Array Value} {fileNoWord : Str} {tfNoWord : Tok} {nmNoKind qNoKind : Str} {NNoKind ccNoKind cdaNoKind fINoKind : Addr} {bsNoKind bmNoKind subNoKind : List Value} {snNoKind : List Str} {abNoKind : Bool} {colNoKind : Option Bool} {ddNoKind cldNoKind cddNoKind odNoKind anNoKind : Option Addr} {k0NoKind k1NoKind k2NoKind k3NoKind k5NoKind : Option Value} {ocNoKind kVNoKind dcNoKind pmNoKind ctNoKind clNoKind cclNoKind : Value} {oslNoKind cslNoKind ccsNoKind : Array (Option Value)} {vsNoKind : Array Value} {fileNoKind : Str} {tfNoKind : Tok} {nmNoBook qNoBook : Str} {NNoBook ccNoBook cdaNoBook fINoBook : Addr} {bsNoBook bmNoBook subNoBook : List Value} {snNoBook : List Str} {abNoBook : Bool} {colNoBook : Option Bool} {ddNoBook cldNoBook cddNoBook odNoBook anNoBook : Option Addr} {k0NoBook k1NoBook k2NoBook k3NoBook k5NoBook : Option Value} {ocNoBook kVNoBook dcNoBook pmNoBook ctNoBook clNoBook cclNoBook : Value} {oslNoBook cslNoBook ccsNoBook : Array (Option Value)} {vsNoBook : Array Value} {fileNoBook : Str} {tfNoBook : Tok} {nmTooMany qTooMany : Str} {NTooMany ccTooMany cdaTooMany fITooMany : Addr} {bsTooMany bmTooMany subTooMany : List Value} {snTooMany : List Str} {abTooMany : Bool} {colTooMany : Option Bool} {ddTooMany cldTooMany cddTooMany odTooMany anTooMany : Option Addr} {k0TooMany k1TooMany k2TooMany k3TooMany k5TooMany : Option Value} {ocTooMany kVTooMany dcTooMany pmTooMany ctTooMany clTooMany cclTooMany : Value} {oslTooMany cslTooMany ccsTooMany : Array (Option Value)} {vsTooMany : Array Value} {fileTooMany : Str} {tfTooMany : Tok} {nmNoCode qNoCode : Str} {NNoCode ccNoCode cdaNoCode fINoCode : Addr} {bsNoCode bmNoCode subNoCode : List Value} {snNoCode : List Str} {abNoCode : Bool} {colNoCode : Option Bool} {ddNoCode cldNoCode cddNoCode odNoCode anNoCode : Option Addr} {k0NoCode k1NoCode k2NoCode k3NoCode k5NoCode : Option Value} {ocNoCode kVNoCode dcNoCode pmNoCode ctNoCode clNoCode cclNoCode : Value} {oslNoCode cslNoCode ccsNoCode : Array (Option Value)} {vsNoCode : Array Value} {fileNoCode : Str} {tfNoCode : Tok} (X : K.In h) (G : h.Ns mainGlobals mg) (hfa : mg "law" = some (.ref fa))
    {od1 an1 od2 an2 od3 an3 od4 an4 od5 an5 od6 an6 od7 an7 : Option Addr} {sl1 sl2 sl3 sl4 sl5 sl6 sl7 : Array (Option Value)} {oc1 kV1 dc1 pm1 cd1 ct1 oc2 kV2 dc2 pm2 cd2 ct2 oc3 kV3 dc3 pm3 cd3 ct3 oc4 kV4 dc4 pm4 cd4 ct4 oc5 kV5 dc5 pm5 cd5 ct5 oc6 kV6 dc6 pm6 cd6 ct6 oc7 kV7 dc7 pm7 cd7 ct7 : Value}
    (a1 : PySem.W.nsIn K mainGlobals "_law_mixed" = some (some (.ref f1))) (l1 : K.lookup f1 = some ⟨oc1, od1, .func (PySem.W.fnOf "_law_mixed" "_law_mixed" (defArgs s_L_mixed) (defBody s_L_mixed) (defScope s_L_mixed) .none kV1 dc1 pm1 an1 cd1 ct1), sl1⟩) (c1 : PySem.W.codeIn K cd1 "_law_mixed" = true) (k1 : PySem.W.keepIn K (.ref f1) = true)
    (a2 : PySem.W.nsIn K mainGlobals "_law_deck" = some (some (.ref f2))) (l2 : K.lookup f2 = some ⟨oc2, od2, .func (PySem.W.fnOf "_law_deck" "_law_deck" (defArgs s_L_deck) (defBody s_L_deck) (defScope s_L_deck) .none kV2 dc2 pm2 an2 cd2 ct2), sl2⟩) (c2 : PySem.W.codeIn K cd2 "_law_deck" = true) (k2 : PySem.W.keepIn K (.ref f2) = true)
    (a3 : PySem.W.nsIn K mainGlobals "_law_take" = some (some (.ref f3))) (l3 : K.lookup f3 = some ⟨oc3, od3, .func (PySem.W.fnOf "_law_take" "_law_take" (defArgs s_L_take) (defBody s_L_take) (defScope s_L_take) .none kV3 dc3 pm3 an3 cd3 ct3), sl3⟩) (c3 : PySem.W.codeIn K cd3 "_law_take" = true) (k3 : PySem.W.keepIn K (.ref f3) = true)
    (a4 : PySem.W.nsIn K mainGlobals "_law_number" = some (some (.ref f4))) (l4 : K.lookup f4 = some ⟨oc4, od4, .func (PySem.W.fnOf "_law_number" "_law_number" (defArgs s_L_number) (defBody s_L_number) (defScope s_L_number) .none kV4 dc4 pm4 an4 cd4 ct4), sl4⟩) (c4 : PySem.W.codeIn K cd4 "_law_number" = true) (k4 : PySem.W.keepIn K (.ref f4) = true)
    (a5 : PySem.W.nsIn K mainGlobals "_law_place" = some (some (.ref f5))) (l5 : K.lookup f5 = some ⟨oc5, od5, .func (PySem.W.fnOf "_law_place" "_law_place" (defArgs s_L_place) (defBody s_L_place) (defScope s_L_place) .none kV5 dc5 pm5 an5 cd5 ct5), sl5⟩) (c5 : PySem.W.codeIn K cd5 "_law_place" = true) (k5 : PySem.W.keepIn K (.ref f5) = true)
    (a6 : PySem.W.nsIn K mainGlobals "_law_kinds" = some (some (.ref f6))) (l6 : K.lookup f6 = some ⟨oc6, od6, .func (PySem.W.fnOf "_law_kinds" "_law_kinds" (defArgs s_L_kinds) (defBody s_L_kinds) (defScope s_L_kinds) .none kV6 dc6 pm6 an6 cd6 ct6), sl6⟩) (c6 : PySem.W.codeIn K cd6 "_law_kinds" = true) (k6 : PySem.W.keepIn K (.ref f6) = true)
    (a7 : PySem.W.nsIn K mainGlobals "law" = some (some (.ref f7))) (l7 : K.lookup f7 = some ⟨oc7, od7, .func (PySem.W.fnOf "law" "law" (defArgs s_L_law) (defBody s_L_law) (defScope s_L_law) .none kV7 dc7 pm7 an7 cd7 ct7), sl7⟩) (c7 : PySem.W.codeIn K cd7 "law" = true) (k7 : PySem.W.keepIn K (.ref f7) = true)
    (z_len : PySem.W.nsIn K mainGlobals "len" = some none)
    (z_isinstance : PySem.W.nsIn K mainGlobals "isinstance" = some none)
    (z_int : PySem.W.nsIn K mainGlobals "int" = some none)
    (z_str : PySem.W.nsIn K mainGlobals "str" = some none)
    (z_tuple : PySem.W.nsIn K mainGlobals "tuple" = some none)
    (z_list : PySem.W.nsIn K mainGlobals "list" = some none)
    (z_bool : PySem.W.nsIn K mainGlobals "bool" = some none)
    (z_dict : PySem.W.nsIn K mainGlobals "dict" = some none)
    (z_all : PySem.W.nsIn K mainGlobals "all" = some none)
    (z_any : PySem.W.nsIn K mainGlobals "any" = some none)
    (z_sum : PySem.W.nsIn K mainGlobals "sum" = some none)
    (z_sorted : PySem.W.nsIn K mainGlobals "sorted" = some none)
    (z_set : PySem.W.nsIn K mainGlobals "set" = some none)
    (z_range : PySem.W.nsIn K mainGlobals "range" = some none)
    (z_enumerate : PySem.W.nsIn K mainGlobals "enumerate" = some none)
    (z_zip : PySem.W.nsIn K mainGlobals "zip" = some none)
    (z_reversed : PySem.W.nsIn K mainGlobals "reversed" = some none)
    (z_super : PySem.W.nsIn K mainGlobals "super" = some none)
    (z_ValueError : PySem.W.nsIn K mainGlobals "ValueError" = some none)
    {e_NoText : Addr} (g_NoText : PySem.W.nsIn K mainGlobals "NoText" = some (some (.ref e_NoText)))
    {e_NoStep : Addr} (g_NoStep : PySem.W.nsIn K mainGlobals "NoStep" = some (some (.ref e_NoStep)))
    {e_NoTurn : Addr} (g_NoTurn : PySem.W.nsIn K mainGlobals "NoTurn" = some (some (.ref e_NoTurn)))
    {e_NoShuffle : Addr} (g_NoShuffle : PySem.W.nsIn K mainGlobals "NoShuffle" = some (some (.ref e_NoShuffle)))
    {e_NoRow : Addr} (g_NoRow : PySem.W.nsIn K mainGlobals "NoRow" = some (some (.ref e_NoRow)))
    {e_Twice : Addr} (g_Twice : PySem.W.nsIn K mainGlobals "Twice" = some (some (.ref e_Twice)))
    {e_NoWord : Addr} (g_NoWord : PySem.W.nsIn K mainGlobals "NoWord" = some (some (.ref e_NoWord)))
    {e_NoKind : Addr} (g_NoKind : PySem.W.nsIn K mainGlobals "NoKind" = some (some (.ref e_NoKind)))
    {e_NoBook : Addr} (g_NoBook : PySem.W.nsIn K mainGlobals "NoBook" = some (some (.ref e_NoBook)))
    {e_TooMany : Addr} (g_TooMany : PySem.W.nsIn K mainGlobals "TooMany" = some (some (.ref e_TooMany)))
    {e_NoCode : Addr} (g_NoCode : PySem.W.nsIn K mainGlobals "NoCode" = some (some (.ref e_NoCode)))
    {e_TakeError : Addr} (g_TakeError : PySem.W.nsIn K mainGlobals "TakeError" = some (some (.ref e_TakeError)))
    (opq : PySem.W.nsIn K cStatics "thirdparty.any" = some none)
    (topS : (l.prog.main.scope.names.lookup ("super" : Str)).isSome = false)
    (xPNoText : PySem.W.excIn K e_NoText [.type "ValueError", .type "Exception", .type "BaseException", .type "object"] "ValueError.__new__" = true)
    (kPNoText : PySem.W.keepIn K (.ref e_NoText) = true)
    (bPNoText : PySem.W.subIn K (.ref e_NoText) (.type "BaseException") = some true)
    (tPNoText : PySem.W.typeIn K (.ref e_NoText) = some (.type "type"))
    (xPNoStep : PySem.W.excIn K e_NoStep [.type "ValueError", .type "Exception", .type "BaseException", .type "object"] "ValueError.__new__" = true)
    (kPNoStep : PySem.W.keepIn K (.ref e_NoStep) = true)
    (bPNoStep : PySem.W.subIn K (.ref e_NoStep) (.type "BaseException") = some true)
    (tPNoStep : PySem.W.typeIn K (.ref e_NoStep) = some (.type "type"))
    (xPNoTurn : PySem.W.excIn K e_NoTurn [.type "ValueError", .type "Exception", .type "BaseException", .type "object"] "ValueError.__new__" = true)
    (kPNoTurn : PySem.W.keepIn K (.ref e_NoTurn) = true)
    (bPNoTurn : PySem.W.subIn K (.ref e_NoTurn) (.type "BaseException") = some true)
    (tPNoTurn : PySem.W.typeIn K (.ref e_NoTurn) = some (.type "type"))
    (xPNoShuffle : PySem.W.excIn K e_NoShuffle [.type "ValueError", .type "Exception", .type "BaseException", .type "object"] "ValueError.__new__" = true)
    (kPNoShuffle : PySem.W.keepIn K (.ref e_NoShuffle) = true)
    (bPNoShuffle : PySem.W.subIn K (.ref e_NoShuffle) (.type "BaseException") = some true)
    (tPNoShuffle : PySem.W.typeIn K (.ref e_NoShuffle) = some (.type "type"))
    (xPNoRow : PySem.W.excIn K e_NoRow [.type "ValueError", .type "Exception", .type "BaseException", .type "object"] "ValueError.__new__" = true)
    (kPNoRow : PySem.W.keepIn K (.ref e_NoRow) = true)
    (bPNoRow : PySem.W.subIn K (.ref e_NoRow) (.type "BaseException") = some true)
    (tPNoRow : PySem.W.typeIn K (.ref e_NoRow) = some (.type "type"))
    (xPTwice : PySem.W.excIn K e_Twice [.type "ValueError", .type "Exception", .type "BaseException", .type "object"] "ValueError.__new__" = true)
    (kPTwice : PySem.W.keepIn K (.ref e_Twice) = true)
    (bPTwice : PySem.W.subIn K (.ref e_Twice) (.type "BaseException") = some true)
    (tPTwice : PySem.W.typeIn K (.ref e_Twice) = some (.type "type"))
    (oc_NoWord : K.lookup e_NoWord = some (excClassObj nmNoWord qNoWord e_NoWord NNoWord bsNoWord bmNoWord true snNoWord subNoWord abNoWord colNoWord ddNoWord k0NoWord k1NoWord k2NoWord k3NoWord k5NoWord "ValueError.__new__"))
    (ov_NoWord : PySem.HandSPX.refsVE bmNoWord = true)
    (sa_NoWord : PySem.W.findIn K (.ref e_NoWord) "__setattr__" = some (some (.builtin "object.__setattr__")))
    (bPNoWord : PySem.W.subIn K (.ref e_NoWord) (.type "BaseException") = some true)
    (tPNoWord : PySem.W.typeIn K (.ref e_NoWord) = some (.type "type"))
    (kPNoWord : PySem.W.keepIn K (.ref e_NoWord) = true)
    (iC_NoWord : PySem.W.findIn K (.ref e_NoWord) "__init__" = some (some (.ref fINoWord)))
    (tI_NoWord : PySem.W.typeIn K (.ref fINoWord) = some (.type "function"))
    (lk_NoWord : K.lookup fINoWord = some ⟨ocNoWord, odNoWord, .func (PySem.W.fnX "__init__" "NoWord.__init__" (defArgs s_p_NoWord_init) (defBody s_p_NoWord_init) (defScope s_p_NoWord_init) [("__class__", ccNoWord)] .none kVNoWord dcNoWord pmNoWord anNoWord (.ref cdaNoWord) ctNoWord), oslNoWord⟩)
    (cd_NoWord : PySem.W.codeIn K (.ref cdaNoWord) "NoWord.__init__" = true)
    (ce_NoWord : K.lookup ccNoWord = some ⟨clNoWord, cldNoWord, .cell (some (.ref e_NoWord)), cslNoWord⟩)
    (su_NoWord : PySem.W.ks_superIn K e_NoWord e_NoWord "__init__" = some (some (.builtin "ValueError.__init__")))
    (sb_NoWord : PySem.W.subIn K (.ref e_NoWord) (.type "ValueError") = some true)
    (sf_NoWord : PySem.W.mroIn K e_NoWord (.ref e_NoWord) = some true)
    (cv_NoWord : K.lookup cdaNoWord = some ⟨cclNoWord, cddNoWord, .fields vsNoWord, ccsNoWord⟩)
    (cf_NoWord : vsNoWord[2]? = some (.str fileNoWord tfNoWord))
    (cm_NoWord : ((l.prog.main.file : Str) == fileNoWord) = true)
    (xf_NoWord : L2.xfB K e_NoWord = true)
    (nf_NoWord_place : PySem.W.findIn K (.ref e_NoWord) "place" = some none)
    (oc_NoKind : K.lookup e_NoKind = some (excClassObj nmNoKind qNoKind e_NoKind NNoKind bsNoKind bmNoKind true snNoKind subNoKind abNoKind colNoKind ddNoKind k0NoKind k1NoKind k2NoKind k3NoKind k5NoKind "ValueError.__new__"))
    (ov_NoKind : PySem.HandSPX.refsVE bmNoKind = true)
    (sa_NoKind : PySem.W.findIn K (.ref e_NoKind) "__setattr__" = some (some (.builtin "object.__setattr__")))
    (bPNoKind : PySem.W.subIn K (.ref e_NoKind) (.type "BaseException") = some true)
    (tPNoKind : PySem.W.typeIn K (.ref e_NoKind) = some (.type "type"))
    (kPNoKind : PySem.W.keepIn K (.ref e_NoKind) = true)
    (iC_NoKind : PySem.W.findIn K (.ref e_NoKind) "__init__" = some (some (.ref fINoKind)))
    (tI_NoKind : PySem.W.typeIn K (.ref fINoKind) = some (.type "function"))
    (lk_NoKind : K.lookup fINoKind = some ⟨ocNoKind, odNoKind, .func (PySem.W.fnX "__init__" "NoKind.__init__" (defArgs s_p_NoKind_init) (defBody s_p_NoKind_init) (defScope s_p_NoKind_init) [("__class__", ccNoKind)] .none kVNoKind dcNoKind pmNoKind anNoKind (.ref cdaNoKind) ctNoKind), oslNoKind⟩)
    (cd_NoKind : PySem.W.codeIn K (.ref cdaNoKind) "NoKind.__init__" = true)
    (ce_NoKind : K.lookup ccNoKind = some ⟨clNoKind, cldNoKind, .cell (some (.ref e_NoKind)), cslNoKind⟩)
    (su_NoKind : PySem.W.ks_superIn K e_NoKind e_NoKind "__init__" = some (some (.builtin "ValueError.__init__")))
    (sb_NoKind : PySem.W.subIn K (.ref e_NoKind) (.type "ValueError") = some true)
    (sf_NoKind : PySem.W.mroIn K e_NoKind (.ref e_NoKind) = some true)
    (cv_NoKind : K.lookup cdaNoKind = some ⟨cclNoKind, cddNoKind, .fields vsNoKind, ccsNoKind⟩)
    (cf_NoKind : vsNoKind[2]? = some (.str fileNoKind tfNoKind))
    (cm_NoKind : ((l.prog.main.file : Str) == fileNoKind) = true)
    (xf_NoKind : L2.xfB K e_NoKind = true)
    (nf_NoKind_places : PySem.W.findIn K (.ref e_NoKind) "places" = some none)
    (oc_NoBook : K.lookup e_NoBook = some (excClassObj nmNoBook qNoBook e_NoBook NNoBook bsNoBook bmNoBook true snNoBook subNoBook abNoBook colNoBook ddNoBook k0NoBook k1NoBook k2NoBook k3NoBook k5NoBook "ValueError.__new__"))
    (ov_NoBook : PySem.HandSPX.refsVE bmNoBook = true)
    (sa_NoBook : PySem.W.findIn K (.ref e_NoBook) "__setattr__" = some (some (.builtin "object.__setattr__")))
    (bPNoBook : PySem.W.subIn K (.ref e_NoBook) (.type "BaseException") = some true)
    (tPNoBook : PySem.W.typeIn K (.ref e_NoBook) = some (.type "type"))
    (kPNoBook : PySem.W.keepIn K (.ref e_NoBook) = true)
    (iC_NoBook : PySem.W.findIn K (.ref e_NoBook) "__init__" = some (some (.ref fINoBook)))
    (tI_NoBook : PySem.W.typeIn K (.ref fINoBook) = some (.type "function"))
    (lk_NoBook : K.lookup fINoBook = some ⟨ocNoBook, odNoBook, .func (PySem.W.fnX "__init__" "NoBook.__init__" (defArgs s_p_NoBook_init) (defBody s_p_NoBook_init) (defScope s_p_NoBook_init) [("__class__", ccNoBook)] .none kVNoBook dcNoBook pmNoBook anNoBook (.ref cdaNoBook) ctNoBook), oslNoBook⟩)
    (cd_NoBook : PySem.W.codeIn K (.ref cdaNoBook) "NoBook.__init__" = true)
    (ce_NoBook : K.lookup ccNoBook = some ⟨clNoBook, cldNoBook, .cell (some (.ref e_NoBook)), cslNoBook⟩)
    (su_NoBook : PySem.W.ks_superIn K e_NoBook e_NoBook "__init__" = some (some (.builtin "ValueError.__init__")))
    (sb_NoBook : PySem.W.subIn K (.ref e_NoBook) (.type "ValueError") = some true)
    (sf_NoBook : PySem.W.mroIn K e_NoBook (.ref e_NoBook) = some true)
    (cv_NoBook : K.lookup cdaNoBook = some ⟨cclNoBook, cddNoBook, .fields vsNoBook, ccsNoBook⟩)
    (cf_NoBook : vsNoBook[2]? = some (.str fileNoBook tfNoBook))
    (cm_NoBook : ((l.prog.main.file : Str) == fileNoBook) = true)
    (xf_NoBook : L2.xfB K e_NoBook = true)
    (nf_NoBook_number : PySem.W.findIn K (.ref e_NoBook) "number" = some none)
    (nf_NoBook_what : PySem.W.findIn K (.ref e_NoBook) "what" = some none)
    (oc_TooMany : K.lookup e_TooMany = some (excClassObj nmTooMany qTooMany e_TooMany NTooMany bsTooMany bmTooMany true snTooMany subTooMany abTooMany colTooMany ddTooMany k0TooMany k1TooMany k2TooMany k3TooMany k5TooMany "ValueError.__new__"))
    (ov_TooMany : PySem.HandSPX.refsVE bmTooMany = true)
    (sa_TooMany : PySem.W.findIn K (.ref e_TooMany) "__setattr__" = some (some (.builtin "object.__setattr__")))
    (bPTooMany : PySem.W.subIn K (.ref e_TooMany) (.type "BaseException") = some true)
    (tPTooMany : PySem.W.typeIn K (.ref e_TooMany) = some (.type "type"))
    (kPTooMany : PySem.W.keepIn K (.ref e_TooMany) = true)
    (iC_TooMany : PySem.W.findIn K (.ref e_TooMany) "__init__" = some (some (.ref fITooMany)))
    (tI_TooMany : PySem.W.typeIn K (.ref fITooMany) = some (.type "function"))
    (lk_TooMany : K.lookup fITooMany = some ⟨ocTooMany, odTooMany, .func (PySem.W.fnX "__init__" "TooMany.__init__" (defArgs s_p_TooMany_init) (defBody s_p_TooMany_init) (defScope s_p_TooMany_init) [("__class__", ccTooMany)] .none kVTooMany dcTooMany pmTooMany anTooMany (.ref cdaTooMany) ctTooMany), oslTooMany⟩)
    (cd_TooMany : PySem.W.codeIn K (.ref cdaTooMany) "TooMany.__init__" = true)
    (ce_TooMany : K.lookup ccTooMany = some ⟨clTooMany, cldTooMany, .cell (some (.ref e_TooMany)), cslTooMany⟩)
    (su_TooMany : PySem.W.ks_superIn K e_TooMany e_TooMany "__init__" = some (some (.builtin "ValueError.__init__")))
    (sb_TooMany : PySem.W.subIn K (.ref e_TooMany) (.type "ValueError") = some true)
    (sf_TooMany : PySem.W.mroIn K e_TooMany (.ref e_TooMany) = some true)
    (cv_TooMany : K.lookup cdaTooMany = some ⟨cclTooMany, cddTooMany, .fields vsTooMany, ccsTooMany⟩)
    (cf_TooMany : vsTooMany[2]? = some (.str fileTooMany tfTooMany))
    (cm_TooMany : ((l.prog.main.file : Str) == fileTooMany) = true)
    (xf_TooMany : L2.xfB K e_TooMany = true)
    (nf_TooMany_many : PySem.W.findIn K (.ref e_TooMany) "many" = some none)
    (nf_TooMany_most : PySem.W.findIn K (.ref e_TooMany) "most" = some none)
    (oc_NoCode : K.lookup e_NoCode = some (excClassObj nmNoCode qNoCode e_NoCode NNoCode bsNoCode bmNoCode true snNoCode subNoCode abNoCode colNoCode ddNoCode k0NoCode k1NoCode k2NoCode k3NoCode k5NoCode "ValueError.__new__"))
    (ov_NoCode : PySem.HandSPX.refsVE bmNoCode = true)
    (sa_NoCode : PySem.W.findIn K (.ref e_NoCode) "__setattr__" = some (some (.builtin "object.__setattr__")))
    (bPNoCode : PySem.W.subIn K (.ref e_NoCode) (.type "BaseException") = some true)
    (tPNoCode : PySem.W.typeIn K (.ref e_NoCode) = some (.type "type"))
    (kPNoCode : PySem.W.keepIn K (.ref e_NoCode) = true)
    (iC_NoCode : PySem.W.findIn K (.ref e_NoCode) "__init__" = some (some (.ref fINoCode)))
    (tI_NoCode : PySem.W.typeIn K (.ref fINoCode) = some (.type "function"))
    (lk_NoCode : K.lookup fINoCode = some ⟨ocNoCode, odNoCode, .func (PySem.W.fnX "__init__" "NoCode.__init__" (defArgs s_p_NoCode_init) (defBody s_p_NoCode_init) (defScope s_p_NoCode_init) [("__class__", ccNoCode)] .none kVNoCode dcNoCode pmNoCode anNoCode (.ref cdaNoCode) ctNoCode), oslNoCode⟩)
    (cd_NoCode : PySem.W.codeIn K (.ref cdaNoCode) "NoCode.__init__" = true)
    (ce_NoCode : K.lookup ccNoCode = some ⟨clNoCode, cldNoCode, .cell (some (.ref e_NoCode)), cslNoCode⟩)
    (su_NoCode : PySem.W.ks_superIn K e_NoCode e_NoCode "__init__" = some (some (.builtin "ValueError.__init__")))
    (sb_NoCode : PySem.W.subIn K (.ref e_NoCode) (.type "ValueError") = some true)
    (sf_NoCode : PySem.W.mroIn K e_NoCode (.ref e_NoCode) = some true)
    (cv_NoCode : K.lookup cdaNoCode = some ⟨cclNoCode, cddNoCode, .fields vsNoCode, ccsNoCode⟩)
    (cf_NoCode : vsNoCode[2]? = some (.str fileNoCode tfNoCode))
    (cm_NoCode : ((l.prog.main.file : Str) == fileNoCode) = true)
    (xf_NoCode : L2.xfB K e_NoCode = true)
    (nf_NoCode_place : PySem.W.findIn K (.ref e_NoCode) "place" = some none)
    (g6 : PySem.W.specialIn K (.builtin "object.__class__") "__get__" = some (some (.builtin "getset_descriptor.__get__")))
    (g7 : PySem.W.takesIn K (.builtin "object.__class__") = some true)
    (exA : ([e_NoText, e_NoStep, e_NoTurn, e_NoShuffle, e_NoRow, e_Twice, e_NoWord, e_NoKind, e_NoBook, e_TooMany, e_NoCode].all fun C => K07.excB K C) = true)
    (kitA : K07.kitB K [e_NoText, e_NoStep, e_NoTurn, e_NoShuffle, e_NoRow, e_Twice, e_NoWord, e_NoKind, e_NoBook, e_TooMany, e_NoCode] = true)
    (upT : K07.upB K (.ref e_TakeError) [e_NoText, e_NoStep, e_NoTurn, e_NoShuffle, e_NoRow, e_Twice, e_NoWord, e_NoKind, e_NoBook, e_TooMany, e_NoCode] = true)
    (upV : K07.upB K (.type "ValueError") [e_NoText, e_NoStep, e_NoTurn, e_NoShuffle, e_NoRow, e_Twice, e_NoWord, e_NoKind, e_NoBook, e_TooMany, e_NoCode] = true)
    : ∃ fd : FuncData, (∀ (s : Shared) (v : Value), BindsTo s fd ⟨[v], []⟩ [("_law_script", v)]) ∧ ∀ base : Heap, K.In base → base.Ns mainGlobals mg → FnOk l.prog w K mg base CX0 6 fa fd ["_law_script"] (spLaw K) := by
  have e := hfa.symm.trans (PySem.W.mg_of X G a7)
  cases e
  have F1 := fun_mk (st := s_L_mixed) l1 c1 k1
  have b1 := F1.binds (ps := ["_law_cell", "_law_k"]) fun _ _ _ _ _ _ us hl => match us, hl with | [_, _], _ => rfl
  have m1 := PySem.W.mg_of X G a1
  have F2 := fun_mk (st := s_L_deck) l2 c2 k2
  have b2 := F2.binds (ps := ["_law_script"]) fun _ _ _ _ _ _ us hl => match us, hl with | [_], _ => rfl
  have m2 := PySem.W.mg_of X G a2
  have F3 := fun_mk (st := s_L_take) l3 c3 k3
  have b3 := F3.binds (ps := ["_law_deck_here", "_law_most"]) fun _ _ _ _ _ _ us hl => match us, hl with | [_, _], _ => rfl
  have m3 := PySem.W.mg_of X G a3
  have F4 := fun_mk (st := s_L_number) l4 c4 k4
  have b4 := F4.binds (ps := ["_law_deck_here"]) fun _ _ _ _ _ _ us hl => match us, hl with | [_], _ => rfl
  have m4 := PySem.W.mg_of X G a4
  have F5 := fun_mk (st := s_L_place) l5 c5 k5
  have b5 := F5.binds (ps := ["_law_deck_here"]) fun _ _ _ _ _ _ us hl => match us, hl with | [_], _ => rfl
  have m5 := PySem.W.mg_of X G a5
  have F6 := fun_mk (st := s_L_kinds) l6 c6 k6
  have b6 := F6.binds (ps := ["_law_error"]) fun _ _ _ _ _ _ us hl => match us, hl with | [_], _ => rfl
  have m6 := PySem.W.mg_of X G a6
  have F7 := fun_mk (st := s_L_law) l7 c7 k7
  have y_len := PySem.W.mg_none_of X G z_len
  have y_isinstance := PySem.W.mg_none_of X G z_isinstance
  have y_int := PySem.W.mg_none_of X G z_int
  have y_str := PySem.W.mg_none_of X G z_str
  have y_tuple := PySem.W.mg_none_of X G z_tuple
  have y_list := PySem.W.mg_none_of X G z_list
  have y_bool := PySem.W.mg_none_of X G z_bool
  have y_dict := PySem.W.mg_none_of X G z_dict
  have y_all := PySem.W.mg_none_of X G z_all
  have y_any := PySem.W.mg_none_of X G z_any
  have y_sum := PySem.W.mg_none_of X G z_sum
  have y_sorted := PySem.W.mg_none_of X G z_sorted
  have y_set := PySem.W.mg_none_of X G z_set
  have y_range := PySem.W.mg_none_of X G z_range
  have y_enumerate := PySem.W.mg_none_of X G z_enumerate
  have y_zip := PySem.W.mg_none_of X G z_zip
  have y_reversed := PySem.W.mg_none_of X G z_reversed
  have y_super := PySem.W.mg_none_of X G z_super
  have y_ValueError := PySem.W.mg_none_of X G z_ValueError
  have v_NoText := PySem.W.mg_of X G g_NoText
  have v_NoStep := PySem.W.mg_of X G g_NoStep
  have v_NoTurn := PySem.W.mg_of X G g_NoTurn
  have v_NoShuffle := PySem.W.mg_of X G g_NoShuffle
  have v_NoRow := PySem.W.mg_of X G g_NoRow
  have v_Twice := PySem.W.mg_of X G g_Twice
  have v_NoWord := PySem.W.mg_of X G g_NoWord
  have v_NoKind := PySem.W.mg_of X G g_NoKind
  have v_NoBook := PySem.W.mg_of X G g_NoBook
  have v_TooMany := PySem.W.mg_of X G g_TooMany
  have v_NoCode := PySem.W.mg_of X G g_NoCode
  have v_TakeError := PySem.W.mg_of X G g_TakeError
  refine ⟨PySem.W.fnOf "law" "law" (defArgs s_L_law) (defBody s_L_law) (defScope s_L_law) .none kV7 dc7 pm7 an7 cd7 ct7, fun s v => .of_eq rfl, fun base _ _ => ?_⟩
  have B : BI mg := ⟨y_len, y_isinstance, y_int, y_str, y_tuple, y_list, y_bool, y_dict, y_all, y_any, y_sum, y_sorted, y_set, y_range, y_enumerate, y_zip, y_reversed⟩
  have t_L_mixed : At K mg "_law_mixed" s_L_mixed ["_law_cell", "_law_k"] := ⟨f1, _, F1, b1, m1⟩
  have t_L_deck : At K mg "_law_deck" s_L_deck ["_law_script"] := ⟨f2, _, F2, b2, m2⟩
  have t_L_take : At K mg "_law_take" s_L_take ["_law_deck_here", "_law_most"] := ⟨f3, _, F3, b3, m3⟩
  have t_L_number : At K mg "_law_number" s_L_number ["_law_deck_here"] := ⟨f4, _, F4, b4, m4⟩
  have t_L_place : At K mg "_law_place" s_L_place ["_law_deck_here"] := ⟨f5, _, F5, b5, m5⟩
  have t_L_kinds : At K mg "_law_kinds" s_L_kinds ["_law_error"] := ⟨f6, _, F6, b6, m6⟩
  have X_NoText : ErrC K mg "NoText" e_NoText := ⟨v_NoText, xPNoText, kPNoText, bPNoText, tPNoText⟩
  have X_NoStep : ErrC K mg "NoStep" e_NoStep := ⟨v_NoStep, xPNoStep, kPNoStep, bPNoStep, tPNoStep⟩
  have X_NoTurn : ErrC K mg "NoTurn" e_NoTurn := ⟨v_NoTurn, xPNoTurn, kPNoTurn, bPNoTurn, tPNoTurn⟩
  have X_NoShuffle : ErrC K mg "NoShuffle" e_NoShuffle := ⟨v_NoShuffle, xPNoShuffle, kPNoShuffle, bPNoShuffle, tPNoShuffle⟩
  have X_NoRow : ErrC K mg "NoRow" e_NoRow := ⟨v_NoRow, xPNoRow, kPNoRow, bPNoRow, tPNoRow⟩
  have X_Twice : ErrC K mg "Twice" e_Twice := ⟨v_Twice, xPTwice, kPTwice, bPTwice, tPTwice⟩
  have O_NoWord : OexC K e_NoWord := ⟨⟨_, _, _, _, _, _, _, _, _, _, _, _, _, _, _, oc_NoWord, ov_NoWord⟩, sa_NoWord, bPNoWord, tPNoWord, kPNoWord⟩
  have S_NoWord : SupC l.prog K e_NoWord ccNoWord cdaNoWord := ⟨O_NoWord, ⟨_, _, _, ce_NoWord⟩, opq, su_NoWord, sb_NoWord, sf_NoWord, ⟨_, _, _, _, _, _, cv_NoWord, cf_NoWord, cm_NoWord⟩, topS⟩
  have I_NoWord := ex_NoWord (P := l.prog) (w := w) (base := base) O_NoWord v_NoWord iC_NoWord tI_NoWord lk_NoWord cd_NoWord S_NoWord y_super nf_NoWord_place
  have O_NoKind : OexC K e_NoKind := ⟨⟨_, _, _, _, _, _, _, _, _, _, _, _, _, _, _, oc_NoKind, ov_NoKind⟩, sa_NoKind, bPNoKind, tPNoKind, kPNoKind⟩
  have S_NoKind : SupC l.prog K e_NoKind ccNoKind cdaNoKind := ⟨O_NoKind, ⟨_, _, _, ce_NoKind⟩, opq, su_NoKind, sb_NoKind, sf_NoKind, ⟨_, _, _, _, _, _, cv_NoKind, cf_NoKind, cm_NoKind⟩, topS⟩
  have I_NoKind := ex_NoKind (P := l.prog) (w := w) (base := base) O_NoKind v_NoKind iC_NoKind tI_NoKind lk_NoKind cd_NoKind S_NoKind y_super nf_NoKind_places
  have O_NoBook : OexC K e_NoBook := ⟨⟨_, _, _, _, _, _, _, _, _, _, _, _, _, _, _, oc_NoBook, ov_NoBook⟩, sa_NoBook, bPNoBook, tPNoBook, kPNoBook⟩
  have S_NoBook : SupC l.prog K e_NoBook ccNoBook cdaNoBook := ⟨O_NoBook, ⟨_, _, _, ce_NoBook⟩, opq, su_NoBook, sb_NoBook, sf_NoBook, ⟨_, _, _, _, _, _, cv_NoBook, cf_NoBook, cm_NoBook⟩, topS⟩
  have I_NoBook := ex_NoBook (P := l.prog) (w := w) (base := base) O_NoBook v_NoBook iC_NoBook tI_NoBook lk_NoBook cd_NoBook S_NoBook y_super nf_NoBook_number nf_NoBook_what
  have O_TooMany : OexC K e_TooMany := ⟨⟨_, _, _, _, _, _, _, _, _, _, _, _, _, _, _, oc_TooMany, ov_TooMany⟩, sa_TooMany, bPTooMany, tPTooMany, kPTooMany⟩
  have S_TooMany : SupC l.prog K e_TooMany ccTooMany cdaTooMany := ⟨O_TooMany, ⟨_, _, _, ce_TooMany⟩, opq, su_TooMany, sb_TooMany, sf_TooMany, ⟨_, _, _, _, _, _, cv_TooMany, cf_TooMany, cm_TooMany⟩, topS⟩
  have I_TooMany := ex_TooMany (P := l.prog) (w := w) (base := base) O_TooMany v_TooMany iC_TooMany tI_TooMany lk_TooMany cd_TooMany S_TooMany y_super nf_TooMany_many nf_TooMany_most
  have O_NoCode : OexC K e_NoCode := ⟨⟨_, _, _, _, _, _, _, _, _, _, _, _, _, _, _, oc_NoCode, ov_NoCode⟩, sa_NoCode, bPNoCode, tPNoCode, kPNoCode⟩
  have S_NoCode : SupC l.prog K e_NoCode ccNoCode cdaNoCode := ⟨O_NoCode, ⟨_, _, _, ce_NoCode⟩, opq, su_NoCode, sb_NoCode, sf_NoCode, ⟨_, _, _, _, _, _, cv_NoCode, cf_NoCode, cm_NoCode⟩, topS⟩
  have I_NoCode := ex_NoCode (P := l.prog) (w := w) (base := base) O_NoCode v_NoCode iC_NoCode tI_NoCode lk_NoCode cd_NoCode S_NoCode y_super nf_NoCode_place
  have DE : FnOk l.prog w K mg base CX0 1 _ _ ["_law_script"] (spDeck K) := ok_deck F2 B
  have ct := h_take (P := l.prog) (w := w) (base := base) t_L_take t_L_mixed
  have cn := h_L_number t_L_number B ct
  have pl := h_L_place t_L_place B ct
  have T : KsOk K [e_NoText, e_NoStep, e_NoTurn, e_NoShuffle, e_NoRow, e_Twice, e_NoWord, e_NoKind, e_NoBook, e_TooMany, e_NoCode] := ⟨fun i C hC => excB_ok g6 g7 (List.all_eq_true.mp exA C (List.mem_of_getElem? hC)), kitB_ok rfl kitA⟩
  have kn := h_L_kinds (P := l.prog) (w := w) (base := base) (a := t_L_kinds) (B := B) (T := T) (m_NoText := v_NoText) (m_NoStep := v_NoStep) (m_NoTurn := v_NoTurn) (m_NoShuffle := v_NoShuffle) (m_NoRow := v_NoRow) (m_Twice := v_Twice) (m_NoWord := v_NoWord) (m_NoKind := v_NoKind) (m_NoBook := v_NoBook) (m_TooMany := v_TooMany) (m_NoCode := v_NoCode)
  exact ok_law F7 B DE b2 k2 m2 pl ct cn kn y_ValueError v_TakeError X_NoText X_NoStep X_NoTurn X_NoShuffle X_NoRow X_Twice I_NoWord I_NoKind I_NoBook I_TooMany I_NoCode T (upB_ok upT) (upB_ok upV) (xfB_ok xf_NoWord) nf_NoWord_place (xfB_ok xf_NoKind) nf_NoKind_places (xfB_ok xf_NoBook) nf_NoBook_number nf_NoBook_what (xfB_ok xf_TooMany) nf_TooMany_many nf_TooMany_most (xfB_ok xf_NoCode) nf_NoCode_place
theorem walk_law {l : PySem.W.OpenLaw} {q : Program} {loose : List Str} {XP : (Str → Option Value) → Heap → Prop} {YP : World → Heap → Prop} {d : DefRec} {K : Params → PySem.W.Frag} (hn : l.most = some 63) (hdf : d.params.defaults = [])
    (hY : ∀ (w : World) (h : Heap), YP w h → (K w.params).In h)
    (F : ∀ (w : World) (mg : Str → Option Value) (fa : Addr) (h : Heap), (K w.params).In h → h.Ns mainGlobals mg → mg d.name = some (.ref fa) →
      ∃ fd : FuncData, (∀ (s : Shared) (u : Value), BindsTo s fd ⟨[u], []⟩ [("_law_script", u)]) ∧ ∀ base : Heap, (K w.params).In base → base.Ns mainGlobals mg → FnOk l.prog w (K w.params) mg base CX0 6 fa fd ["_law_script"] (spLaw (K w.params))) :
    PySem.W.WalkO q loose XP YP l.row.toRowW d [] (fun f vs => PySem.call f vs) :=
  L2.walk_of (n := 63) (k := 6) (x := "_law_script") (CX := fun _ => CX0) (sp := fun w => spLaw (K w.params)) hn (by decide) hdf ⟨rfl, by decide, by decide⟩ hY F (fun _ _ a ns hl _ hS => ⟨a, ns, rfl, hS, hl, fun _ => rfl⟩) fun _ _ _ _ _ z => z
end K07
open PySem PySem.W PyProof.Rows
set_option maxRecDepth 100000 in
set_option maxHeartbeats 0 in
theorem PySem.Challenge.cw_takeleave_k07_refusals_made_by_hand_holds : PySem.Challenge.rw_takeleave_k07_refusals_made_by_hand.Holds := by
  w_on; o_law; k_head; (case hw => w_witness2)
  k_fill
  refine K07.walk_law (l := PySem.Challenge.rw_takeleave_k07_refusals_made_by_hand) rfl rfl (fun w h Y => PySem.W.kIn_of Y) ?F
  case F =>
    intro w mg fa h KX G hmg
    refine' K07.all_mk (w := w) KX G hmg ?a1 ?l1 ?c1 ?k1 ?a2 ?l2 ?c2 ?k2 ?a3 ?l3 ?c3 ?k3 ?a4 ?l4 ?c4 ?k4 ?a5 ?l5 ?c5 ?k5 ?a6 ?l6 ?c6 ?k6 ?a7 ?l7 ?c7 ?k7 ?z_len ?z_isinstance ?z_int ?z_str ?z_tuple ?z_list ?z_bool ?z_dict ?z_all ?z_any ?z_sum ?z_sorted ?z_set ?z_range ?z_enumerate ?z_zip ?z_reversed ?z_super ?z_ValueError ?g_NoText ?g_NoStep ?g_NoTurn ?g_NoShuffle ?g_NoRow ?g_Twice ?g_NoWord ?g_NoKind ?g_NoBook ?g_TooMany ?g_NoCode ?g_TakeError ?opq ?topS ?xPNoText ?kPNoText ?bPNoText ?tPNoText ?xPNoStep ?kPNoStep ?bPNoStep ?tPNoStep ?xPNoTurn ?kPNoTurn ?bPNoTurn ?tPNoTurn ?xPNoShuffle ?kPNoShuffle ?bPNoShuffle ?tPNoShuffle ?xPNoRow ?kPNoRow ?bPNoRow ?tPNoRow ?xPTwice ?kPTwice ?bPTwice ?tPTwice ?oc_NoWord ?ov_NoWord ?sa_NoWord ?bPNoWord ?tPNoWord ?kPNoWord ?iC_NoWord ?tI_NoWord ?lk_NoWord ?cd_NoWord ?ce_NoWord ?su_NoWord ?sb_NoWord ?sf_NoWord ?cv_NoWord ?cf_NoWord ?cm_NoWord ?xf_NoWord ?nf_NoWord_place ?oc_NoKind ?ov_NoKind ?sa_NoKind ?bPNoKind ?tPNoKind ?kPNoKind ?iC_NoKind ?tI_NoKind ?lk_NoKind ?cd_NoKind ?ce_NoKind ?su_NoKind ?sb_NoKind ?sf_NoKind ?cv_NoKind ?cf_NoKind ?cm_NoKind ?xf_NoKind ?nf_NoKind_places ?oc_NoBook ?ov_NoBook ?sa_NoBook ?bPNoBook ?tPNoBook ?kPNoBook ?iC_NoBook ?tI_NoBook ?lk_NoBook ?cd_NoBook ?ce_NoBook ?su_NoBook ?sb_NoBook ?sf_NoBook ?cv_NoBook ?cf_NoBook ?cm_NoBook ?xf_NoBook ?nf_NoBook_number ?nf_NoBook_what ?oc_TooMany ?ov_TooMany ?sa_TooMany ?bPTooMany ?tPTooMany ?kPTooMany ?iC_TooMany ?tI_TooMany ?lk_TooMany ?cd_TooMany ?ce_TooMany ?su_TooMany ?sb_TooMany ?sf_TooMany ?cv_TooMany ?cf_TooMany ?cm_TooMany ?xf_TooMany ?nf_TooMany_many ?nf_TooMany_most ?oc_NoCode ?ov_NoCode ?sa_NoCode ?bPNoCode ?tPNoCode ?kPNoCode ?iC_NoCode ?tI_NoCode ?lk_NoCode ?cd_NoCode ?ce_NoCode ?su_NoCode ?sb_NoCode ?sf_NoCode ?cv_NoCode ?cf_NoCode ?cm_NoCode ?xf_NoCode ?nf_NoCode_place ?g6 ?g7 ?exA ?kitA ?upT ?upV
    (case a1 => k_is)
    (case l1 => k_is)
    (case c1 => k_is)
    (case k1 => k_is)
    (case a2 => k_is)
    (case l2 => k_is)
    (case c2 => k_is)
    (case k2 => k_is)
    (case a3 => k_is)
    (case l3 => k_is)
    (case c3 => k_is)
    (case k3 => k_is)
    (case a4 => k_is)
    (case l4 => k_is)
    (case c4 => k_is)
    (case k4 => k_is)
    (case a5 => k_is)
    (case l5 => k_is)
    (case c5 => k_is)
    (case k5 => k_is)
    (case a6 => k_is)
    (case l6 => k_is)
    (case c6 => k_is)
    (case k6 => k_is)
    (case a7 => k_is)
    (case l7 => k_is)
    (case c7 => k_is)
    (case k7 => k_is)
    (case z_len => k_is)
    (case z_isinstance => k_is)
    (case z_int => k_is)
    (case z_str => k_is)
    (case z_tuple => k_is)
    (case z_list => k_is)
    (case z_bool => k_is)
    (case z_dict => k_is)
    (case z_all => k_is)
    (case z_any => k_is)
    (case z_sum => k_is)
    (case z_sorted => k_is)
    (case z_set => k_is)
    (case z_range => k_is)
    (case z_enumerate => k_is)
    (case z_zip => k_is)
    (case z_reversed => k_is)
    (case z_super => k_is)
    (case z_ValueError => k_is)
    (case g_NoText => k_is)
    (case g_NoStep => k_is)
    (case g_NoTurn => k_is)
    (case g_NoShuffle => k_is)
    (case g_NoRow => k_is)
    (case g_Twice => k_is)
    (case g_NoWord => k_is)
    (case g_NoKind => k_is)
    (case g_NoBook => k_is)
    (case g_TooMany => k_is)
    (case g_NoCode => k_is)
    (case g_TakeError => k_is)
    (case opq => k_is)
    (case topS => first | rfl | kernel_rfl | decide +kernel)
    (case xPNoText => first | k_exc | k_is)
    (case kPNoText => k_is)
    (case bPNoText => k_is)
    (case tPNoText => k_is)
    (case xPNoStep => first | k_exc | k_is)
    (case kPNoStep => k_is)
    (case bPNoStep => k_is)
    (case tPNoStep => k_is)
    (case xPNoTurn => first | k_exc | k_is)
    (case kPNoTurn => k_is)
    (case bPNoTurn => k_is)
    (case tPNoTurn => k_is)
    (case xPNoShuffle => first | k_exc | k_is)
    (case kPNoShuffle => k_is)
    (case bPNoShuffle => k_is)
    (case tPNoShuffle => k_is)
    (case xPNoRow => first | k_exc | k_is)
    (case kPNoRow => k_is)
    (case bPNoRow => k_is)
    (case tPNoRow => k_is)
    (case xPTwice => first | k_exc | k_is)
    (case kPTwice => k_is)
    (case bPTwice => k_is)
    (case tPTwice => k_is)
    (case oc_NoWord => k_is)
    (case ov_NoWord => first | rfl | kernel_rfl)
    (case sa_NoWord => k_is)
    (case bPNoWord => k_is)
    (case tPNoWord => k_is)
    (case kPNoWord => k_is)
    (case iC_NoWord => k_is)
    (case tI_NoWord => k_is)
    (case lk_NoWord => k_is)
    (case cd_NoWord => k_is)
    (case ce_NoWord => k_is)
    (case su_NoWord => first | kernel_rfl | rfl | ks_is)
    (case sb_NoWord => k_is)
    (case sf_NoWord => k_is)
    (case cv_NoWord => k_is)
    (case cf_NoWord => first | rfl | kernel_rfl)
    (case cm_NoWord => first | rfl | kernel_rfl | decide +kernel)
    (case xf_NoWord => first | kernel_rfl | rfl | k_is | decide +kernel)
    (case nf_NoWord_place => k_is)
    (case oc_NoKind => k_is)
    (case ov_NoKind => first | rfl | kernel_rfl)
    (case sa_NoKind => k_is)
    (case bPNoKind => k_is)
    (case tPNoKind => k_is)
    (case kPNoKind => k_is)
    (case iC_NoKind => k_is)
    (case tI_NoKind => k_is)
    (case lk_NoKind => k_is)
    (case cd_NoKind => k_is)
    (case ce_NoKind => k_is)
    (case su_NoKind => first | kernel_rfl | rfl | ks_is)
    (case sb_NoKind => k_is)
    (case sf_NoKind => k_is)
    (case cv_NoKind => k_is)
    (case cf_NoKind => first | rfl | kernel_rfl)
    (case cm_NoKind => first | rfl | kernel_rfl | decide +kernel)
    (case xf_NoKind => first | kernel_rfl | rfl | k_is | decide +kernel)
    (case nf_NoKind_places => k_is)
    (case oc_NoBook => k_is)
    (case ov_NoBook => first | rfl | kernel_rfl)
    (case sa_NoBook => k_is)
    (case bPNoBook => k_is)
    (case tPNoBook => k_is)
    (case kPNoBook => k_is)
    (case iC_NoBook => k_is)
    (case tI_NoBook => k_is)
    (case lk_NoBook => k_is)
    (case cd_NoBook => k_is)
    (case ce_NoBook => k_is)
    (case su_NoBook => first | kernel_rfl | rfl | ks_is)
    (case sb_NoBook => k_is)
    (case sf_NoBook => k_is)
    (case cv_NoBook => k_is)
    (case cf_NoBook => first | rfl | kernel_rfl)
    (case cm_NoBook => first | rfl | kernel_rfl | decide +kernel)
    (case xf_NoBook => first | kernel_rfl | rfl | k_is | decide +kernel)
    (case nf_NoBook_number => k_is)
    (case nf_NoBook_what => k_is)
    (case oc_TooMany => k_is)
    (case ov_TooMany => first | rfl | kernel_rfl)
    (case sa_TooMany => k_is)
    (case bPTooMany => k_is)
    (case tPTooMany => k_is)
    (case kPTooMany => k_is)
    (case iC_TooMany => k_is)
    (case tI_TooMany => k_is)
    (case lk_TooMany => k_is)
    (case cd_TooMany => k_is)
    (case ce_TooMany => k_is)
    (case su_TooMany => first | kernel_rfl | rfl | ks_is)
    (case sb_TooMany => k_is)
    (case sf_TooMany => k_is)
    (case cv_TooMany => k_is)
    (case cf_TooMany => first | rfl | kernel_rfl)
    (case cm_TooMany => first | rfl | kernel_rfl | decide +kernel)
    (case xf_TooMany => first | kernel_rfl | rfl | k_is | decide +kernel)
    (case nf_TooMany_many => k_is)
    (case nf_TooMany_most => k_is)
    (case oc_NoCode => k_is)
    (case ov_NoCode => first | rfl | kernel_rfl)
    (case sa_NoCode => k_is)
    (case bPNoCode => k_is)
    (case tPNoCode => k_is)
    (case kPNoCode => k_is)
    (case iC_NoCode => k_is)
    (case tI_NoCode => k_is)
    (case lk_NoCode => k_is)
    (case cd_NoCode => k_is)
    (case ce_NoCode => k_is)
    (case su_NoCode => first | kernel_rfl | rfl | ks_is)
    (case sb_NoCode => k_is)
    (case sf_NoCode => k_is)
    (case cv_NoCode => k_is)
    (case cf_NoCode => first | rfl | kernel_rfl)
    (case cm_NoCode => first | rfl | kernel_rfl | decide +kernel)
    (case xf_NoCode => first | kernel_rfl | rfl | k_is | decide +kernel)
    (case nf_NoCode_place => k_is)
    (case g6 => k_is)
    (case g7 => k_is)
    (case exA => first | kernel_rfl | rfl | k_is | decide +kernel)
    (case kitA => first | kernel_rfl | rfl | k_is | decide +kernel)
    (case upT => first | kernel_rfl | rfl | k_is | decide +kernel)
    (case upV => first | kernel_rfl | rfl | k_is | decide +kernel)
