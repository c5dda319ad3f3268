import PyProof.Rows.All
import Wide.All
import OpenK.AllK
import Wide.FinOn
import HandS.ForMost
import HandS.Rev
import KE.KDictList
import HandS.Style
import HandS.More
import HandS.IsInst
import HandS.StrMore
import HandS.Wide
import HandS.Codes
import HandS.Walk
import HandS.NoneIn
import HandS.WordsExc
import PyProof.AutoSeq1
import HandS.TupAny
import HandS.Conv
import HandS.SetFor
import HandS.ListEq
import PyProof.EqKinds
import HandS.CallLocal
import HandS.Flow
import PySem.Challenge.RW_takeleave_k15_what_is_a_kind
set_option Elab.async false
set_option linter.all false
set_option maxRecDepth 100000
set_option maxHeartbeats 4000000
namespace Cm
open PySem PySem.Spec PyProof.Rows L2 RT
section
variable {prog : Program} {w : World} {A : Around} {E : Value → Shared → Prop} {s : Shared}
/-- list.extend over a reversed list, into the empty list at T -/
theorem revExt {J l T : Addr} {vs : Array Value} {res : Value} {c : Nat} {R : Result → Shared → Prop} (hh : A.handled = none) (hJ : s.heap.IsRevIter J l ((vs.size : Int) - 1)) (hl : s.heap.IsList l vs) (nJ : l ≠ J) (hn : vs.size ≤ sizeLine)
    (nTJ : T ≠ J) (nTl : T ≠ l) (hT : s.heap.get? T = some { cls := .type "list", data := .seq #[] c })
    (hR : ∀ h' tk acc' c', (∀ b o, b ≠ T → b ≠ J → s.heap.get? b = some o → h'.get? b = some o) → h'.get? T = some { cls := .type "list", dict := none, data := .seq acc' c', slots := #[] } → ItemsOf (fun i v => vs[vs.size - 1 - i]? = some v) acc' vs.size → R (.ok (.ret res)) { s with heap := h', toks := tk }) :
    wpAny (model prog w) A.in1 (Builtin.List.listExtendWith (.ref T) (.ref J) res)
      (fun fin s' => match fin with | .done f => R (.ok f) s' | .again c' => c'.quiet = true ∧ codeAny (model prog w) A c' R s') (fun e s' => R (.error e) s') s := by
  have WS := (Walks.listRev (prog := prog) (w := w) (A := A.in1) hh J l nJ vs).toS
  have tyJ : s.TypeIs (.ref J) "list_reverseiterator" := Heap.IsRevIter.typeIs hJ
  have nf : T ∉ [J, l] := by simp only [List.mem_cons, List.not_mem_nil, or_false, not_or]; exact And.intro nTJ nTl
  have ns : Builtin.List.listSameRef (.ref T) (.ref J) = false := by simp [Builtin.List.listSameRef, nTJ]
  unfold Builtin.List.listExtendWith
  refine wpAny_bind (wpAny_typeOf tyJ ?_)
  rw [if_neg (by rw [ns]; decide)]
  refine wpAny_bind (wpAny_pyIter_revIter hJ (wpAny_bind (wpAny_holding ?_)))
  unfold Builtin.List.listLengthHint
  refine wpAny_bind (wpAny_specialOf tyJ nolen_lri ?_)
  show wpAny _ A.in1 (specialOf (Value.ref J) (Str.ofString "__length_hint__") >>= _) _ _ _
  refine wpAny_bind (wpAny_specialOf tyJ hint_lri ?_)
  generalize eid : ("list_reverseiterator.__length_hint__" : String) = idz
  wp_delta
  rw [show splitId idz = some ("list_reverseiterator", "__length_hint__") from by subst eid; decide +kernel]
  subst eid
  refine wpAny_bind (wpAny_isInstance (b := true) tyJ (by rw [isSubtype_type]; kernel_rfl) (wpAny_pure ?_))
  rw [if_neg (by decide)]
  have z0 : ((vs.size : Nat) : Int) - 1 - ((0 : Nat) : Int) = (vs.size : Int) - 1 := by omega
  refine wpAny_pure ⟨plainId_quiet F.plain_extend_loop _, codeAny_extend_loopS WS hn _ nf _ vs.size 0 _ _ _ rfl (Nat.zero_le _) ⟨Nat.zero_le _, by rw [z0]; exact hJ, hl⟩ hT (ItemsOf.nil _) fun s' acc' c' hm hS' hacc => ?_⟩
  rw [Moved.eq_with hm]
  refine hR s'.heap s'.toks acc' c' (fun b o n1 n2 e => hm.heap b o (fun q => ?_) e) hS' hacc
  rcases List.mem_cons.mp q with z | z
  · exact n1 z
  · exact n2 (List.mem_singleton.mp z)
theorem revInit {J l T : Addr} {vs : Array Value} {R : Result → Shared → Prop} (hh : A.handled = none) (hJ : s.heap.IsRevIter J l ((vs.size : Int) - 1)) (hl : s.heap.IsList l vs) (nJ : l ≠ J) (hn : vs.size ≤ sizeLine)
    (nTJ : T ≠ J) (nTl : T ≠ l) (hT : s.heap.get? T = some { cls := .type "list", data := .seq #[] })
    (hR : ∀ h' tk acc' c', (∀ b o, b ≠ T → b ≠ J → s.heap.get? b = some o → h'.get? b = some o) → h'.get? T = some { cls := .type "list", dict := none, data := .seq acc' c', slots := #[] } → ItemsOf (fun i v => vs[vs.size - 1 - i]? = some v) acc' vs.size → R (.ok (.ret .none)) { s with heap := h', toks := tk }) :
    wpAny (model prog w) A.in1 (Builtin.«list.__init__» ⟨[.ref T, .ref J], []⟩)
      (fun fin s' => match fin with | .done f => R (.ok f) s' | .again c' => c'.quiet = true ∧ codeAny (model prog w) A c' R s') (fun e s' => R (.error e) s') s := by
  show wpAny _ _ (do let old ← Builtin.List.listItems (.ref T); Builtin.List.listUpdate (.ref T) (fun _ => #[]); letGo old.toList.reverse; Builtin.List.listExtendWith (.ref T) (.ref J) .none) _ _ s
  refine wpAny_bind ?_; unfold Builtin.List.listItems
  refine wpAny_bind (wpAny_seqItems hT rfl (wpAny_pure ?_))
  show wpAny _ _ (updateSeq T (fun _ => #[]) >>= fun _ => letGo (#[] : Array Value).toList.reverse >>= fun _ => Builtin.List.listExtendWith (.ref T) (.ref J) .none) _ _ s
  refine wpAny_bind (wpAny_updateSeq hT rfl ?_)
  have hT2 := Heap.get?_update_self (Obj.mapSeq (fun _ => (#[] : Array Value))) hT rfl
  have other : ∀ b o, b ≠ T → s.heap.get? b = some o → (s.heap.update T (Obj.mapSeq (fun _ => (#[] : Array Value)))).get? b = some o :=
    fun b o hb e => (Heap.get?_update_other _ _ (Ne.symm hb)).trans e
  refine wpAny_bind (wpAny_letGo (revExt hh (hJ.at fun o e => other _ o nTJ.symm e) (hl.at fun o e => other _ o nTl.symm e) nJ hn nTJ nTl hT2 fun h' tk acc' c' hk hS' hacc => ?_))
  exact hR h' tk acc' c' (fun b o n1 n2 e => hk b o n1 n2 (other b o n1 e)) hS' hacc
theorem call_list_rev {J l : Addr} {vs : Array Value} {Q : Value → Shared → Prop} (hh : A.handled = none) (hJ : s.heap.IsRevIter J l ((vs.size : Int) - 1)) (hl : s.heap.IsList l vs) (nJ : l ≠ J) (hn : vs.size ≤ sizeLine)
    (hQ : ∀ h' tk acc' c', (∀ b o, b ≠ J → s.heap.get? b = some o → h'.get? b = some o) → h'.get? s.heap.objs.size = some { cls := .type "list", dict := none, data := .seq acc' c', slots := #[] } → ItemsOf (fun i v => vs[vs.size - 1 - i]? = some v) acc' vs.size → Q (.ref s.heap.objs.size) { s with heap := h', toks := tk }) :
    wpAny (model prog w) A (call (.type "list") [.ref J]) Q E s := by
  refine callType_codes (Q₁ := fun obj s₁ => obj = .ref s.heap.objs.size ∧ s₁ = { s with heap := s.heap.push { cls := .type "list", data := .seq #[] } }) PySem.F.called_list (PySem.F.typeCall_list_1 _) PySem.F.entry_list_init
    (code_list_new _ ⟨rfl, rfl⟩) fun obj s₁ z => ?_
  obtain ⟨rfl, rfl⟩ := z
  have hT : (s.heap.push { cls := .type "list", data := .seq #[] }).get? s.heap.objs.size = some { cls := .type "list", data := .seq #[] } := Heap.get?_push_size _ rfl
  obtain ⟨oi, hoi, _⟩ := id hJ
  obtain ⟨ol, hol, _⟩ := id hl
  refine ⟨⟨_, hT, rfl⟩, PySem.F.args_list_init_2 _ _, revInit (A := A.in1) hh (hJ.at fun o e => Heap.get?_push_of_some _ e) (hl.push _) nJ hn (Nat.ne_of_gt (Heap.lt_size hoi)) (Nat.ne_of_gt (Heap.lt_size hol)) hT (fun h' tk acc' c' hk hS' hacc => ?_)⟩
  exact ⟨rfl, hQ h' tk acc' c' (fun b o n e => hk b o (Nat.ne_of_lt (Heap.lt_size e)) n (Heap.get?_push_of_some _ e)) hS' hacc⟩
end
/-- list(reversed(x)), x a list: a new list -/
def tLstRev (K : PySem.W.Frag) (te : TE) : TE := fun σ H Q => te σ H fun v H1 => ∃ (a : Addr) (xs : List V), v = .ref a ∧ SqL K H1 a xs ∧ ∀ q, H1 q = none → Q (.ref q) (upd H1 q (.lst xs.reverse))
section
variable {X : Cx}
theorem pe_lstRev {e : Expr} {te : TE} {p p2 pos pos2 : Pos} (hc : X.calm = true) (hg : Gl X "list") (hm : X.mg "list" = none) (hg2 : Gl X "reversed") (hm2 : X.mg "reversed" = none) (he : PE X e te)
    (hs : starEach [e] X.env = (false, eval e X.env) :: starEach [] X.env := by rfl)
    (hs2 : starEach [.Call (.Name "reversed" p2) [e] [] pos2] X.env = (false, eval (.Call (.Name "reversed" p2) [e] [] pos2) X.env) :: starEach [] X.env := by rfl) :
    PE X (.Call (.Name "list" p) [.Call (.Name "reversed" p2) [e] [] pos2] [] pos) (tLstRev X.K te) := by
  refine ⟨fun pins s σ H Q I h => ?_⟩
  refine Call_ (ld_blt I hg hm (show bootBuiltins "list" = some (.type "list") by decide +kernel) (PyProof.Rows.callWith_type1 (args_cons (Call_ (ld_blt I hg2 hm2 PyProof.Rows.boot_reversed (PyProof.Rows.callWith_type1 (args_cons (thn (he.run pins s σ H _ I h) fun u s1 ⟨v, H1, I1, r1, q1⟩ => args_nil ?_) hs) hs rfl))) hs2) hs2 rfl))
  obtain ⟨a, xs, ev, hq, q⟩ := q1
  subst ev; obtain rfl : u = Value.ref a := r1
  obtain ⟨its, rv, p', hz⟩ := I1.list hq
  refine call_reversed_list p'.isList (args_nil ?_)
  have k0 : ∀ b o, s1.heap.get? b = some o → (s1.heap.push (revObj a ((its.toArray.size : Int) - 1))).get? b = some o := fun b o e' => Heap.get?_push_of_some _ e'
  have I2 : Inv X pins σ H1 { s1 with heap := s1.heap.push (revObj a ((its.toArray.size : Int) - 1)) } := I1.kept (t' := s1.toks) k0
  obtain ⟨f0, f1, f2, f3, f4, f5⟩ := I1.fpOk (H' := H1) (b := s1.heap.objs.size) (Nat.le_refl _) (I1.hok.fresh (Nat.le_refl _))
  have isl := p'.isList
  obtain ⟨ol, hol, _⟩ := id isl
  have hne : a ≠ s1.heap.objs.size := Nat.ne_of_lt (Heap.lt_size hol)
  have hn : its.toArray.size ≤ sizeLine := by rw [List.size_toArray, ← rv.length]; exact hz
  refine call_list_rev (s := { s1 with heap := s1.heap.push (revObj a ((its.toArray.size : Int) - 1)) }) (I1.ok.hd hc) ⟨_, Heap.get?_push_size _ rfl, rfl, rfl⟩ (isl.push _) hne hn fun h' tk acc c' hk hT hi => ?_
  have hk' : ∀ b o, s1.heap.get? b = some o → h'.get? b = some o := fun b o e' => hk b o (Nat.ne_of_lt (Heap.lt_size e')) (k0 b o e')
  have sz : s1.heap.objs.size ≤ (s1.heap.push (revObj a ((its.toArray.size : Int) - 1))).objs.size := by
    rw [Heap.size_push]; exact Nat.le_succ _
  refine ⟨.ref _, upd H1 _ (.lst xs.reverse), I1.laid (t' := tk) hk' sz (show ObjOk X.prog X.w _ _ _ (.lst xs.reverse) from ⟨by rw [List.length_reverse]; exact hz, acc.toList, c', vals_rev rv hi, ?_⟩), rfl, q _ (I1.hok.fresh sz)⟩
  rw [Array.toArray_toList]
  exact hT
end
end Cm
namespace Cm
open PySem PySem.W L2 SX
theorem same_new {H : Hp} {p : Addr} (h : H p = none) (o : HO) : Same H (upd H p o) := fun b u q => by rw [upd_ne (ne_of_none q h)]; exact q
theorem own_new {H H' : Hp} {p : Addr} {o : HO} (s : Same H H') (h : H p = none) : Same H (upd H' p o) := fun b u q => by rw [upd_ne (ne_of_none q h)]; exact s _ _ q
theorem cut_map {α : Type} (f : α → V) (xs : List α) (lo hi : Option Int) : ∃ ys : List α, cutV (xs.map f) lo hi = ys.map f ∧ ys.length ≤ xs.length := by
  unfold cutV
  refine ⟨(xs.drop (HT.sIx (xs.map f).length 0 lo)).take (HT.sIx (xs.map f).length (xs.map f).length hi - HT.sIx (xs.map f).length 0 lo), ?_, ?_⟩
  · rw [List.map_take, List.map_drop]
  · rw [List.length_take, List.length_drop]; omega
theorem dp_ints {K : PySem.W.Frag} {H : Hp} : ∀ ns : List Int, DpAll K H (ns.map V.int) (ns.map PyData.int)
  | [] => .nil
  | n :: r => .cons (.int n) (dp_ints r)
theorem lay_ints : ∀ ns : List Int, PyData.canLayAll0 (ns.map PyData.int) = true
  | [] => rfl
  | n :: r => by
    show (PyData.canLay0 (PyData.int n) && PyData.canLayAll0 (r.map PyData.int)) = true
    rw [lay_ints r]; rfl
theorem deep_ints : ∀ ns : List Int, PyData.depthAll (ns.map PyData.int) = 0
  | [] => rfl
  | n :: r => by
    show max (PyData.depth (PyData.int n)) (PyData.depthAll (r.map PyData.int)) = 0
    rw [deep_ints r]; rfl
theorem shaped_ints (ns : List Int) : SeqAt.shaped (.list (ns.map PyData.int)) = true := by
  show (PyData.canLayAll0 (ns.map PyData.int) && decide (PyData.depthAll (ns.map PyData.int) + 1 ≤ 64)) = true
  rw [lay_ints, deep_ints]; rfl
theorem kn {H : Hp} {a t : Addr} {o o' : HO} (h : H a = some o) (n : H t = none) : upd H t o' a = some o := by rw [upd_ne (ne_of_none h n)]; exact h
/-- all but what stands at the places L is kept -/
def Kp (L : List Addr) (H H' : Hp) : Prop := ∀ b o, b ∉ L → H b = some o → H' b = some o
theorem Kp.refl (L : List Addr) (H : Hp) : Kp L H H := fun _ _ _ h => h
theorem Kp.trans {L : List Addr} {H H1 H2 : Hp} (a : Kp L H H1) (b : Kp L H1 H2) : Kp L H H2 := fun c o n h => b c o n (a c o n h)
theorem Kp.of {L : List Addr} {H H' : Hp} (s : Same H H') : Kp L H H' := fun b o _ h => s b o h
theorem Kp.new {L : List Addr} {p : Addr} {H H' : Hp} {o : HO} (a : Kp L H H') (h : H' p = none) : Kp L H (upd H' p o) := a.trans (.of (same_new h o))
theorem Kp.own {L : List Addr} {d : Addr} {H H' : Hp} {o : HO} (a : Kp L H H') (m : d ∈ L) : Kp L H (upd H' d o) := fun b u n h => by rw [upd_ne (show b ≠ d from fun z => n (by rw [z]; exact m))]; exact a b u n h
theorem Kp.mono {L M : List Addr} {H H' : Hp} (a : Kp L H H') (h : ∀ b ∈ L, b ∈ M) : Kp M H H' := fun b o n e => a b o (fun z => n (h b z)) e
theorem Kp.free {L : List Addr} {p : Addr} {H H' : Hp} (k : Kp L H H') (n : H' p = none) (m : p ∉ L) : H p = none := by
  cases e : H p with
  | none => rfl
  | some o => rw [k p o m e] at n; cases n
theorem Kp.put {L : List Addr} {p : Addr} {H H' : Hp} {o : HO} (k : Kp L H H') (n : H p = none) : Kp L H (upd H' p o) := fun b u m e => by rw [upd_ne (ne_of_none e n)]; exact k b u m e
theorem Kp.same {L : List Addr} {H0 H H' : Hp} (a : Kp L H H') (s : Same H0 H) (h : ∀ b ∈ L, H0 b = none) : Same H0 H' := fun b o e => a b o (fun z => by rw [h b z] at e; cases e) (s b o e)
theorem cutS_to {a : List Nat} {i : Int} (h : 0 ≤ i) : cutS (S a) none (some i) = S (a.take i.toNat) := by
  obtain ⟨n, rfl⟩ := Int.eq_ofNat_of_zero_le h
  unfold cutS
  rw [HT.sIx_none, HT.sIx_nat, S_len]
  show S (List.take (min n a.length - 0) (List.drop 0 a)) = S (a.take n)
  rw [List.drop_zero, Nat.sub_zero]
  by_cases h : n ≤ a.length
  · rw [Nat.min_eq_left h]
  · rw [Nat.min_eq_right (by omega), List.take_of_length_le (Nat.le_refl a.length), List.take_of_length_le (show a.length ≤ n by omega)]
/-- a comprehension over a text's signs, whose element is a plain value -/
theorem lc_txt {z : List Nat} (f : Nat → V) {g : TG} {te : TE} {vs : List Nat} {σ : St} {H1 : Hp} {D : Addr} {Qd : Hp → Prop} (hl : z.length ≤ 1000)
    (hs : ∀ c H (R : V → Hp → Prop), c ∈ z → R (f c) H → g (.str ⟨#[c]⟩) (wipe σ vs) H fun σ2 H2 => wipe σ2 vs = wipe σ vs ∧ te σ2 H2 R) (hd : Qd (upd H1 D (.lst (z.map f)))) :
    ∃ W : Nat → Nat → Hp → Prop, (∃ m, W 0 m (upd H1 D (.lst []))) ∧ ∀ i m H, W i m H →
      ((Its (S z)).stop i H ∧ Qd H) ∨ ((Its (S z)).go i H ∧ ∃ Nx : Hp → Prop, (∀ H', Nx H' → ∃ m', m' < m ∧ W (i + 1) m' H') ∧ ∀ x H', (Its (S z)).yld i H x H' → g x (wipe σ vs) H' fun σ2 H2 => wipe σ2 vs = wipe σ vs ∧ tYes σ2 H2 fun b H3 =>
        if b = true then te σ2 H3 fun y H4 => ∃ acc, H4 D = some (.lst acc) ∧ acc.length < sizeLine ∧ Nx (upd H4 D (.lst (acc ++ [y]))) else Nx H3) := by
  refine lc_it (walk_str (z := S z)) (fun i H => H = upd H1 D (.lst ((z.take i).map f))) rfl (fun _ _ _ _ => trivial) ?_ ?_
  · rintro i x H H' hi rfl ⟨rfl, c, hc, rfl⟩
    have hc' : z[i]? = some c := by
      rw [← hc]; show z[i]? = (z.toArray)[i]?; rw [List.getElem?_toArray]
    refine hs c _ (fun y H4 => ∃ acc, H4 D = some (.lst acc) ∧ acc.length < sizeLine ∧ upd H4 D (.lst (acc ++ [y])) = upd H1 D (.lst ((z.take (i + 1)).map f))) (List.mem_of_getElem? hc') ⟨_, upd_same, ?_, ?_⟩
    · rw [List.length_map, List.length_take]; exact small1000 (by omega)
    · rw [upd_upd, List.take_add_one, hc', List.map_append]; rfl
  · rintro H rfl
    have e : (S z).cps.size = z.length := by show z.toArray.size = _; rw [List.size_toArray]
    rw [e, List.take_length]
    exact hd
theorem starts_S (x y : List Nat) : Txt.startswith (S x) (S y) = decide (x.take y.length = y) := by
  unfold Txt.startswith PySem.Builtin.Str.subAt
  rw [S_len, S_len]
  show (decide (0 + y.length ≤ x.length) && ((x.toArray.extract 0 (0 + (S y).length)) == y.toArray)) = _
  rw [S_len, Nat.zero_add, List.extract_toArray]
  have e : (List.extract x 0 y.length) = x.take y.length := by unfold List.extract; rw [List.drop_zero, Nat.sub_zero]
  rw [e]
  by_cases h : x.take y.length = y
  · have hl : y.length ≤ x.length := by
      have := congrArg List.length h
      rw [List.length_take] at this; omega
    rw [decide_eq_true h, decide_eq_true hl, h, beq_self_eq_true]; rfl
  · rw [decide_eq_false h]
    have : ((x.take y.length).toArray == y.toArray) = false := by
      rw [beq_eq_false_iff_ne]; intro z; exact h (by have := congrArg Array.toList z; exact this)
    rw [this, Bool.and_false]
theorem par_len : ∀ (x acc t l : List Nat), TL.par [45] acc x = some (t, l) → l.length ≤ x.length
  | [], _, _, _, h => by cases h
  | c :: r, acc, t, l, h => by
    have h' : (if TL.pre [45] (c :: r) = true then some (acc, (c :: r).drop 1) else TL.par [45] (acc ++ [c]) r) = some (t, l) := h
    by_cases hp : TL.pre [45] (c :: r) = true
    · rw [if_pos hp] at h'
      cases h'
      show r.length ≤ r.length + 1
      omega
    · rw [if_neg hp] at h'
      have := par_len r _ _ _ h'
      show l.length ≤ r.length + 1
      omega
/-- the letters a to h -/
def abc8 : List Nat := [97, 98, 99, 100, 101, 102, 103, 104]
/-- whether signs are a shuffle's -/
def shufB (x : List Nat) : Bool := match TL.par [45] [] x with
  | none => false
  | some (t, l) => decide (abc8.take t.length = t) && (decide (l.length ≤ 12) && (l.map fun c => decide (c ∈ t)).all id)
def kStr : Value → Option Str
  | .str x _ => some x
  | _ => none
def absAll : List Value → Option (List V)
  | [] => some []
  | u :: r => match absV u, absAll r with
    | some x, some t => some (x :: t)
    | _, _ => none
def kTup (K : Frag) (t : Addr) : Option (List V) := match K.lookup t with
  | some ⟨.type c, _, .seq its _, _⟩ => if c = "tuple" ∧ its.size ≤ 1000 then absAll its.toList else none
  | _ => none
def kEnt (K : Frag) (e : DictEntry) : Option (Str × List V) := match e.val, kStr e.key with
  | .ref t, some k => (kTup K t).map fun xs => (k, xs)
  | _, _ => none
/-- the entries es: keys, each with what its tuple holds -/
def kTab (K : Frag) : List DictEntry → Option (List (Str × List V))
  | [] => some []
  | e :: r => match kEnt K e, kTab K r with
    | some x, some t => some (x :: t)
    | _, _ => none
theorem abs_rel {u : Value} {x : V} (h : absV u = some x) : RelV x u := by
  cases u <;> simp only [absV] at h <;> first | (cases h; done) | (cases h; first | exact rfl | exact ⟨_, rfl⟩) | cases h
theorem abs_all : ∀ {us : List Value} {xs : List V}, absAll us = some xs → Vals xs us
  | [], xs, h => by cases h; exact .nil
  | u :: r, xs, h => by
    unfold absAll at h
    cases e1 : absV u with
    | none => rw [e1] at h; cases h
    | some x =>
      cases e2 : absAll r with
      | none => rw [e1, e2] at h; cases h
      | some t =>
        rw [e1, e2] at h
        cases h
        exact .cons (abs_rel e1) (abs_all e2)
theorem kTup_ok {K : Frag} {t : Addr} {xs : List V} (h : kTup K t = some xs) (H : Hp) : SqT K H t xs := by
  unfold kTup at h
  cases e : K.lookup t with
  | none => rw [e] at h; cases h
  | some o =>
    rw [e] at h
    obtain ⟨oc, od, dt, sl⟩ := o
    cases oc with
    | type c =>
      cases dt with
      | seq its n =>
        have h' : (if c = "tuple" ∧ its.size ≤ 1000 then absAll its.toList else none) = some xs := h
        by_cases hc : c = "tuple" ∧ its.size ≤ 1000
        · rw [if_pos hc] at h'
          obtain ⟨rfl, hz⟩ := hc
          exact .inr ⟨_, its, n, e, rfl, rfl, Nat.le_of_lt (small1000 hz), abs_all h'⟩
        · rw [if_neg hc] at h'; cases h'
      | _ => cases h
    | _ => cases h
/-- what the table tells of a text -/
theorem tab_look {K : Frag} (z : Str) : ∀ {es : List DictEntry} {T : List (Str × List V)}, kTab K es = some T →
    (∀ xs, T.lookup z = some xs → ∃ e t, es.find? (·.key.isStr z) = some e ∧ e.val = .ref t ∧ kTup K t = some xs) ∧ (T.lookup z = none → es.find? (·.key.isStr z) = none) ∧ es.any (·.refKey) = false
  | [], T, h => by cases h; exact ⟨(fun xs q => by cases q), (fun _ => rfl), rfl⟩
  | e :: r, T, h => by
    unfold kTab at h
    cases e1 : kEnt K e with
    | none => rw [e1] at h; cases h
    | some x =>
      cases e2 : kTab K r with
      | none => rw [e1, e2] at h; cases h
      | some t =>
        rw [e1, e2] at h
        cases h
        obtain ⟨ih1, ih2, ih3⟩ := tab_look z e2
        obtain ⟨k, ys⟩ := x
        obtain ⟨a, hv, hk, ht⟩ : ∃ a, e.val = .ref a ∧ kStr e.key = some k ∧ kTup K a = some ys := by
          unfold kEnt at e1
          cases hv : e.val with
          | ref a =>
            cases hk : kStr e.key with
            | none => rw [hv, hk] at e1; cases e1
            | some k' =>
              rw [hv, hk] at e1
              have e1' : (kTup K a).map (fun xs => (k', xs)) = some (k, ys) := e1
              cases ht : kTup K a with
              | none => rw [ht] at e1'; cases e1'
              | some zs => rw [ht] at e1'; cases e1'; exact ⟨a, rfl, rfl, ht⟩
          | _ => rw [hv] at e1; cases e1
        obtain ⟨tk, hkey⟩ : ∃ tk, e.key = .str k tk := by
          unfold kStr at hk
          cases q : e.key with
          | str x' t' => rw [q] at hk; cases hk; exact ⟨_, rfl⟩
          | _ => rw [q] at hk; cases hk
        have hst : e.key.isStr z = (k == z) := by rw [hkey]; rfl
        have hrf : e.refKey = false := by unfold DictEntry.refKey; rw [hkey]
        refine ⟨fun xs q => ?_, fun q => ?_, ?_⟩
        · rw [List.lookup_cons] at q
          by_cases hz : z = k
          · subst hz
            rw [beq_self_eq_true] at q
            cases q
            exact ⟨e, a, by rw [List.find?_cons_of_pos (by rw [hst]; exact beq_self_eq_true z)], hv, ht⟩
          · rw [show (z == k) = false from beq_eq_false_iff_ne.mpr hz] at q
            obtain ⟨e', t', h1, h2, h3⟩ := ih1 xs q
            exact ⟨e', t', by rw [List.find?_cons_of_neg (by rw [hst]; intro y; exact hz (beq_iff_eq.mp y).symm)]; exact h1, h2, h3⟩
        · rw [List.lookup_cons] at q
          by_cases hz : z = k
          · subst hz
            rw [beq_self_eq_true] at q
            cases q
          · rw [show (z == k) = false from beq_eq_false_iff_ne.mpr hz] at q
            rw [List.find?_cons_of_neg (by rw [hst]; intro y; exact hz (beq_iff_eq.mp y).symm)]
            exact ih2 q
        · rw [List.any_cons, hrf, ih3]; rfl
def nn : List V := [V.str "number", V.str "number"]
def table : List (Str × List V) := [((("plus" : Str)), nn), ("minus", nn), ("times", nn), ("less", nn), ("same", nn), ("do", [V.str "row"]), ("dip", [V.str "any", V.str "row"]), ("if", [V.str "number", V.str "row", V.str "row"]), ("while", [V.str "row", V.str "row"]), ("repeat", [V.str "number", V.str "row"]), ("join", [V.str "row", V.str "row"]), ("wrap", [V.str "any"]), ("put", [V.str "list", V.str "any"]), ("part", [V.str "list", V.str "row", V.str "row"]), ("each", [V.str "list", V.str "row"])]
/-- the basic words' table stands at d -/
structure Tab (K : Frag) (w : World) (mg : Str → Option Value) (d : Addr) (es : Array DictEntry) (n : Nat) : Prop where
  kd : KDict K w d es n
  tab : kTab K es.toList = some table
  mg_ : mg "SORTS_TAKEN" = some (.ref d)
theorem Tab.ns {w : World} {K : PySem.W.Frag} {mg : Str → Option Value} {d : Addr} {es : Array DictEntry} {n : Nat} (T : Tab K w mg d es n) (z : Str) : (table.lookup z = none → nsIn K d z = some none) ∧ ∀ xs, table.lookup z = some xs → ∃ t, nsIn K d z = some (some (.ref t)) ∧ kTup K t = some xs := by
  obtain ⟨h1, h2, h3⟩ := tab_look z T.tab
  constructor
  · intro q
    unfold nsIn
    rw [T.kd.at_]
    show (match es.toList.find? (·.key.isStr z) with | some e => some (some e.val) | none => if es.toList.any (·.refKey) then none else some none) = some none
    rw [h2 q]
    show (if es.toList.any (·.refKey) = true then none else some none) = some none
    rw [h3]; rfl
  · intro xs q
    obtain ⟨e, t, e1, e2, e3⟩ := h1 xs q
    refine ⟨t, ?_, e3⟩
    unfold nsIn
    rw [T.kd.at_]
    show (match es.toList.find? (·.key.isStr z) with | some e => some (some e.val) | none => if es.toList.any (·.refKey) then none else some none) = some (some (.ref t))
    rw [e1]
    show some (some e.val) = _
    rw [e2]
theorem lookup_mem {z : Str} {xs : List V} : ∀ {T : List (Str × List V)}, T.lookup z = some xs → (z, xs) ∈ T
  | (k, ys) :: r, h => by
    rw [List.lookup_cons] at h
    by_cases hz : z = k
    · subst hz; rw [beq_self_eq_true] at h; cases h; exact List.mem_cons_self ..
    · rw [show (z == k) = false from beq_eq_false_iff_ne.mpr hz] at h
      exact List.mem_cons_of_mem _ (lookup_mem h)
end Cm
namespace Cm
open PySem PySem.W L2 SX
/-- a comprehension over a text's signs with a test -/
theorem lc_txtIf {z : List Nat} (p : Nat → Bool) (f : Nat → V) {g : TG} {tt : TT} {te : TE} {vs : List Nat} {σ : St} {H1 : Hp} {D : Addr} {Qd : Hp → Prop} (hl : z.length ≤ 1000)
    (hs : ∀ c H (R : V → Hp → Prop) (R0 : Hp → Prop), c ∈ z → (p c = true → R (f c) H) → (p c = false → R0 H) → g (.str ⟨#[c]⟩) (wipe σ vs) H fun σ2 H2 => wipe σ2 vs = wipe σ vs ∧ tt σ2 H2 fun b H3 => if b = true then te σ2 H3 R else R0 H3) (hd : Qd (upd H1 D (.lst ((z.filter p).map f)))) :
    ∃ W : Nat → Nat → Hp → Prop, (∃ m, W 0 m (upd H1 D (.lst []))) ∧ ∀ i m H, W i m H →
      ((Its (S z)).stop i H ∧ Qd H) ∨ ((Its (S z)).go i H ∧ ∃ Nx : Hp → Prop, (∀ H', Nx H' → ∃ m', m' < m ∧ W (i + 1) m' H') ∧ ∀ x H', (Its (S z)).yld i H x H' → g x (wipe σ vs) H' fun σ2 H2 => wipe σ2 vs = wipe σ vs ∧ tt σ2 H2 fun b H3 =>
        if b = true then te σ2 H3 fun y H4 => ∃ acc, H4 D = some (.lst acc) ∧ acc.length < sizeLine ∧ Nx (upd H4 D (.lst (acc ++ [y]))) else Nx H3) := by
  refine lc_it (walk_str (z := S z)) (fun i H => H = upd H1 D (.lst (((z.take i).filter p).map f))) rfl (fun _ _ _ _ => trivial) ?_ ?_
  · rintro i x H H' hi rfl ⟨rfl, c, hc, rfl⟩
    have hc' : z[i]? = some c := by
      rw [← hc]; show z[i]? = (z.toArray)[i]?; rw [List.getElem?_toArray]
    refine hs c _ (fun y H4 => ∃ acc, H4 D = some (.lst acc) ∧ acc.length < sizeLine ∧ upd H4 D (.lst (acc ++ [y])) = upd H1 D (.lst (((z.take (i + 1)).filter p).map f))) (fun H4 => H4 = upd H1 D (.lst (((z.take (i + 1)).filter p).map f))) (List.mem_of_getElem? hc') (fun hp => ⟨_, upd_same, ?_, ?_⟩) (fun hp => ?_)
    · have h1 := List.length_filter_le p (z.take i)
      rw [List.length_take] at h1
      rw [List.length_map]; exact small1000 (by omega)
    · rw [upd_upd, List.take_add_one, hc', List.filter_append, List.map_append]
      show _ = upd H1 D (HO.lst (List.map f (List.filter p (List.take i z)) ++ List.map f (List.filter p [c])))
      rw [List.filter_cons_of_pos hp]; rfl
    · show _ = _
      rw [List.take_add_one, hc', List.filter_append]
      show _ = upd H1 D (HO.lst (List.map f (List.filter p (List.take i z) ++ List.filter p [c])))
      rw [List.filter_cons_of_neg (by rw [hp]; decide), List.filter_nil, List.append_nil]
  · rintro H rfl
    have e : (S z).cps.size = z.length := by show z.toArray.size = _; rw [List.size_toArray]
    rw [e, List.take_length]
    exact hd
/-- a text, or something else that the law hands in -/
def Vl (H : Hp) (v : V) : Option (List Nat) → Prop
  | some x => v = .str (S x) ∧ x.length ≤ 1000
  | none => (v = .non ∨ (∃ b, v = .bl b) ∨ (∃ i, v = .int i) ∨ (∃ a xs, v = .ref a ∧ H a = some (.lst xs)) ∨ (∃ a kvs, v = .ref a ∧ H a = some (.dK kvs))) ∨ (∃ a xs, v = .ref a ∧ H a = some (.tup xs) ∧ (xs = [] ∨ ∃ z, xs = [.str z]))
theorem Vl.same {H H' : Hp} {v : V} {o : Option (List Nat)} (h : Vl H v o) (s : Same H H') : Vl H' v o := by
  cases o with
  | some x => exact h
  | none =>
    rcases h with (h | h | h | ⟨a, xs, e, h⟩ | ⟨a, xs, e, h⟩) | ⟨a, xs, e, h, g⟩
    · exact .inl (.inl h)
    · exact .inl (.inr (.inl h))
    · exact .inl (.inr (.inr (.inl h)))
    · exact .inl (.inr (.inr (.inr (.inl ⟨a, xs, e, s _ _ h⟩))))
    · exact .inl (.inr (.inr (.inr (.inr ⟨a, xs, e, s _ _ h⟩))))
    · exact .inr ⟨a, xs, e, s _ _ h, g⟩
theorem Vl.isStr {K : Frag} {H : Hp} {v : V} {o : Option (List Nat)} (h : Vl H v o) : ∃ t, TyX K H v t ∧ kitOne K t (.type "str") = some o.isSome := by
  cases o with
  | some x => exact ⟨_, by rw [h.1]; exact .base (.str _), kit_ty (r := true) (by decide +kernel)⟩
  | none =>
    rcases h with (h | ⟨b, h⟩ | ⟨i, h⟩ | ⟨a, xs, e, h⟩ | ⟨a, xs, e, h⟩) | ⟨a, xs, e, h, g⟩
    · exact ⟨_, by rw [h]; exact .base .non, kit_ty (r := false) (by decide +kernel)⟩
    · exact ⟨_, by rw [h]; exact .base (.bl _), kit_ty (r := false) (by decide +kernel)⟩
    · exact ⟨_, by rw [h]; exact .base (.int _), kit_ty (r := false) (by decide +kernel)⟩
    · exact ⟨_, by rw [e]; exact .base (.lst h), kit_ty (r := false) (by decide +kernel)⟩
    · exact ⟨_, by rw [e]; exact .base (.dK h), kit_ty (r := false) (by decide +kernel)⟩
    · exact ⟨_, by rw [e]; exact .base (.tup h), kit_ty (r := false) (by decide +kernel)⟩
/-- no tuple, or one without, or with one part -/
theorem Vl.isTup {K : Frag} {H : Hp} {v : V} (h : Vl H v none) : (∃ t, TyX K H v t ∧ kitOne K t (.type "tuple") = some false) ∨ (∃ a xs t, v = .ref a ∧ H a = some (.tup xs) ∧ (xs = [] ∨ ∃ z, xs = [.str z]) ∧ TyX K H v t ∧ kitOne K t (.type "tuple") = some true) := by
  rcases h with (h | ⟨b, h⟩ | ⟨i, h⟩ | ⟨a, xs, e, h⟩ | ⟨a, xs, e, h⟩) | ⟨a, xs, e, h, g⟩
  · exact .inl ⟨_, by rw [h]; exact .base .non, kit_ty (r := false) (by decide +kernel)⟩
  · exact .inl ⟨_, by rw [h]; exact .base (.bl _), kit_ty (r := false) (by decide +kernel)⟩
  · exact .inl ⟨_, by rw [h]; exact .base (.int _), kit_ty (r := false) (by decide +kernel)⟩
  · exact .inl ⟨_, by rw [e]; exact .base (.lst h), kit_ty (r := false) (by decide +kernel)⟩
  · exact .inl ⟨_, by rw [e]; exact .base (.dK h), kit_ty (r := false) (by decide +kernel)⟩
  · exact .inr ⟨a, xs, _, e, h, g, by rw [e]; exact .base (.tup h), kit_ty (r := true) (by decide +kernel)⟩
/-- the small letters -/
def az : List Nat := [97, 98, 99, 100, 101, 102, 103, 104, 105, 106, 107, 108, 109, 110, 111, 112, 113, 114, 115, 116, 117, 118, 119, 120, 121, 122]
/-- whether signs are a told word's name -/
def nameB (x : List Nat) : Bool := (decide (1 ≤ x.length) && decide (x.length ≤ 8)) && ((x.map fun c => decide (c ∈ az)).all id && !(table.lookup (S x)).isSome)
/-- whether signs are a word -/
def wordB (x : List Nat) : Bool := (table.lookup (S x)).isSome || (shufB x || nameB x)
def onT (f : List Nat → Bool) : Option (List Nat) → Bool
  | some x => f x
  | none => false
theorem par_spec : ∀ (x acc t l : List Nat), TL.par [45] acc x = some (t, l) → ∃ p, t = acc ++ p ∧ x = p ++ 45 :: l ∧ 45 ∉ p
  | [], _, _, _, h => by cases h
  | c :: r, acc, t, l, h => by
    have h' : (if TL.pre [45] (c :: r) = true then some (acc, (c :: r).drop 1) else TL.par [45] (acc ++ [c]) r) = some (t, l) := h
    by_cases hp : TL.pre [45] (c :: r) = true
    · rw [if_pos hp] at h'
      cases h'
      have hc : c = 45 := by
        have := eq_of_beq hp
        exact List.head_eq_of_cons_eq this
      exact ⟨[], by simp, by rw [hc]; rfl, by simp⟩
    · rw [if_neg hp] at h'
      obtain ⟨p, e1, e2, e3⟩ := par_spec r _ _ _ h'
      refine ⟨c :: p, by rw [e1]; simp, by rw [e2]; rfl, ?_⟩
      intro z
      rcases List.mem_cons.mp z with z | z
      · exact hp (by rw [← z]; rfl)
      · exact e3 z
theorem par_no : ∀ (x acc : List Nat), TL.par [45] acc x = none → 45 ∉ x
  | [], _, _ => by simp
  | c :: r, acc, h => by
    have h' : (if TL.pre [45] (c :: r) = true then some (acc, (c :: r).drop 1) else TL.par [45] (acc ++ [c]) r) = none := h
    by_cases hp : TL.pre [45] (c :: r) = true
    · rw [if_pos hp] at h'; cases h'
    · rw [if_neg hp] at h'
      intro z
      rcases List.mem_cons.mp z with z | z
      · exact hp (by rw [← z]; rfl)
      · exact par_no r _ h' z
theorem cnt_len (x : List Nat) : PyProof.Rows.cnt 45 x = (x.count 45 : Nat) := by
  induction x with
  | nil => rfl
  | cons n r ih =>
    rw [PyProof.Rows.cnt_cons, ih, List.count_cons]
    by_cases h : n = 45
    · rw [if_pos h, h]; simp; omega
    · rw [if_neg h]; simp [h]
/-- the first stroke -/
theorem index_dash {x p q : List Nat} (hx : x = p ++ 45 :: q) (hp : 45 ∉ p) (hq : 45 ∉ q) : Txt.index0 (S x) (S [45]) = some p.length := by
  obtain ⟨f, hc⟩ := PySem.StrLaws.occ_chain (S x) (S [45]) 1
  have hm : (!(Builtin.Str.occurrences (S x) (S [45]) 0 (S x).length 1).isEmpty) = decide (45 ∈ x) := in_one x 45
  have hx' : (45 : Nat) ∈ x := by rw [hx]; exact List.mem_append.mpr (.inr (List.mem_cons_self ..))
  rw [decide_eq_true hx'] at hm
  unfold Txt.index0
  cases ho : Builtin.Str.occurrences (S x) (S [45]) 0 (S x).length 1 with
  | nil => rw [ho] at hm; cases hm
  | cons i r =>
    rw [ho] at hc
    have h2 := (TL.at_iff (x := S x) (y := S [45]) (List.cons_ne_nil _ _) i).mp hc.2.1
    have h3 : (x.drop i).take 1 = [45] := eq_of_beq h2
    show some i = some p.length
    congr 1
    have h4 : x[i]? = some 45 := by
      have := congrArg (fun l => l[0]?) h3
      simp only [List.getElem?_take, List.getElem?_drop] at this
      simpa using this
    rw [hx] at h4
    by_cases h5 : i < p.length
    · rw [List.getElem?_append_left h5] at h4
      exact absurd (List.mem_of_getElem? h4) hp
    · rw [List.getElem?_append_right (by omega)] at h4
      by_cases h6 : i - p.length = 0
      · omega
      · obtain ⟨j, hj⟩ : ∃ j, i - p.length = j + 1 := ⟨i - p.length - 1, by omega⟩
        rw [hj, List.getElem?_cons_succ] at h4
        exact absurd (List.mem_of_getElem? h4) hq
end Cm
namespace Cm
open PySem PySem.W L2 SX
/-- a text of at most n signs that a text may have -/
structure Tx (z : Str) (n : Nat) : Prop where
  len : z.length ≤ n
  ch : ∀ c ∈ z.cps.toList, c < 1114112
theorem Tx.add {a b : Str} {m n : Nat} (h : Tx a m) (g : Tx b n) : Tx (a ++ b) (m + n) := by
  refine ⟨?_, fun c hc => ?_⟩
  · have e : (a ++ b).length = a.length + b.length := by
      rw [TL.len_tl, TL.tl_append, List.length_append, ← TL.len_tl, ← TL.len_tl]
    have := h.len; have := g.len; omega
  · have e : c ∈ TL.tl a ++ TL.tl b := by rw [← TL.tl_append]; exact hc
    rcases List.mem_append.mp e with e | e
    · exact h.ch c e
    · exact g.ch c e
theorem Tx.mono {a : Str} {m n : Nat} (h : Tx a m) (l : m ≤ n) : Tx a n := ⟨Nat.le_trans h.len l, h.ch⟩
theorem Tx.cut {z : Str} {n : Nat} (h : Tx z n) (lo hi : Option Int) : Tx (cutS z lo hi) n := by
  refine ⟨Nat.le_trans (cutS_length z lo hi) h.len, fun c hc => h.ch c ?_⟩
  have e : c ∈ (z.cps.toList.drop (HT.sIx z.length 0 lo)).take (HT.sIx z.length z.length hi - HT.sIx z.length 0 lo) := hc
  exact List.mem_of_mem_drop (List.mem_of_mem_take e)
theorem Tx.at_ {z : Str} {n : Nat} (h : Tx z n) {i : Int} {c : Nat} (e : atI z.cps.toList i = some c) : Tx ⟨#[c]⟩ 1 := by
  refine ⟨Nat.le_refl 1, fun d hd => ?_⟩
  have hd' : d ∈ [c] := hd
  rw [List.mem_singleton.mp hd']
  refine h.ch c ?_
  unfold atI at e
  cases q : ixN z.cps.toList.length i with
  | none => rw [q] at e; cases e
  | some j => rw [q] at e; exact List.mem_of_getElem? e
theorem Tx.sz {z : Str} {n : Nat} (h : Tx z n) (l : n ≤ 1000 := by decide) : z.length ≤ sizeLine := Nat.le_of_lt (small1000 (Nat.le_trans h.len l))
theorem Tx.sz2 {y z : Str} {m n : Nat} (h : Tx y m) (g : Tx z n) (l : m + n ≤ 1000 := by decide) : y.length + z.length ≤ sizeLine := by
  have := h.len; have := g.len
  exact Nat.le_of_lt (small1000 (by omega))
/-- a written text -/
def litB (z : Str) (n : Nat) : Bool := decide (z.length ≤ n) && z.cps.toList.all fun c => decide (c < 1114112)
theorem Tx.lit {z : Str} {n : Nat} (h : litB z n = true) : Tx z n := by
  unfold litB at h
  rw [Bool.and_eq_true] at h
  exact ⟨of_decide_eq_true h.1, fun c hc => of_decide_eq_true (List.all_eq_true.mp h.2 c hc)⟩
theorem joinL_nil : ∀ l : List (List Nat), TL.joinL [] l = l.flatten
  | [] => rfl
  | [x] => by show x = [x].flatten; simp
  | x :: y :: r => by
    have ih := joinL_nil (y :: r)
    show x ++ ([] ++ TL.joinL [] (y :: r)) = (x :: y :: r).flatten
    rw [ih]; simp
theorem Tx.join {ys : List Str} (h : ∀ y ∈ ys, Tx y 1) : Tx (Txt.join ("" : Str) ys) ys.length := by
  have e0 : ("" : Str) = S [] := by decide +kernel
  have e1 : ys = (ys.map TL.tl).map S := by
    rw [List.map_map]
    conv => lhs; rw [← List.map_id ys]
    exact List.map_congr_left fun y _ => (S_tl y).symm
  have e2 : Txt.join ("" : Str) ys = S ((ys.map TL.tl).flatten) := by
    rw [e0]; conv => lhs; rw [e1]
    rw [join_S, joinL_nil]
  rw [e2]
  refine ⟨?_, fun c hc => ?_⟩
  · rw [S_len, List.length_flatten]
    have : ∀ l : List Str, (∀ y ∈ l, Tx y 1) → ((l.map TL.tl).map List.length).sum ≤ l.length := by
      intro l
      induction l with
      | nil => intro _; exact Nat.le_refl 0
      | cons y r ih =>
        intro hh
        have h1 := (hh y (List.mem_cons_self ..)).len
        rw [TL.len_tl] at h1
        have h2 := ih fun z hz => hh z (List.mem_cons_of_mem _ hz)
        rw [List.map_cons, List.map_cons, List.sum_cons, List.length_cons]
        omega
    exact this ys h
  · have hc' : c ∈ (ys.map TL.tl).flatten := hc
    obtain ⟨l, hl, hcl⟩ := List.mem_flatten.mp hc'
    obtain ⟨y, hy, rfl⟩ := List.mem_map.mp hl
    exact (h y hy).ch c hcl
theorem sum_one {ys : List Str} (h : ∀ y ∈ ys, Tx y 1) (l : ys.length ≤ 1000) : (ys.map (·.length)).sum + ys.length * ("" : Str).length ≤ 16777216 := by
  have e0 : ("" : Str).length = 0 := by decide +kernel
  rw [e0, Nat.mul_zero, Nat.add_zero]
  have : ∀ l : List Str, (∀ y ∈ l, Tx y 1) → (l.map (·.length)).sum ≤ l.length := by
    intro l
    induction l with
    | nil => intro _; exact Nat.le_refl 0
    | cons y r ih =>
      intro hh
      have h1 := (hh y (List.mem_cons_self ..)).len
      have h2 := ih fun z hz => hh z (List.mem_cons_of_mem _ hz)
      rw [List.map_cons, List.sum_cons, List.length_cons]
      omega
  have := this ys h
  omega
end Cm
namespace Cm
open PySem PySem.Spec PyProof.Rows L2
theorem ext_tup (l : Addr) (its : Array Value) (n : Nat) (b : Addr) (js : Array Value) (m : Nat) (dd : Option Addr) (sl : Array (Option Value)) (h0 : ¬(!its.isEmpty && Builtin.List.listTooLong (its.size + js.size)) = true) (h1 : its.size ≤ sizeLine) (h2 : its.size + js.size ≤ sizeLine + 1) :
    Meets (Builtin.«list.extend» ⟨[.ref l, .ref b], []⟩) (fun _ R s => s.heap.get? l = some { cls := .type "list", dict := none, data := .seq its n, slots := #[] } ∧ s.heap.get? b = some { cls := .type "tuple", dict := dd, data := .seq js m, slots := sl } ∧ R (.ok (.ret Value.none)) { s with heap := s.heap.update l (Obj.mapSeq fun x => x ++ js), toks := s.toks }) :=
  .of_wp fun prog w A R s h => by
    obtain ⟨hp, g, d, tk, os⟩ := s
    obtain ⟨hl, hb, h⟩ := h
    have f2 := sub_tuple_tuple; have f3 := sub_list_list; have f4 := sub_tuple_list; have f5 := sub_list_tuple; have f1 := AutoSeq1.idx_int
    have hz : (its ++ js).size ≤ sizeLine + 1 := by rw [Array.size_append]; exact h2
    wp_walk using (wpAny_updateSeq hl rfl (hz := h1) (_hz' := hz)), wpAny_loadPart' hl, wpAny_loadPart' hb
    exact ⟨_, rfl, h⟩
def rExtT (K : PySem.W.Frag) : V → List V → Hp → VK → Prop := fun x vs H Q => ∃ l b xs zs, x = .ref l ∧ vs = [.ref b] ∧ H l = some (.lst xs) ∧ SqT K H b zs ∧ xs.length + zs.length ≤ sizeLine ∧ Q .non (upd H l (.lst (xs ++ zs)))
/-- xs.extend(t), t a tuple -/
theorem mt_extT {X : Cx} : MtM X "list.extend" (rExtT X.K) := by
  intro pins s σ H x vs v us Q I rx rv h
  obtain ⟨l, b, xs, zs, rfl, rfl, hH, hB, hz, q⟩ := h
  cases rx
  obtain ⟨u, rfl, ru⟩ := rv.one
  cases ru
  obtain ⟨z, its, n, r, hl, e⟩ := I.lstM hH
  obtain ⟨js, r2, ⟨ob, e2, c2, m, d2⟩, z2⟩ := I.tuple hB
  obtain ⟨oc, od, dt, sl⟩ := ob
  cases (show oc = .type "tuple" from c2)
  cases (show dt = .seq js.toArray m from d2)
  have l2 := r2.length
  have hsz : its.toArray.size + js.toArray.size ≤ sizeLine := by rw [List.size_toArray, List.size_toArray]; omega
  have hlong : ¬ (!its.toArray.isEmpty && Builtin.List.listTooLong (its.toArray.size + js.toArray.size)) = true := by
    rw [notLongL hsz, Bool.and_false]; exact Bool.false_ne_true
  refine call_meets F.slot_list_extend ⟨_, e, rfl⟩ F.entry_list_extend (F.args_list_extend_2 _ _)
    (ext_tup l its.toArray n b js.toArray m od sl hlong (by rw [List.size_toArray]; omega) (by omega)) ⟨e, e2, ?_⟩
  refine ⟨.non, _, I.lset (its' := its ++ js) hH e (by simp) (r.append r2) ?_, rfl, q⟩
  rw [List.length_append]; omega
end Cm
namespace Cm
open PySem PySem.W L2 SX
/-! ### data of tuples, texts and numbers as it lies in the heap -/
mutual
inductive Tr (K : Frag) (H : Hp) : V → PyData → Prop
  | int (i : Int) : Tr K H (.int i) (.int i)
  | str (x : Str) : Tr K H (.str x) (.str x)
  | tup {a : Addr} {xs : List V} {ds : List PyData} : SqT K H a xs → TrAll K H xs ds → Tr K H (.ref a) (.tuple ds)
inductive TrAll (K : Frag) (H : Hp) : List V → List PyData → Prop
  | nil : TrAll K H [] []
  | cons {v : V} {vs : List V} {d : PyData} {ds : List PyData} : Tr K H v d → TrAll K H vs ds → TrAll K H (v :: vs) (d :: ds)
end
/-- tuples are kept -/
def TKs (K : Frag) (H H' : Hp) : Prop := ∀ a xs, SqT K H a xs → SqT K H' a xs
theorem TKs.refl {K : Frag} (H : Hp) : TKs K H H := fun _ _ h => h
theorem TKs.trans {K : Frag} {H H1 H2 : Hp} (a : TKs K H H1) (b : TKs K H1 H2) : TKs K H H2 := fun c x h => b c x (a c x h)
theorem TKs.of {K : Frag} {H H' : Hp} (s : Same H H') : TKs K H H' := fun a xs h => by
  rcases h with (h | ⟨o, h⟩) | h
  · exact .inl (.inl (s _ _ h))
  · exact .inl (.inr ⟨o, s _ _ h⟩)
  · exact .inr h
theorem TKs.kp {K : Frag} {L : List Addr} {H H' : Hp} (k : Kp L H H') (hl : ∀ b ∈ L, ∃ xs, H b = some (.lst xs)) : TKs K H H' := fun a xs h => by
  have nm : ∀ o, H a = some o → (∀ ys, o ≠ .lst ys) → a ∉ L := fun o e n z => by
    obtain ⟨ys, ey⟩ := hl a z
    rw [ey] at e
    exact n ys (Option.some.inj e).symm
  rcases h with (h | ⟨o, h⟩) | h
  · exact .inl (.inl (k _ _ (nm _ h (fun _ z => by cases z)) h))
  · exact .inl (.inr ⟨o, k _ _ (nm _ h (fun _ z => by cases z)) h⟩)
  · exact .inr h
theorem TKs.lst {K : Frag} {H : Hp} {d : Addr} {xs ys : List V} (h : H d = some (.lst xs)) : TKs K H (upd H d (.lst ys)) :=
  TKs.kp (L := [d]) (fun b o m e => by rw [upd_ne (fun z => m (List.mem_singleton.mpr z))]; exact e) (fun b hb => by rw [List.mem_singleton.mp hb]; exact ⟨xs, h⟩)
mutual
theorem Tr.mono {K : Frag} {H H' : Hp} (k : TKs K H H') : ∀ {v : V} {d : PyData}, Tr K H v d → Tr K H' v d
  | _, _, .int i => .int i
  | _, _, .str x => .str x
  | _, _, .tup h t => .tup (k _ _ h) (TrAll.mono k t)
theorem TrAll.mono {K : Frag} {H H' : Hp} (k : TKs K H H') : ∀ {v : List V} {d : List PyData}, TrAll K H v d → TrAll K H' v d
  | _, _, .nil => .nil
  | _, _, .cons h t => .cons (Tr.mono k h) (TrAll.mono k t)
end
mutual
theorem Tr.dp {K : Frag} {H : Hp} : ∀ {v : V} {d : PyData}, Tr K H v d → Dp K H v d
  | _, _, .int i => .int i
  | _, _, .str x => .str x
  | _, _, .tup h t => .tup h (TrAll.dp t)
theorem TrAll.dp {K : Frag} {H : Hp} : ∀ {v : List V} {d : List PyData}, TrAll K H v d → DpAll K H v d
  | _, _, .nil => .nil
  | _, _, .cons h t => .cons (Tr.dp h) (TrAll.dp t)
end
theorem TrAll.len {K : Frag} {H : Hp} : ∀ {v : List V} {d : List PyData}, TrAll K H v d → v.length = d.length
  | _, _, .nil => rfl
  | _, _, .cons _ t => congrArg (· + 1) (TrAll.len t)
theorem TrAll.append {K : Frag} {H : Hp} : ∀ {v v' : List V} {d d' : List PyData}, TrAll K H v d → TrAll K H v' d' → TrAll K H (v ++ v') (d ++ d')
  | _, _, _, _, .nil, h => h
  | _, _, _, _, .cons h t, h' => .cons h (TrAll.append t h')
theorem TrAll.get {K : Frag} {H : Hp} : ∀ {v : List V} {d : List PyData} {i : Nat} {x : V}, TrAll K H v d → v[i]? = some x → ∃ y, d[i]? = some y ∧ Tr K H x y
  | _, _, i, x, .nil, h => by simp at h
  | _, _, 0, x, .cons h t, e => ⟨_, rfl, by cases e; exact h⟩
  | _, _, i + 1, x, .cons h t, e => by
    rw [List.getElem?_cons_succ] at e ⊢
    exact TrAll.get t e
theorem TrAll.snoc {K : Frag} {H : Hp} {v : List V} {d : List PyData} {x : V} (h : TrAll K H (v ++ [x]) d) : ∃ d' y, d = d' ++ [y] ∧ TrAll K H v d' ∧ Tr K H x y := by
  induction v generalizing d with
  | nil =>
    cases h with
    | cons a b => cases b; exact ⟨[], _, rfl, .nil, a⟩
  | cons u r ih =>
    cases h with
    | cons a b =>
      obtain ⟨d', y, rfl, h1, h2⟩ := ih b
      exact ⟨_ :: d', y, rfl, .cons a h1, h2⟩
/-! ### things, rows, stacks: depth, words in all, size -/
mutual
inductive Thg : Nat → Nat → Nat → PyData → Prop
  | num {k : Nat} (n : Int) (h0 : 0 ≤ n) (h1 : n < 10 ^ 12) : Thg k 0 1 (.tuple [.str "number", .int n])
  | row {k k' w m : Nat} {ws : List PyData} : Rw k w m ws → k < k' → Thg k' w (m + 1) (.tuple [.str "row", .tuple ws])
  | lst {k k' w m : Nat} {ts : List PyData} : Stk k w m ts → k < k' → Thg k' w (m + 1) (.tuple [.str "list", .tuple ts])
inductive Rw : Nat → Nat → Nat → List PyData → Prop
  | nil {k : Nat} : Rw k 0 0 []
  | txt {k w m : Nat} {z : Str} {ws : List PyData} : Tx z 100 → Rw k w m ws → Rw k (w + 1) (m + 1) (.str z :: ws)
  | push {k w m w' m' : Nat} {t : PyData} {ws : List PyData} : Thg k w m t → Rw k w' m' ws → Rw k (w + w' + 1) (m + m' + 1) (.tuple [.str "push", t] :: ws)
inductive Stk : Nat → Nat → Nat → List PyData → Prop
  | nil {k : Nat} : Stk k 0 0 []
  | cons {k w m w' m' : Nat} {t : PyData} {ts : List PyData} : Thg k w m t → Stk k w' m' ts → Stk k (w + w') (m + m') (t :: ts)
end
theorem Thg.up {k k' w m : Nat} {t : PyData} (h : Thg k w m t) (l : k ≤ k') : Thg k' w m t := by
  cases h with
  | num n h0 h1 => exact .num n h0 h1
  | row h q => exact .row h (Nat.lt_of_lt_of_le q l)
  | lst h q => exact .lst h (Nat.lt_of_lt_of_le q l)
theorem Rw.up {k k' : Nat} (l : k ≤ k') : ∀ {ws : List PyData} {w m : Nat}, Rw k w m ws → Rw k' w m ws
  | _, _, _, .nil => .nil
  | _, _, _, .txt h t => .txt h (Rw.up l t)
  | _, _, _, .push h t => .push (h.up l) (Rw.up l t)
theorem Stk.up {k k' : Nat} (l : k ≤ k') : ∀ {ws : List PyData} {w m : Nat}, Stk k w m ws → Stk k' w m ws
  | _, _, _, .nil => .nil
  | _, _, _, .cons h t => .cons (h.up l) (Stk.up l t)
theorem Rw.append {k : Nat} : ∀ {a b : List PyData} {w m w' m' : Nat}, Rw k w m a → Rw k w' m' b → Rw k (w + w') (m + m') (a ++ b)
  | _, _, _, _, _, _, .nil, h => by rw [Nat.zero_add, Nat.zero_add]; exact h
  | _, _, _, _, w', m', .txt (w := w) (m := m) h t, h' => by
    have := Rw.txt h (Rw.append t h')
    rw [show w + 1 + w' = w + w' + 1 by omega, show m + 1 + m' = m + m' + 1 by omega]
    exact this
  | _, _, _, _, w', m', .push (w := w) (m := m) (w' := x) (m' := y) h t, h' => by
    have := Rw.push h (Rw.append t h')
    rw [show w + x + 1 + w' = w + (x + w') + 1 by omega, show m + y + 1 + m' = m + (y + m') + 1 by omega]
    exact this
theorem Stk.append {k : Nat} : ∀ {a b : List PyData} {w m w' m' : Nat}, Stk k w m a → Stk k w' m' b → Stk k (w + w') (m + m') (a ++ b)
  | _, _, _, _, _, _, .nil, h => by rw [Nat.zero_add, Nat.zero_add]; exact h
  | _, _, _, _, _, _, .cons h t, h' => by
    rw [Nat.add_assoc, Nat.add_assoc]; exact .cons h (Stk.append t h')
theorem Stk.snoc {k : Nat} : ∀ {a : List PyData} {t : PyData} {w m : Nat}, Stk k w m (a ++ [t]) → ∃ w1 m1 w2 m2, Stk k w1 m1 a ∧ Thg k w2 m2 t ∧ w = w1 + w2 ∧ m = m1 + m2
  | [], t, w, m, h => by
    have h' : Stk k w m [t] := h
    cases h' with
    | cons a b => cases b; exact ⟨0, 0, _, _, .nil, a, by omega, by omega⟩
  | x :: r, t, w, m, h => by
    have h' : Stk k w m (x :: (r ++ [t])) := h
    cases h' with
    | cons a q =>
      obtain ⟨w1, m1, w2, m2, a', b, rfl, rfl⟩ := Stk.snoc q
      exact ⟨_, _, w2, m2, .cons a a', b, by omega, by omega⟩
theorem Thg.pos {k w m : Nat} {t : PyData} (h : Thg k w m t) : 1 ≤ m := by
  cases h <;> omega
theorem Stk.len {k : Nat} : ∀ {a : List PyData} {w m : Nat}, Stk k w m a → a.length ≤ m
  | _, _, _, .nil => Nat.le_refl 0
  | _, _, _, .cons h t => by
    have h1 := Stk.len t
    have h2 := h.pos
    rw [List.length_cons]; omega
theorem Rw.len {k : Nat} : ∀ {a : List PyData} {w m : Nat}, Rw k w m a → a.length ≤ m
  | _, _, _, .nil => Nat.le_refl 0
  | _, _, _, .txt h t => by have := Rw.len t; rw [List.length_cons]; omega
  | _, _, _, .push h t => by have := Rw.len t; rw [List.length_cons]; omega
/-- what a word pushes -/
def psh : PyData → Option PyData
  | .tuple [_, t] => some t
  | _ => none
theorem Rw.psh {k : Nat} : ∀ {ws : List PyData} {w m : Nat}, Rw k w m ws → ∃ w' m', Stk k w' m' (ws.filterMap psh) ∧ w = ws.length + w' ∧ m' ≤ m
  | _, _, _, .nil => ⟨0, 0, .nil, rfl, Nat.le_refl 0⟩
  | _, _, _, .txt h t => by
    obtain ⟨w', m', a, b, c⟩ := Rw.psh t
    exact ⟨w', m', a, by rw [List.length_cons]; omega, by omega⟩
  | _, _, _, .push h t => by
    obtain ⟨w', m', a, b, c⟩ := Rw.psh t
    exact ⟨_, _, .cons h a, by rw [List.length_cons]; omega, by omega⟩
theorem Rw.at_ {k : Nat} : ∀ {ws : List PyData} {w m i : Nat} {d : PyData}, Rw k w m ws → ws[i]? = some d → (∃ z, d = .str z) ∨ (∃ t, d = .tuple [.str "push", t])
  | _, _, _, i, d, .nil, h => by simp at h
  | _, _, _, 0, d, .txt (z := z) h t, e => .inl ⟨z, by cases e; rfl⟩
  | _, _, _, 0, d, .push (t := t) h _, e => .inr ⟨t, by cases e; rfl⟩
  | _, _, _, i + 1, d, .txt h t, e => Rw.at_ t e
  | _, _, _, i + 1, d, .push h t, e => Rw.at_ t e
theorem mid {n : Nat} (h : n ≤ 1000000) : n ≤ sizeLine := Nat.le_trans h (by decide)
theorem midlt {n : Nat} (h : n < 1000000) : n < sizeLine := Nat.lt_of_lt_of_le h (by decide)
theorem tyTup {K : Frag} {H : Hp} {a : Addr} {xs : List V} (h : SqT K H a xs) : TyX K H (.ref a) (.type "tuple") := by
  rcases h with (h | ⟨o, h⟩) | ⟨o, _, _, e, c, _⟩
  · exact .base (.tup h)
  · exact .fTuple h
  · exact .kTuple e c
mutual
theorem Thg.lay : ∀ {k w m : Nat} {t : PyData}, Thg k w m t → PyData.canLay0 t = true ∧ PyData.depth t ≤ 3 * k + 1
  | k, _, _, _, .num n h0 h1 => ⟨by show (PyData.canLay0 (.str "number") && (true && true)) = true; decide +kernel, Nat.le_add_left 1 _⟩
  | k', _, _, _, .row (k := k) (ws := ws) h l => by
    obtain ⟨a, b⟩ := Rw.lay h
    refine ⟨?_, ?_⟩
    · show (PyData.canLay0 (.str "row") && (PyData.canLayAll0 ws && true)) = true
      rw [a]; decide +kernel
    · show max 0 (max (PyData.depthAll ws + 1) 0) + 1 ≤ _
      omega
  | k', _, _, _, .lst (k := k) (ts := ts) h l => by
    obtain ⟨a, b⟩ := Stk.lay h
    refine ⟨?_, ?_⟩
    · show (PyData.canLay0 (.str "list") && (PyData.canLayAll0 ts && true)) = true
      rw [a]; decide +kernel
    · show max 0 (max (PyData.depthAll ts + 1) 0) + 1 ≤ _
      omega
theorem Rw.lay : ∀ {k w m : Nat} {ws : List PyData}, Rw k w m ws → PyData.canLayAll0 ws = true ∧ PyData.depthAll ws ≤ 3 * k + 2
  | k, _, _, _, .nil => ⟨rfl, Nat.zero_le _⟩
  | k, _, _, _, .txt (z := z) (ws := ws) h t => by
    obtain ⟨a, b⟩ := Rw.lay t
    refine ⟨?_, ?_⟩
    · show (z.cps.all (· < 0x110000) && PyData.canLayAll0 ws) = true
      rw [a, Bool.and_true, ← Array.all_toList, List.all_eq_true]
      intro c hc
      exact decide_eq_true (h.ch c hc)
    · show max 0 (PyData.depthAll ws) ≤ _
      omega
  | k, _, _, _, .push (t := t) (ws := ws) h r => by
    obtain ⟨a, b⟩ := Rw.lay r
    obtain ⟨a', b'⟩ := Thg.lay h
    refine ⟨?_, ?_⟩
    · show ((PyData.canLay0 (.str "push") && (PyData.canLay0 t && true)) && PyData.canLayAll0 ws) = true
      rw [a, a']; decide +kernel
    · show max (max 0 (max (PyData.depth t) 0) + 1) (PyData.depthAll ws) ≤ _
      omega
theorem Stk.lay : ∀ {k w m : Nat} {ts : List PyData}, Stk k w m ts → PyData.canLayAll0 ts = true ∧ PyData.depthAll ts ≤ 3 * k + 1
  | k, _, _, _, .nil => ⟨rfl, Nat.zero_le _⟩
  | k, _, _, _, .cons (t := t) (ts := ts) h r => by
    obtain ⟨a, b⟩ := Stk.lay r
    obtain ⟨a', b'⟩ := Thg.lay h
    refine ⟨?_, ?_⟩
    · show (PyData.canLay0 t && PyData.canLayAll0 ts) = true
      rw [a, a']; rfl
    · show max (PyData.depth t) (PyData.depthAll ts) ≤ _
      omega
end
theorem Stk.shaped {k w m : Nat} {ts : List PyData} (h : Stk k w m ts) (l : k ≤ 20) : SeqAt.shaped (.list ts) = true := by
  obtain ⟨a, b⟩ := h.lay
  show (PyData.canLayAll0 ts && decide (PyData.depthAll ts + 1 ≤ 64)) = true
  rw [a, Bool.true_and]; exact decide_eq_true (by omega)
end Cm
namespace Cm
open PySem PySem.W L2 SX
theorem Tr.tupD {K : Frag} {H : Hp} {v : V} {ds : List PyData} (h : Tr K H v (.tuple ds)) : ∃ a xs, v = .ref a ∧ SqT K H a xs ∧ TrAll K H xs ds := by
  cases h with
  | tup h t => exact ⟨_, _, rfl, h, t⟩
/-- two tuples' sum, as trees -/
theorem catTr {K : Frag} {H : Hp} {u v : V} {ps qs : List PyData} {Q : VK} (hu : Tr K H u (.tuple ps)) (hv : Tr K H v (.tuple qs)) (hl : ps.length + qs.length ≤ 1000000)
    (q : ∀ (r : V) (H' : Hp), Same H H' → Tr K H' r (.tuple (ps ++ qs)) → Q r H') : rCatA K u v H Q := by
  obtain ⟨a, xs, rfl, ha, hx⟩ := hu.tupD
  obtain ⟨b, ys, rfl, hb, hy⟩ := hv.tupD
  have lx := hx.len
  have ly := hy.len
  refine ⟨a, b, xs, ys, rfl, rfl, ha, hb, mid (by omega), fun e => ?_, fun _ e => ?_, fun _ _ p np => ?_⟩
  · subst e
    cases hx
    exact q _ H (fun _ _ h => h) (.tup hb hy)
  · subst e
    cases hy
    rw [List.append_nil] at q
    exact q _ H (fun _ _ h => h) (.tup ha hx)
  · exact q _ _ (same_new np _) (.tup (SqT.of upd_same) ((hx.append hy).mono (.of (same_new np _))))
/-- all but the first of a tuple, as trees -/
theorem restTr {K : Frag} {H : Hp} {u : V} {d : PyData} {ds : List PyData} {Q : VK} (hu : Tr K H u (.tuple (d :: ds)))
    (q : ∀ (r : V) (H' : Hp), Same H H' → Tr K H' r (.tuple ds) → Q r H') : rSlA K u (some 1) none H Q := by
  obtain ⟨a, xs, rfl, ha, hx⟩ := hu.tupD
  cases hx with
  | cons hd ht =>
    rename_i x xr
    refine ⟨a, _, rfl, ha, fun c => ?_, fun _ p np => ?_⟩
    · have c1 := c.1
      rw [show (1 : Int) = ((1 : Nat) : Int) from rfl, HT.sIx_nat, List.length_cons] at c1
      omega
    · have e : cutV (x :: xr) (some 1) none = xr := by
        unfold cutV
        rw [show (1 : Int) = ((1 : Nat) : Int) from rfl, HT.sIx_nat, HT.sIx_none, List.length_cons, Nat.min_eq_left (by omega)]
        show List.take (xr.length + 1 - 1) xr = xr
        rw [Nat.add_sub_cancel, List.take_length]
      rw [e]
      exact q _ _ (same_new np _) (.tup (SqT.of upd_same) (ht.mono (.of (same_new np _))))
/-- a made tuple, as a tree -/
theorem tupTr {K : Frag} {H : Hp} {xs : List V} {ds : List PyData} (h : TrAll K H xs ds) {p : Addr} (np : H p = none) : Tr K (upd H p (.tup xs)) (.ref p) (.tuple ds) := .tup (SqT.of upd_same) (h.mono (.of (same_new np _)))
end Cm
namespace Cm
open PySem PySem.W L2 SX
/-! ### maps: what stays lowest -/
/-- the thing c stays where it is and stands nowhere behind -/
def Stays (ps : List Int) (c : Nat) : Prop := ps[c]? = some (c : Int) ∧ (c : Int) ∉ ps.drop (c + 1)
/-- as many as c may be cut -/
def IsCut (ps : List Int) (c : Nat) : Prop := (∀ j, j < c → Stays ps j) ∧ ¬ Stays ps c
def cutM (c : Nat) (ps : List Int) : List Int := (ps.drop c).map fun p => p - (c : Int)
theorem IsCut.uniq {ps : List Int} {c d : Nat} (a : IsCut ps c) (b : IsCut ps d) : c = d := by
  rcases Nat.lt_trichotomy c d with h | h | h
  · exact absurd (b.1 c h) a.2
  · exact h
  · exact absurd (a.1 d h) b.2
theorem Stays.lt {ps : List Int} {c : Nat} (h : Stays ps c) : c < ps.length := by
  have := h.1
  exact (List.getElem?_eq_some_iff.mp this).1
theorem cutM_zero (ps : List Int) : cutM 0 ps = ps := by
  unfold cutM
  rw [List.drop_zero]
  have : (fun p : Int => p - ((0 : Nat) : Int)) = id := by funext p; show p - 0 = p; omega
  rw [this, List.map_id]
theorem cutM_length (c : Nat) (ps : List Int) : (cutM c ps).length ≤ ps.length := by
  unfold cutM
  rw [List.length_map, List.length_drop]; omega
theorem mem_cutM {c : Nat} {ps : List Int} {x : Int} : x ∈ cutM c ps ↔ x + c ∈ ps.drop c := by
  unfold cutM
  rw [List.mem_map]
  constructor
  · rintro ⟨y, hy, rfl⟩
    rw [show y - (c : Int) + (c : Int) = y by omega]; exact hy
  · intro h
    exact ⟨_, h, by omega⟩
theorem IsCut.least {ps : List Int} {c : Nat} (h : IsCut ps c) : IsCut (cutM c ps) 0 := by
  refine ⟨fun j hj => absurd hj (Nat.not_lt_zero j), fun s => h.2 ?_⟩
  obtain ⟨s1, s2⟩ := s
  have e1 : (cutM c ps)[0]? = (ps[c]?).map fun p => p - (c : Int) := by
    unfold cutM
    rw [List.getElem?_map, List.getElem?_drop, Nat.add_zero]
  rw [e1] at s1
  constructor
  · cases e : ps[c]? with
    | none => rw [e] at s1; cases s1
    | some p =>
      rw [e] at s1
      have s1' : p - (c : Int) = ((0 : Nat) : Int) := Option.some.inj s1
      congr 1
      omega
  · intro m
    refine s2 ?_
    have e2 : (cutM c ps).drop (0 + 1) = (ps.drop (c + 1)).map fun p => p - (c : Int) := by
      unfold cutM
      rw [← List.map_drop, List.drop_drop]
    rw [e2, List.mem_map]
    exact ⟨_, m, by omega⟩
/-- the numbers from 0 on -/
def nums (m : Nat) : List Int := (List.range m).map fun i => ((i : Nat) : Int)
theorem nums_length (m : Nat) : (nums m).length = m := by unfold nums; rw [List.length_map, List.length_range]
theorem nums_get {m i : Nat} (h : i < m) : (nums m)[i]? = some (i : Int) := by
  unfold nums
  rw [List.getElem?_map, List.getElem?_range h]; rfl
theorem mem_nums {m : Nat} {x : Int} : x ∈ nums m ↔ 0 ≤ x ∧ x < m := by
  unfold nums
  rw [List.mem_map]
  constructor
  · rintro ⟨i, hi, rfl⟩
    have := List.mem_range.mp hi
    omega
  · rintro ⟨h1, h2⟩
    exact ⟨x.toNat, List.mem_range.mpr (by omega), by omega⟩
theorem mem_drop_nums {m c : Nat} {x : Int} (h : x ∈ (nums m).drop c) : (c : Int) ≤ x := by
  obtain ⟨i, hi⟩ := List.mem_iff_getElem?.mp h
  rw [List.getElem?_drop] at hi
  have hl := (List.getElem?_eq_some_iff.mp hi).1
  rw [nums_length] at hl
  rw [nums_get hl] at hi
  have := Option.some.inj hi
  omega
def moreM (m : Nat) (ps : List Int) : List Int := nums m ++ ps.map fun p => p + (m : Int)
theorem stays_more {m c : Nat} {ps : List Int} : Stays (moreM m ps) (m + c) ↔ Stays ps c := by
  unfold Stays moreM
  have e1 : (nums m ++ ps.map fun p => p + (m : Int))[m + c]? = (ps[c]?).map fun p => p + (m : Int) := by
    rw [List.getElem?_append_right (by rw [nums_length]; omega), nums_length, Nat.add_sub_cancel_left, List.getElem?_map]
  have e2 : (nums m ++ ps.map fun p => p + (m : Int)).drop (m + c + 1) = (ps.drop (c + 1)).map fun p => p + (m : Int) := by
    rw [List.drop_append, nums_length, List.drop_of_length_le (by rw [nums_length]; omega), List.nil_append, List.map_drop]
    congr 1; omega
  rw [e1, e2]
  constructor
  · rintro ⟨h1, h2⟩
    constructor
    · cases e : ps[c]? with
      | none => rw [e] at h1; cases h1
      | some p =>
        rw [e] at h1
        have h1' : p + (m : Int) = ((m + c : Nat) : Int) := Option.some.inj h1
        congr 1; omega
    · intro z
      exact h2 (List.mem_map.mpr ⟨_, z, by omega⟩)
  · rintro ⟨h1, h2⟩
    constructor
    · rw [h1]
      show some ((c : Int) + (m : Int)) = _
      congr 1; omega
    · intro z
      obtain ⟨y, hy, e⟩ := List.mem_map.mp z
      exact h2 (by rw [show (c : Int) = y by omega]; exact hy)
theorem IsCut.more {m c : Nat} {ps : List Int} (h : IsCut ps c) (h0 : ∀ p ∈ ps, (0 : Int) ≤ p) : IsCut (moreM m ps) (m + c) := by
  refine ⟨fun j hj => ?_, fun s => h.2 (stays_more.mp s)⟩
  by_cases hm : j < m
  · constructor
    · unfold moreM
      rw [List.getElem?_append_left (by rw [nums_length]; exact hm), nums_get hm]
    · unfold moreM
      rw [List.drop_append]
      intro z
      rcases List.mem_append.mp z with z | z
      · have := mem_drop_nums z; omega
      · obtain ⟨y, hy, e⟩ := List.mem_map.mp (List.mem_of_mem_drop z)
        have := h0 y hy
        omega
  · have : j = m + (j - m) := by omega
    rw [this]
    exact stays_more.mpr (h.1 _ (by omega))
theorem cutM_more (m c : Nat) (ps : List Int) : cutM (m + c) (moreM m ps) = cutM c ps := by
  unfold cutM moreM
  rw [List.drop_append, nums_length, List.drop_of_length_le (by rw [nums_length]; omega), List.nil_append, ← List.map_drop, List.map_map, Nat.add_sub_cancel_left]
  congr 1
  funext p
  show p + (m : Int) - ((m + c : Nat) : Int) = p - (c : Int)
  omega
theorem count_stays {ps : List Int} {c : Nat} (h : ∀ j, j < c → Stays ps j) (hc : ps[c]? = some (c : Int)) : ps.count (c : Int) = 1 ↔ (c : Int) ∉ ps.drop (c + 1) := by
  have e : ps = ps.take c ++ ((c : Int) :: ps.drop (c + 1)) := by
    obtain ⟨h1, h2⟩ := List.getElem?_eq_some_iff.mp hc
    rw [← h2, List.getElem_cons_drop, List.take_append_drop]
  have e0 : (ps.take c).count (c : Int) = 0 := by
    rw [List.count_eq_zero]
    intro z
    obtain ⟨i, hi⟩ := List.mem_iff_getElem?.mp z
    rw [List.getElem?_take] at hi
    by_cases hl : i < c
    · rw [if_pos hl, (h i hl).1] at hi
      have := Option.some.inj hi
      omega
    · rw [if_neg hl] at hi; cases hi
  have : ps.count (c : Int) = (ps.drop (c + 1)).count (c : Int) + 1 := by
    conv => lhs; rw [e]
    rw [List.count_append, e0, List.count_cons_self]; omega
  rw [this]
  constructor
  · intro q
    exact List.count_eq_zero.mp (by omega)
  · intro q
    rw [List.count_eq_zero.mpr q]
theorem in_ints (c : Int) : ∀ ns : List Int, inV (.int c) (ns.map V.int) = decide (c ∈ ns)
  | [] => rfl
  | n :: r => by
    have ih : ((r.map V.int).any fun y => eqV y (.int c)) = decide (c ∈ r) := in_ints c r
    show ((n == c) || (r.map V.int).any fun y => eqV y (.int c)) = _
    rw [ih]
    by_cases h : n = c
    · subst h
      rw [beq_self_eq_true, Bool.true_or, decide_eq_true (List.mem_cons_self ..)]
    · rw [show (n == c) = false from beq_eq_false_iff_ne.mpr h, Bool.false_or]
      congr 1
      refine propext ⟨fun m => List.mem_cons_of_mem _ m, fun m => ?_⟩
      rcases List.mem_cons.mp m with z | z
      · exact absurd z.symm h
      · exact z
theorem flat_ints : ∀ ns : List Int, (ns.map V.int).all flatV = true
  | [] => rfl
  | n :: r => by
    show (true && (r.map V.int).all flatV) = true
    rw [flat_ints r]; rfl
/-- a map as data: a number and a tuple of numbers -/
def mapD (n : Int) (ps : List Int) : PyData := .tuple [.int n, .tuple (ps.map PyData.int)]
theorem mapD_lay (n : Int) (ps : List Int) : PyData.canLay0 (mapD n ps) = true := by
  show (PyData.canLay0 (PyData.int n) && (PyData.canLayAll0 (ps.map PyData.int) && true)) = true
  rw [lay_ints]; rfl
theorem mapD_shaped (n : Int) (ps : List Int) : SeqAt.shaped (mapD n ps) = true := by
  show (PyData.canLay0 (mapD n ps) && decide (PyData.depth (mapD n ps) ≤ 64)) = true
  rw [mapD_lay]
  have : PyData.depth (mapD n ps) = 2 := by
    show max 0 (max (PyData.depthAll (ps.map PyData.int) + 1) 0) + 1 = 2
    rw [deep_ints]; rfl
  rw [this]; rfl
/-- a map stands at p -/
def MapAt (K : Frag) (H : Hp) (p : Addr) (n : Int) (ps : List Int) : Prop := ∃ t, SqT K H p [.int n, .ref t] ∧ SqT K H t (ps.map V.int)
/-! ### rules -/
theorem Same.seqT {K : PySem.W.Frag} {H H' : Hp} {a : Addr} {xs : List V} (e : Same H H') (h : SqT K H a xs) : SqT K H' a xs := by
  rcases h with (h | ⟨o, h⟩) | h
  · exact .inl (.inl (e _ _ h))
  · exact .inl (.inr ⟨o, e _ _ h⟩)
  · exact .inr h
theorem MapAt.same {K : Frag} {H H' : Hp} {p : Addr} {n : Int} {ps : List Int} (h : MapAt K H p n ps) (s : Same H H') : MapAt K H' p n ps := by
  obtain ⟨t, h1, h2⟩ := h
  exact ⟨t, Same.seqT s h1, Same.seqT s h2⟩
theorem MapAt.dp {K : Frag} {H : Hp} {p : Addr} {n : Int} {ps : List Int} (h : MapAt K H p n ps) : Dp K H (.ref p) (mapD n ps) := by
  obtain ⟨t, h1, h2⟩ := h
  exact .tup h1 (.cons (.int _) (.cons (.tup h2 (dp_ints ps)) .nil))
section
variable {X : Cx}
def rCntT (K : PySem.W.Frag) : V → List V → Hp → VK → Prop := fun x xs H Q => ∃ (p : Addr) (ns : List Int) (k : Int), x = .ref p ∧ xs = [.int k] ∧ SqT K H p (ns.map V.int) ∧ Q (.int (ns.count k : Nat)) H
theorem mt_tcount : MtR X "tuple.count" (rCntT X.K) := by
  intro pins s σ H x xs v us Q I rx rxs h
  obtain ⟨p, ns, k, rfl, rfl, hs, q⟩ := h
  cases rx
  obtain ⟨u, rfl, ru⟩ := rxs.one
  obtain ⟨t, rfl⟩ := ru
  obtain ⟨its, rv, ⟨⟨cls, dd, data, sl⟩, ho, hc, n, hd⟩, hlen⟩ := I.tuple hs
  simp only at hc hd
  subst hc hd
  have hi := ints_of_vals rv
  refine call_meets PySem.F.slot_tuple_count ⟨_, ho, rfl⟩ PySem.F.entry_tuple_count (PySem.F.args_tuple_count_2 _ _)
    (SeqAt.tuple_countAt p its.toArray n dd sl (.int k t) (eqk k)) ⟨ho, fun y hy => (eqk_gives hi y (by simpa using hy)).at _ _, ?_⟩
  have ec : its.toArray.toList.countP (eqk k) = ns.count k := eqk_count hi
  refine ⟨.int (ns.count k : Nat), H, I.tok _, ⟨s.toks, ?_⟩, q⟩
  show Value.int ((its.toArray.toList.countP (eqk k) : Nat) : Int) s.toks = Value.int ((ns.count k : Nat) : Int) s.toks
  rw [ec]
end
/-! ### a tuple's method: the tuple is kept as the object that was made, which has no dict -/
/-- a tuple of xs stands at p, as an object without a dict -/
def TupO (H : Hp) (p : Addr) (xs : List V) : Prop := ∃ o : Obj, o.dict = none ∧ H p = some (.frz o (.tup xs))
theorem TupO.sq {K : Frag} {H : Hp} {p : Addr} {xs : List V} (h : TupO H p xs) : SqT K H p xs := by
  obtain ⟨o, _, h⟩ := h
  exact .inl (.inr ⟨o, h⟩)
theorem TupO.same {H H' : Hp} {p : Addr} {xs : List V} (h : TupO H p xs) (s : Same H H') : TupO H' p xs := by
  obtain ⟨o, d, h⟩ := h
  exact ⟨o, d, s _ _ h⟩
theorem TupO.kp {H H' : Hp} {d p : Addr} {xs ys : List V} (h : TupO H p xs) (hd : H d = some (.lst ys)) (s : Kp [d] H H') : TupO H' p xs := by
  obtain ⟨o, e, h⟩ := h
  exact ⟨o, e, s p _ (fun z => by rw [List.mem_singleton.mp z, hd] at h; cases h) h⟩
section
open PySem.Spec PyProof.Rows
variable {X : Cx}
theorem call_tuple_ofD : CallR X (.type "tuple") (fun xs H Q => ∃ p ys, xs = [.ref p] ∧ SqL X.K H p ys ∧ ∀ (l : Addr) (o : Obj), H l = none → o.dict = none → Q (.ref l) (upd H l (.frz o (.tup ys)))) := by
  intro pins s σ H xs us Q I r h
  obtain ⟨p, ys, rfl, hq, q⟩ := h
  obtain ⟨u, rfl, rx⟩ := r.one
  cases rx
  obtain ⟨its, r', pl, hz⟩ := I.list hq
  have hlen := r'.length
  refine call_tuple_list pl.isList (fun h' kp => ?_) (by simp only [List.size_toArray] <;> omega)
  have I1 : Inv X pins σ H { s with heap := h' } := I.kept (t' := s.toks) kp
  have I2 : Inv X pins σ (upd H h'.objs.size (.frz { cls := .type "tuple", data := .seq its.toArray } (.tup ys))) { s with heap := h'.push { cls := .type "tuple", data := .seq its.toArray } } :=
    I1.laid (t' := s.toks) (fun b o e => Heap.get?_push_of_some _ e) (Nat.le_refl _) (show ObjOk X.prog X.w _ _ _ (.frz { cls := .type "tuple", data := .seq its.toArray } (.tup ys)) from ⟨Heap.get?_push_size _ rfl, hz, its, r', IsTup.new _ _⟩)
  exact ⟨.ref h'.objs.size, _, I2, rfl, q _ _ (I1.hok.fresh (Nat.le_refl _)) rfl⟩
def tBMT (r : V → List V → Hp → VK → Prop) (to : TE) (t : TA) : TE := fun σ H Q => to σ H fun x H1 => (∃ p ys, x = .ref p ∧ TupO H1 p ys) ∧ t σ H1 fun xs H2 => r x xs H2 Q
variable {o e : Expr} {es : List Expr} {to : TE} {t : TA} {name : Str} {apos cpos : Pos} {id : String} {r : V → List V → Hp → VK → Prop}
theorem pe_bmT (slot : Slot "tuple" name id) (hty : typeOf (.builtin id) = pure (.type "method_descriptor")) (hm : MtR X id r) (ho : PE X o to) (ha : PA X (e :: es) t)
    (hbase : attributeBase o name X.env (eval o X.env) = eval o X.env := by rfl)
    (hfew : ((backTo cpos (starEach (e :: es) X.env)).all (fun x => !x.1) && (backToKw cpos (keywordEach [] X.env)).all (fun x => x.1.isSome)
      && decide ((e :: es).length + ([] : List Keyword).length + (if ([] : List Keyword).isEmpty then 0 else 1) < 30)) = true := by rfl)
    (hline : (apos.endLine == cpos.line) = true := by rfl) (hs : starEach (e :: es) X.env = (false, eval e X.env) :: starEach es X.env := by rfl) (hplain : (backTo cpos (starEach es X.env)).any (·.1) = false := by rfl) :
    PE X (.Call (.Attribute o name apos) (e :: es) [] cpos) (tBMT r to t) := by
  refine ⟨fun pins s σ H Q I h => ?_⟩
  refine wpAny_Call_method_late hbase hfew hline rfl (thn (ho.run pins s σ H _ I h) fun v s1 ⟨x, H1, I1, r1, ty, q1⟩ => ?_)
  obtain ⟨p, ys, ex, ob, hd, hp⟩ := ty
  subst ex
  obtain rfl : v = Value.ref p := r1
  obtain ⟨hg, ho2⟩ := I1.hok p _ hp
  obtain ⟨_, its, rv, ob', hg', hc, _⟩ := ho2
  have e1 : ob = ob' := Option.some.inj (hg.symm.trans hg')
  subst e1
  refine ⟨"tuple", id, PySem.F.plainAttrs_tuple, slot, hty, ⟨ob, hg, hc⟩, fun a e => ?_, ?_⟩
  · cases e
    exact ⟨ob, hg, hd⟩
  have hA := ha.run cpos pins s1 σ H1 _ I1 q1
  rw [hs] at hA ⊢
  refine Calls.callWith_builtin (by show (false || (backTo cpos (starEach es X.env)).any (·.1)) = false; rw [hplain] <;> rfl) (Calls.evalArgs_plain ?_)
  exact thn hA fun us s2 ⟨vs, H2, I2, r2, q2⟩ => hm pins s2 σ H2 (.ref p) vs (.ref p) us Q I2 rfl r2 q2
end
/-- a comprehension over a tuple, each element a plain value, none left out -/
theorem lc_mapT {K : Frag} {a : Addr} {xs : List V} (f : V → V) {g : TG} {te : TE} {vs : List Nat} {σ : St} {H1 : Hp} {D : Addr} {Qd : Hp → Prop} (ha : SqT K H1 a xs) (hD : H1 D = none) (hl : xs.length ≤ 1000000)
    (hs : ∀ x H (R : V → Hp → Prop), x ∈ xs → Same H1 H → R (f x) H → g x (wipe σ vs) H fun σ2 H2 => wipe σ2 vs = wipe σ vs ∧ te σ2 H2 R) (hd : Qd (upd H1 D (.lst (xs.map f)))) :
    ∃ W : Nat → Nat → Hp → Prop, (∃ m, W 0 m (upd H1 D (.lst []))) ∧ ∀ i m H, W i m H →
      ((Itt K a).stop i H ∧ Qd H) ∨ ((Itt K a).go i H ∧ ∃ Nx : Hp → Prop, (∀ H', Nx H' → ∃ m', m' < m ∧ W (i + 1) m' H') ∧ ∀ x H', (Itt K a).yld i H x H' → g x (wipe σ vs) H' fun σ2 H2 => wipe σ2 vs = wipe σ vs ∧ tYes σ2 H2 fun b H3 =>
        if b = true then te σ2 H3 fun y H4 => ∃ acc, H4 D = some (.lst acc) ∧ acc.length < sizeLine ∧ Nx (upd H4 D (.lst (acc ++ [y]))) else Nx H3) := by
  refine lc_tup (K := K) (a := a) (xs := xs) (fun i H => H = upd H1 D (.lst ((xs.take i).map f))) rfl (fun i H _ e => ?_) ?_ ?_
  · rw [e]; exact Same.seqT (same_new hD _) ha
  · rintro i x H hx rfl
    refine hs x _ (fun y H4 => ∃ acc, H4 D = some (.lst acc) ∧ acc.length < sizeLine ∧ upd H4 D (.lst (acc ++ [y])) = upd H1 D (.lst ((xs.take (i + 1)).map f))) (List.mem_of_getElem? hx) (same_new hD _) ⟨_, upd_same, ?_, ?_⟩
    · rw [List.length_map, List.length_take]; rw [sizeLine_eq]; omega
    · rw [upd_upd, List.take_add_one, hx, List.map_append]; rfl
  · rintro H rfl
    rw [List.take_length]
    exact hd
/-- and over a list -/
theorem lc_mapL {K : Frag} {a : Addr} {xs : List V} (f : V → V) {g : TG} {te : TE} {vs : List Nat} {σ : St} {H1 : Hp} {D : Addr} {Qd : Hp → Prop} (ha : SqL K H1 a xs) (hD : H1 D = none) (hl : xs.length ≤ 1000000)
    (hs : ∀ x H (R : V → Hp → Prop), x ∈ xs → Same H1 H → R (f x) H → g x (wipe σ vs) H fun σ2 H2 => wipe σ2 vs = wipe σ vs ∧ te σ2 H2 R) (hd : Qd (upd H1 D (.lst (xs.map f)))) :
    ∃ W : Nat → Nat → Hp → Prop, (∃ m, W 0 m (upd H1 D (.lst []))) ∧ ∀ i m H, W i m H →
      ((Itl K a).stop i H ∧ Qd H) ∨ ((Itl K a).go i H ∧ ∃ Nx : Hp → Prop, (∀ H', Nx H' → ∃ m', m' < m ∧ W (i + 1) m' H') ∧ ∀ x H', (Itl K a).yld i H x H' → g x (wipe σ vs) H' fun σ2 H2 => wipe σ2 vs = wipe σ vs ∧ tYes σ2 H2 fun b H3 =>
        if b = true then te σ2 H3 fun y H4 => ∃ acc, H4 D = some (.lst acc) ∧ acc.length < sizeLine ∧ Nx (upd H4 D (.lst (acc ++ [y]))) else Nx H3) := by
  refine lc_list (K := K) (a := a) (xs := xs) (fun i H => H = upd H1 D (.lst ((xs.take i).map f))) rfl (fun i H _ e => ?_) ?_ ?_
  · rw [e]; exact Same.seq (same_new hD _) ha
  · rintro i x H hx rfl
    refine hs x _ (fun y H4 => ∃ acc, H4 D = some (.lst acc) ∧ acc.length < sizeLine ∧ upd H4 D (.lst (acc ++ [y])) = upd H1 D (.lst ((xs.take (i + 1)).map f))) (List.mem_of_getElem? hx) (same_new hD _) ⟨_, upd_same, ?_, ?_⟩
    · rw [List.length_map, List.length_take]; rw [sizeLine_eq]; omega
    · rw [upd_upd, List.take_add_one, hx, List.map_append]; rfl
  · rintro H rfl
    rw [List.take_length]
    exact hd
theorem cut_from {α : Type} (f : α → V) (xs : List α) (i : Nat) : cutV (xs.map f) (some (i : Int)) none = (xs.drop i).map f := by
  unfold cutV
  rw [HT.sIx_nat, HT.sIx_none, List.length_map, ← List.map_drop, ← List.map_take]
  congr 1
  by_cases h : i ≤ xs.length
  · rw [Nat.min_eq_left h, List.take_of_length_le (by rw [List.length_drop]; omega)]
  · rw [Nat.min_eq_right (by omega), List.drop_of_length_le (Nat.le_refl _), List.drop_of_length_le (by omega), List.take_nil]
theorem cut_upto {α : Type} (f : α → V) (xs : List α) (i : Nat) : cutV (xs.map f) none (some (i : Int)) = (xs.take i).map f := by
  unfold cutV
  rw [HT.sIx_nat, HT.sIx_none, List.length_map, ← List.map_drop, ← List.map_take, List.drop_zero, Nat.sub_zero]
  congr 1
  by_cases h : i ≤ xs.length
  · rw [Nat.min_eq_left h]
  · rw [Nat.min_eq_right (by omega), List.take_of_length_le (Nat.le_refl _), List.take_of_length_le (by omega)]
/-- a tuple's slice t[i:], as what it holds -/
theorem slT_from {K : Frag} {H : Hp} {a : Addr} {α : Type} {f : α → V} {xs : List α} {i : Nat} {Q : VK} (ha : SqT K H a (xs.map f)) (q : ∀ p H', Same H H' → SqT K H' p ((xs.drop i).map f) → Q (.ref p) H') : rSlA K (.ref a) (some (i : Int)) none H Q := by
  refine ⟨a, _, rfl, ha, fun c => ?_, fun _ p np => ?_⟩
  · have c1 := c.1
    rw [HT.sIx_nat, List.length_map] at c1
    have : xs.drop i = xs := by
      rcases Nat.eq_zero_or_pos i with h | h
      · rw [h, List.drop_zero]
      · have : xs.length = 0 := by omega
        rw [List.length_eq_zero_iff.mp this, List.drop_nil]
    refine q a H (Same.refl H) ?_
    rw [this]; exact ha
  · rw [cut_from]
    exact q p _ (same_new np _) (SqT.of upd_same)
theorem slT_fromP {K : Frag} {H : Hp} {a : Addr} {α : Type} {f : α → V} {xs : List α} {i : Nat} {Q : VK} {σ : St} (ha : SqT K H a (xs.map f)) (q : ∀ p H', Same H H' → SqT K H' p ((xs.drop i).map f) → Q (.ref p) H') : tNoPart σ H fun u H3 => rSlA K (.ref a) (some (i : Int)) u H3 Q := slT_from ha q
theorem slT_upto {K : Frag} {H : Hp} {a : Addr} {α : Type} {f : α → V} {xs : List α} {i : Nat} {Q : VK} (ha : SqT K H a (xs.map f)) (q : ∀ p H', Same H H' → SqT K H' p ((xs.take i).map f) → Q (.ref p) H') : rSlA K (.ref a) none (some (i : Int)) H Q := by
  refine ⟨a, _, rfl, ha, fun c => ?_, fun _ p np => ?_⟩
  · have c1 := c.2
    rw [HT.sIx_nat, List.length_map] at c1
    refine q a H (Same.refl H) ?_
    rw [List.take_of_length_le (by omega)]; exact ha
  · rw [cut_upto]
    exact q p _ (same_new np _) (SqT.of upd_same)
/-- two tuples' sum, by what they hold -/
theorem catT_map {K : Frag} {H : Hp} {a b : Addr} {xs ys : List V} {Q : VK} (ha : SqT K H a xs) (hb : SqT K H b ys) (hl : xs.length + ys.length ≤ 1000000)
    (q : ∀ p H', Same H H' → SqT K H' p (xs ++ ys) → Q (.ref p) H') : rCatA K (.ref a) (.ref b) H Q := by
  refine ⟨a, b, xs, ys, rfl, rfl, ha, hb, by rw [sizeLine_eq]; omega, fun e => ?_, fun _ e => ?_, fun _ _ p np => ?_⟩
  · subst e; exact q b H (Same.refl H) hb
  · subst e; exact q a H (Same.refl H) (by rw [List.append_nil]; exact ha)
  · exact q p _ (same_new np _) (SqT.of upd_same)
end Cm
/-! xs == [] of any list, and t[::-1] of a tuple -/
namespace PySem.SeqAt
open AutoSeq1 (wpAny_loadPart')
open MeetsSeq MeetsSeq2 MeetsSeq3 SeqRoads2
section
variable {prog : Program} {w : World}
theorem cm_list_neIn (l b : Addr) (items items2 : Array Value) (n n2 : Nat) (dd dd2 : Option Addr) (sl sl2 : Array (Option Value)) (hsz : items.size ≠ items2.size) :
    MeetsIn prog w (Builtin.«list.__eq__» ⟨[.ref l, .ref b], []⟩)
      (fun A R s => s.heap.get? l = some { cls := .type "list", dict := dd, data := .seq items n, slots := sl } ∧ s.heap.get? b = some { cls := .type "list", dict := dd2, data := .seq items2 n2, slots := sl2 } ∧
        R (.ok (.ret (.bool false))) s) := by
  intro A R s h
  obtain ⟨hp, g, d, tk, os⟩ := s; obtain ⟨hl, hb, h⟩ := h
  have f3 := AutoSeq1.sub_list_list
  have hne : (items.size != items2.size) = true := by simp [hsz]
  wp_walk using wpAny_loadPart' hl, wpAny_loadPart' hb
  exact h
theorem cm_rcP_ne {A : Around} {s : Shared} {l b : Addr} {items items2 : Array Value} (hl : s.heap.IsList l items) (hb : s.heap.IsList b items2) (hsz : items.size ≠ items2.size) (hu : A.units < cLine)
    (E Q : Value → Shared → Prop) (h : Q (.bool false) s) : wpAny (model prog w) A (richCompare .Eq (.ref l) (.ref b)) Q E s := by
  obtain ⟨⟨cls, dd, data, sl⟩, ho, hc, n, hd⟩ := id hl
  obtain ⟨⟨cls2, dd2, data2, sl2⟩, ho2, hc2, n2, hd2⟩ := id hb
  simp only at hc hd hc2 hd2
  subst hc hd hc2 hd2
  have ta : s.TypeIs (.ref l) "list" := ⟨_, ho, rfl⟩
  have tb : s.TypeIs (.ref b) "list" := ⟨_, ho2, rfl⟩
  exact wpAny_richCompare_same_room (op := .Eq) ta tb F.slot_list_eq (call_meetsIn F.slot_list_eq ta F.entry_list_eq (F.args_list_eq_2 _ _) (cm_list_neIn l b items items2 n n2 dd dd2 sl sl2 hsz)
    ⟨ho, ho2, show Value.bool false ≠ Value.notImplemented ∧ Q (.bool false) s from ⟨(fun x => nomatch x), h⟩⟩) hu
end
end PySem.SeqAt
namespace Cm
open PySem PySem.Spec PyProof.Rows PySem.W L2 SX
section
variable {X : Cx}
/-- xs == [] -/
def rEqNil (K : Frag) : R2 := fun x y H Q => ∃ a b xs, x = .ref a ∧ y = .ref b ∧ SqL K H a xs ∧ SqL K H b [] ∧ Q (.bl xs.isEmpty) H
theorem op_eqNil (hu : X.A.units + 64 < cLine) : OpR X (compareOp .Eq) (rEqNil X.K) := by
  intro pins s σ H x y v u Q I rx ry h
  obtain ⟨a, b, xs, rfl, rfl, ha, hb, q⟩ := h
  cases rx
  cases ry
  obtain ⟨us, r1, p1, _⟩ := I.list ha
  obtain ⟨ws, r2, p2, _⟩ := I.list hb
  cases r2
  cases r1 with
  | nil =>
    refine SeqAt.rcP_lists (e := fun _ => true) p1.isList p2.isList rfl (by omega) (fun j h1 h2 => ?_) _ _ ⟨.bl true, H, I, rfl, q⟩
    exact absurd h1 (Nat.not_lt_zero j)
  | cons h t =>
    refine SeqAt.cm_rcP_ne p1.isList p2.isList (by simp) (by omega) _ _ ⟨.bl false, H, I, rfl, q⟩
end
end Cm
namespace HT
open PySem PyProof.Rows
section
variable {prog : Program} {w : World} {A : Around} {E : Value → Shared → Prop} {s : Shared}
theorem cm_adjust (n : Nat) : Builtin.Slice.sliceAdjust none none (-1) (n : Int) = ((n : Int) - 1, -1) := rfl
theorem cm_places (n : Nat) : Builtin.Slice.slicePlaces ((n : Int) - 1) (-1) (-1) = n := by
  unfold Builtin.Slice.slicePlaces
  rw [if_neg (show ¬ ((-1 : Int) > 0) by omega)]
  cases n with
  | zero => rfl
  | succ n =>
    rw [if_pos (show ((n + 1 : Nat) : Int) - 1 > -1 by omega)]
    show ((((n + 1 : Nat) : Int) - 1 - -1 - 1) / 1 + 1).toNat = n + 1
    rw [Int.ediv_one]; omega
theorem cm_applied {sl : Addr} {vl vu vs : Value} {n : Nat} {Q : Int × Int × Nat → Shared → Prop} (hs : s.heap.IsSliceOf sl vl vu vs) (pl : IsPart vl none) (pu : IsPart vu none) (ps : IsPart vs (some (-1)))
    (h : Q ((n : Int) - 1, -1, n) s) : wpAny (model prog w) A (Builtin.Slice.sliceApplied (.ref sl) (pure (n : Int))) Q E s := by
  obtain ⟨os, hos, hcs, hds⟩ := id hs
  unfold Builtin.Slice.sliceApplied Builtin.Slice.sliceFields
  refine wpAny_bind (wpAny_bind (wpAny_field hos hds (x := vl) rfl (wpAny_bind (wpAny_field hos hds (x := vu) rfl (wpAny_bind (wpAny_field hos hds (x := vs) rfl (wpAny_pure ?_)))))))
  refine wpAny_bind (slicePart_ ps ?_)
  show wpAny _ _ (if ((-1 : Int) == 0) = true then _ else _) _ _ s
  rw [if_neg (by decide)]
  refine wpAny_bind (slicePart_ pl (wpAny_bind (slicePart_ pu (wpAny_bind (wpAny_pure ?_)))))
  show wpAny _ _ (match Builtin.Slice.sliceAdjust none none (-1) (n : Int) with | (lo, hi) => pure (lo, (-1 : Int), Builtin.Slice.slicePlaces lo hi (-1))) _ _ s
  rw [cm_adjust n]
  show wpAny _ _ (pure ((n : Int) - 1, (-1 : Int), Builtin.Slice.slicePlaces ((n : Int) - 1) (-1) (-1))) _ _ s
  rw [cm_places]
  exact wpAny_pure h
theorem cm_pick (xs : List Value) : ((List.range xs.length).filterMap fun (m : Nat) => xs.toArray[((xs.length : Int) - 1 + (m : Int) * -1).toNat]?).toArray = xs.reverse.toArray := by
  congr 1
  have e : ∀ m ∈ List.range xs.length, xs.toArray[((xs.length : Int) - 1 + (m : Int) * -1).toNat]? = xs.reverse[m]? := by
    intro m hm
    have hm := List.mem_range.mp hm
    rw [List.getElem?_reverse hm, show ((xs.length : Int) - 1 + (m : Int) * -1).toNat = xs.length - 1 - m by omega]
    simp
  have e2 : ∀ (l : List Nat), (∀ m ∈ l, m ∈ List.range xs.length) → (l.filterMap fun (m : Nat) => xs.toArray[((xs.length : Int) - 1 + (m : Int) * -1).toNat]?) = l.filterMap fun m => xs.reverse[m]? := by
    intro l
    induction l with
    | nil => intro _; rfl
    | cons a r ih =>
      intro h
      rw [List.filterMap_cons, List.filterMap_cons, e a (h a (List.mem_cons_self ..)), ih (fun m hm => h m (List.mem_cons_of_mem _ hm))]
  rw [e2 _ (fun _ h => h), ← List.length_reverse (as := xs)]
  generalize xs.reverse = ys
  induction ys with
  | nil => rfl
  | cons y r ih =>
    rw [List.length_cons, List.range_succ_eq_map, List.filterMap_cons]
    show y :: List.filterMap _ _ = _
    rw [List.filterMap_map]
    exact congrArg (y :: ·) ih
theorem cm_tuple_rev {t sl : Addr} {items : List Value} {vl vu vs : Value} {Q : Value → Shared → Prop} (ht : IsTup s.heap t items.toArray) (hs : s.heap.IsSliceOf sl vl vu vs) (pl : IsPart vl none) (pu : IsPart vu none) (ps : IsPart vs (some (-1)))
    (h : Q (.ref s.heap.objs.size) { s with heap := s.heap.push { cls := .type "tuple", data := .seq items.reverse.toArray } })
    (hsz : items.length ≤ sizeLine) : wpAny (model prog w) A (getItem (.ref t) (.ref sl)) Q E s := by
  have htake : sizeOk (.seq items.reverse.toArray) := by
    show items.reverse.toArray.size ≤ sizeLine
    rw [List.size_toArray, List.length_reverse]; exact hsz
  obtain ⟨os, hos, hcs, hds⟩ := id hs
  have hTs : s.TypeIs (.ref sl) "slice" := ⟨os, hos, hcs⟩
  unfold getItem
  try with_reducible refine wpAny_holding ?_
  first | refine wpAny_bind (wpAny_pure ?_) | skip
  refine wpAny_bind (wpAny_sequenceKey ht.typeIs (by decide) ?_)
  refine wpAny_bind (wpAny_callSpecial?_slot (name := Str.ofString "__getitem__") ht.typeIs PyProof.Rows.slot_tuple_getitem
    (wpAny_call_entry PyProof.Rows.slot_tuple_getitem ht.typeIs entry_tuple_getitem ?_ (args_tuple_getitem _ _)))
  show wpAny _ _ (Builtin.Tuple.tupleItemsOf (.ref t) >>= _) _ _ s
  refine wpAny_bind (tupleItemsOf_ ht ?_)
  refine wpAny_bind (wpAny_typeOf hTs ?_)
  rw [if_pos (by decide)]
  refine wpAny_bind (cm_applied (n := items.length) hs pl pu ps ?_)
  have hno : ¬ ((((items.length : Int) - 1) == 0 && (-1 : Int) == 1 && items.length == items.toArray.size) = true) := by
    intro q
    rw [Bool.and_eq_true, Bool.and_eq_true] at q
    exact absurd q.1.2 (by decide)
  show wpAny _ _ (if (((items.length : Int) - 1) == 0 && (-1 : Int) == 1 && items.length == items.toArray.size) = true then _ else _) _ _ s
  rw [if_neg hno, cm_pick]
  first
    | exact wpAny_bind (m := Builtin.Tuple.tupleExact _) (wpAny_newObj_type (wpAny_pure ⟨_, rfl, wpAny_pure h⟩) htake)
    | exact wpAny_bind (m := Builtin.Tuple.tupleExact _) (wpAny_newObj_type (wpAny_bind (wpAny_pure (wpAny_pure ⟨_, rfl, wpAny_pure h⟩))) htake)
    | exact wpAny_bind (wpAny_bind (m := Builtin.Tuple.tupleExact _) (wpAny_newObj_type (wpAny_pure (wpAny_pure ⟨_, rfl, wpAny_pure h⟩)) htake))
    | exact wpAny_bind (wpAny_bind (m := Builtin.Tuple.tupleExact _) (wpAny_newObj_type (wpAny_pure ⟨_, rfl, wpAny_pure h⟩) htake))
end
end HT
namespace Cm
open PySem PySem.Spec PyProof.Rows PySem.W L2 SX
section
variable {X : Cx}
/-- t[::-1] -/
def tRevT (K : Frag) (te : TE) : TE := fun σ H Q => te σ H fun x H1 => ∃ a xs, x = .ref a ∧ SqT K H1 a xs ∧ ∀ p, H1 p = none → Q (.ref p) (upd H1 p (.tup xs.reverse))
theorem pe_revT {e : Expr} {te : TE} {k : Nat} {p1 p2 p3 pos : Pos} (he : PE X e te) : PE X (.Subscript e (.Slice none none (some (.UnaryOp .USub (.Constant (.int 1) k p1) p2)) p3) pos) (tRevT X.K te) := by
  refine ⟨fun pins s σ H Q I h => ?_⟩
  refine Subscript_ (thn (he.run pins s σ H _ I h) fun v s1 ⟨x, H1, I1, r1, q1⟩ => ?_)
  obtain ⟨a, xs, ex, hx, q⟩ := q1
  subst ex
  cases r1
  have hst : PO X (some (.UnaryOp .USub (.Constant (.int 1) k p1) p2)) (tPart (tUn (rU fun i => .int (-i)) (tC (.int 1)))) := po_some (pe_un un_neg pe_int)
  refine wpAny_Slice (thn (po_none.run pins s1 σ H1 (fun o H2 => o = none ∧ H2 = H1) I1 ⟨rfl, rfl⟩) fun vl s2 ⟨l, H2, I2, pl, el, e2⟩ => ?_)
  subst el e2
  refine thn (po_none.run pins s2 σ H2 (fun o H3 => o = none ∧ H3 = H2) I2 ⟨rfl, rfl⟩) fun vu s3 ⟨u, H3, I3, pu, eu, e3⟩ => ?_
  subst eu e3
  refine thn (hst.run pins s3 σ H3 (fun o H4 => o = some (-1) ∧ H4 = H3) I3 ⟨1, rfl, -1, rfl, rfl, rfl⟩) fun vs s4 ⟨o, H4, I4, ps, eo, e4⟩ => ?_
  subst eo e4
  have I5 : Inv X pins σ H4 { s4 with heap := s4.heap.push { cls := .type "slice", data := .fields #[vl, vu, vs] } } := I4.kept (t' := s4.toks) fun b ob q => Heap.get?_push_of_some _ q
  obtain ⟨its, r, ht, hz⟩ := I5.tuple hx
  have hlen := r.length
  show wpAny (model X.prog X.w) X.A (subscriptTail e (.Slice none none (some (.UnaryOp .USub (.Constant (.int 1) k p1) p2)) p3) (.ref a) (.ref s4.heap.objs.size)) (EP X pins σ Q) X.xe { s4 with heap := s4.heap.push { cls := .type "slice", data := .fields #[vl, vu, vs] } }
  refine tail_any (ops := [.ref a, .ref s4.heap.objs.size]) ht.typeIs (PyProof.Rows.slot_tuple_getitem.lookup) ?_ (by with_unfolding_all rfl)
  refine HT.cm_tuple_rev ht (Heap.IsSliceOf.new _ vl vu vs) pl pu ps ?_ (by omega)
  refine ⟨.ref _, _, I5.laid (t' := s4.toks) (o := .tup xs.reverse) (fun b ob q => Heap.get?_push_of_some _ q) (Nat.le_refl _) ?_, rfl, q _ (I5.hok.fresh (Nat.le_refl _))⟩
  exact ⟨by rw [List.length_reverse]; exact hz, _, r.reverse, IsTup.new _ _⟩
end
end Cm
namespace Cm
open PySem PySem.W L2 SX
/-! ### any value: None, truths, numbers, texts, tuples of such; lists and dicts are not looked into -/
mutual
inductive Bt (K : Frag) (L : List Addr) (H : Hp) : V → PyData → Prop
  | non : Bt K L H .non .none
  | bl (b : Bool) : Bt K L H (.bl b) (.bool b)
  | int (i : Int) : Bt K L H (.int i) (.int i)
  | str {x : Str} (h : Tx x 100) : Bt K L H (.str x) (.str x)
  | lst {a : Addr} {xs : List V} : a ∉ L → H a = some (.lst xs) → Bt K L H (.ref a) (.list [])
  | dct {a : Addr} {kvs : List (Key × V)} : a ∉ L → H a = some (.dK kvs) → Bt K L H (.ref a) (.dict [])
  | tup {a : Addr} {xs : List V} {ds : List PyData} : SqT K H a xs → BtAll K L H xs ds → Bt K L H (.ref a) (.tuple ds)
inductive BtAll (K : Frag) (L : List Addr) (H : Hp) : List V → List PyData → Prop
  | nil : BtAll K L H [] []
  | cons {v : V} {vs : List V} {d : PyData} {ds : List PyData} : Bt K L H v d → BtAll K L H vs ds → BtAll K L H (v :: vs) (d :: ds)
end
/-- what such a value needs to stay -/
structure BKs (K : Frag) (L : List Addr) (H H' : Hp) : Prop where
  tk : TKs K H H'
  kp : Kp L H H'
theorem BKs.of {K : Frag} {L : List Addr} {H H' : Hp} (s : Same H H') : BKs K L H H' := ⟨TKs.of s, fun a o _ e => s a o e⟩
theorem BKs.trans {K : Frag} {L : List Addr} {H H1 H2 : Hp} (a : BKs K L H H1) (b : BKs K L H1 H2) : BKs K L H H2 := ⟨a.tk.trans b.tk, a.kp.trans b.kp⟩
mutual
theorem Bt.mono {K : Frag} {L : List Addr} {H H' : Hp} (k : BKs K L H H') : ∀ {v : V} {d : PyData}, Bt K L H v d → Bt K L H' v d
  | _, _, .non => .non
  | _, _, .bl b => .bl b
  | _, _, .int i => .int i
  | _, _, .str h => .str h
  | _, _, .lst n h => .lst n (k.kp _ _ n h)
  | _, _, .dct n h => .dct n (k.kp _ _ n h)
  | _, _, .tup h t => .tup (k.tk _ _ h) (BtAll.mono k t)
theorem BtAll.mono {K : Frag} {L : List Addr} {H H' : Hp} (k : BKs K L H H') : ∀ {v : List V} {d : List PyData}, BtAll K L H v d → BtAll K L H' v d
  | _, _, .nil => .nil
  | _, _, .cons h t => .cons (Bt.mono k h) (BtAll.mono k t)
end
theorem BtAll.len {K : Frag} {L : List Addr} {H : Hp} : ∀ {v : List V} {d : List PyData}, BtAll K L H v d → v.length = d.length
  | _, _, .nil => rfl
  | _, _, .cons _ t => congrArg (· + 1) (BtAll.len t)
theorem BtAll.append {K : Frag} {L : List Addr} {H : Hp} : ∀ {v v' : List V} {d d' : List PyData}, BtAll K L H v d → BtAll K L H v' d' → BtAll K L H (v ++ v') (d ++ d')
  | _, _, _, _, .nil, h => h
  | _, _, _, _, .cons h t, h' => .cons h (BtAll.append t h')
theorem BtAll.get {K : Frag} {L : List Addr} {H : Hp} : ∀ {v : List V} {d : List PyData} {i : Nat} {x : V}, BtAll K L H v d → v[i]? = some x → ∃ y, d[i]? = some y ∧ Bt K L H x y
  | _, _, i, x, .nil, h => by simp at h
  | _, _, 0, x, .cons h t, e => ⟨_, rfl, by cases e; exact h⟩
  | _, _, i + 1, x, .cons h t, e => by
    rw [List.getElem?_cons_succ] at e ⊢
    exact BtAll.get t e
theorem Bt.tupD {K : Frag} {L : List Addr} {H : Hp} {v : V} {ds : List PyData} (h : Bt K L H v (.tuple ds)) : ∃ a xs, v = .ref a ∧ SqT K H a xs ∧ BtAll K L H xs ds := by
  cases h with
  | tup h t => exact ⟨_, _, rfl, h, t⟩
def kTupB : PyData → Bool
  | .tuple _ => true
  | _ => false
def kStrB : PyData → Bool
  | .str _ => true
  | _ => false
def kIntB : PyData → Bool
  | .int _ => true
  | .bool _ => true
  | _ => false
def kBoolB : PyData → Bool
  | .bool _ => true
  | _ => false
theorem kTupB_of {d : PyData} (h : kTupB d = true) : ∃ ds, d = .tuple ds := by
  cases d with
  | tuple ds => exact ⟨ds, rfl⟩
  | _ => cases h
theorem kStrB_of {d : PyData} (h : kStrB d = true) : ∃ z, d = .str z := by
  cases d with
  | str z => exact ⟨z, rfl⟩
  | _ => cases h
/-- isinstance of such a value -/
theorem Bt.ty {K : Frag} {L : List Addr} {H : Hp} {v : V} {d : PyData} (h : Bt K L H v d) : ∃ t, TyX K H v t ∧ kitOne K t (.type "tuple") = some (kTupB d) ∧ kitOne K t (.type "str") = some (kStrB d) ∧ kitOne K t (.type "int") = some (kIntB d) ∧ kitOne K t (.type "bool") = some (kBoolB d) := by
  cases h with
  | non => exact ⟨_, .base .non, kit_ty (r := false) (by decide +kernel), kit_ty (r := false) (by decide +kernel), kit_ty (r := false) (by decide +kernel), kit_ty (r := false) (by decide +kernel)⟩
  | bl b => exact ⟨_, .base (.bl _), kit_ty (r := false) (by decide +kernel), kit_ty (r := false) (by decide +kernel), kit_ty (r := true) (by decide +kernel), kit_ty (r := true) (by decide +kernel)⟩
  | int i => exact ⟨_, .base (.int _), kit_ty (r := false) (by decide +kernel), kit_ty (r := false) (by decide +kernel), kit_ty (r := true) (by decide +kernel), kit_ty (r := false) (by decide +kernel)⟩
  | str h => exact ⟨_, .base (.str _), kit_ty (r := false) (by decide +kernel), kit_ty (r := true) (by decide +kernel), kit_ty (r := false) (by decide +kernel), kit_ty (r := false) (by decide +kernel)⟩
  | lst n h => exact ⟨_, .base (.lst h), kit_ty (r := false) (by decide +kernel), kit_ty (r := false) (by decide +kernel), kit_ty (r := false) (by decide +kernel), kit_ty (r := false) (by decide +kernel)⟩
  | dct n h => exact ⟨_, .base (.dK h), kit_ty (r := false) (by decide +kernel), kit_ty (r := false) (by decide +kernel), kit_ty (r := false) (by decide +kernel), kit_ty (r := false) (by decide +kernel)⟩
  | tup h t => exact ⟨_, tyTup h, kit_ty (r := true) (by decide +kernel), kit_ty (r := false) (by decide +kernel), kit_ty (r := false) (by decide +kernel), kit_ty (r := false) (by decide +kernel)⟩
/-! ### size and depth -/
mutual
def sz : PyData → Nat
  | .tuple ds => 1 + szs ds
  | _ => 1
def szs : List PyData → Nat
  | [] => 0
  | d :: r => sz d + szs r
end
mutual
def dep : PyData → Nat
  | .tuple ds => 1 + deps ds
  | _ => 0
def deps : List PyData → Nat
  | [] => 0
  | d :: r => max (dep d) (deps r)
end
theorem sz_pos (d : PyData) : 1 ≤ sz d := by
  cases d <;> first | (unfold sz; omega) | exact Nat.le_refl 1
theorem szs_mem {d : PyData} : ∀ {ds : List PyData}, d ∈ ds → sz d ≤ szs ds
  | a :: r, h => by
    unfold szs
    rcases List.mem_cons.mp h with rfl | h
    · omega
    · have := szs_mem h; omega
theorem szs_len : ∀ (ds : List PyData), ds.length ≤ szs ds
  | [] => Nat.le_refl 0
  | a :: r => by
    have h1 := szs_len r
    have h2 := sz_pos a
    unfold szs
    rw [List.length_cons]; omega
theorem deps_mem {d : PyData} : ∀ {ds : List PyData}, d ∈ ds → dep d ≤ deps ds
  | a :: r, h => by
    unfold deps
    rcases List.mem_cons.mp h with rfl | h
    · omega
    · have := deps_mem h; omega
theorem szs_append : ∀ (a b : List PyData), szs (a ++ b) = szs a + szs b
  | [], b => by show szs b = 0 + szs b; omega
  | x :: r, b => by
    show sz x + szs (r ++ b) = (sz x + szs r) + szs b
    rw [szs_append r b]; omega
theorem deps_append : ∀ (a b : List PyData), deps (a ++ b) = max (deps a) (deps b)
  | [], b => by show deps b = max 0 (deps b); omega
  | x :: r, b => by
    show max (dep x) (deps (r ++ b)) = max (max (dep x) (deps r)) (deps b)
    rw [deps_append r b]; omega
theorem sz_tuple (ds : List PyData) : sz (.tuple ds) = 1 + szs ds := by unfold sz; rfl
theorem dep_tuple (ds : List PyData) : dep (.tuple ds) = 1 + deps ds := by unfold dep; rfl
end Cm
namespace Cm
open PySem PySem.Spec PyProof.Rows PySem.W L2 SX
section
variable {X : Cx}
/-- t == () -/
def rEqNilT (K : Frag) : R2 := fun x y H Q => ∃ a b xs, x = .ref a ∧ y = .ref b ∧ SqT K H a xs ∧ SqT K H b [] ∧ Q (.bl xs.isEmpty) H
theorem op_eqNilT (hu : X.A.units + 64 < cLine) : OpR X (compareOp .Eq) (rEqNilT X.K) := by
  intro pins s σ H x y v u Q I rx ry h
  obtain ⟨a, b, xs, rfl, rfl, ha, hb, q⟩ := h
  cases rx
  cases ry
  obtain ⟨us, r1, p1, _⟩ := I.tuple ha
  obtain ⟨ws, r2, p2, _⟩ := I.tuple hb
  cases r2
  have e : xs.isEmpty = ((List.range (min us.toArray.size (#[] : Array Value).size)).all (fun _ => true) && us.toArray.size == (#[] : Array Value).size) := by
    cases r1 with
    | nil => rfl
    | cons h t => rw [List.size_toArray]; rfl
  rw [e] at q
  obtain ⟨⟨cls, dd, data, sl⟩, ho, hc, n, hd⟩ := id p1
  obtain ⟨⟨cls2, dd2, data2, sl2⟩, ho2, hc2, n2, hd2⟩ := id p2
  simp only at hc hd hc2 hd2
  subst hc hd hc2 hd2
  refine richCompare_meets_room (op := .Eq) ⟨_, ho, rfl⟩ ⟨_, ho2, rfl⟩ F.slot_tuple_eq F.entry_tuple_eq (F.args_tuple_eq_2 _ _) (SeqAt.tuple_eqAt a b us.toArray #[] n n2 dd dd2 sl sl2 (fun _ => true)) ?_ (by omega)
  exact ⟨ho, ho2, (fun j h1 h2 => absurd h2 (Nat.not_lt_zero j)), (fun z => nomatch z), ⟨.bl _, H, I, rfl, q⟩⟩
end
end Cm
/-! x == text, of any x that is no dict -/
namespace Cm
open PySem PySem.Spec PyProof.Rows PySem.W L2 SX
/-- equal to this text -/
def eqSB (z : Str) : PyData → Bool
  | .str y => decide (y = z)
  | _ => false
section
variable {X : Cx}
def rEqS (K : Frag) : R2 := fun x y H Q => ∃ (z : Str) (d : PyData) (L : List Addr), y = .str z ∧ Bt K L H x d ∧ (∀ kvs, d ≠ .dict kvs) ∧ Q (.bl (eqSB z d)) H
theorem op_eqS (hu : X.A.units + 64 < cLine) : OpR X (compareOp .Eq) (rEqS X.K) := by
  intro pins s σ H x y v u Q I rx ry h
  obtain ⟨z, d, L, rfl, hx, nd, q⟩ := h
  obtain ⟨tz, rfl⟩ := ry
  have hu' : X.A.units < cLine := by omega
  have fin : ∀ b : Bool, eqSB z d = b → EP X pins σ Q (.bool b) s := fun b e => ⟨.bl b, H, I, rfl, by rw [← e]; exact q⟩
  cases hx with
  | non =>
    cases (show v = Value.none from rx)
    exact SeqAt.RcAt.none_str z tz _ _ _ _ (fin false rfl)
  | bl b =>
    cases (show v = Value.bool b from rx)
    exact SeqAt.RcAt.bool_str b z tz _ _ _ _ (fin false rfl)
  | int i =>
    obtain ⟨t, rfl⟩ := (show ∃ t, v = Value.int i t from rx)
    exact SeqAt.RcAt.int_str i t z tz _ _ _ _ (fin false rfl)
  | @str y hy =>
    obtain ⟨t, rfl⟩ := (show ∃ t, v = Value.str y t from rx)
    refine SeqAt.RcAt.str_str y t z tz _ _ _ _ (fin _ ?_)
    show decide (y = z) = (y == z)
    by_cases h : y = z
    · rw [decide_eq_true h, h, beq_self_eq_true]
    · rw [decide_eq_false h, beq_eq_false_iff_ne.mpr h]
  | @lst a xs n e =>
    cases (show v = Value.ref a from rx)
    obtain ⟨us, r1, p1, _⟩ := I.list (SqL.of e)
    exact SeqAt.RcAt.list_str z tz p1.isList hu' _ _ _ _ (fin false rfl)
  | dct n e => exact absurd rfl (nd _)
  | @tup a xs ds hs ht =>
    cases (show v = Value.ref a from rx)
    obtain ⟨us, r1, p1, _⟩ := I.tuple hs
    exact SeqAt.RcAt.tuple_str z tz p1 hu' _ _ _ _ (fin false rfl)
end
end Cm
namespace K15
open PySem PySem.W L2 SX Cm
def top (i : Nat) : Stmt := PySem.Challenge.pw_takeleave_k15_what_is_a_kind.main.body.getD i (.Pass ⟨0, 0, 0, 0⟩)
abbrev sMarked : Stmt := top 1
abbrev sForm : Stmt := top 2
abbrev sFigures : Stmt := top 6
abbrev sOpThing : Stmt := top 9
abbrev sOpRest : Stmt := top 10
abbrev sLettered : Stmt := top 11
abbrev sIsKind : Stmt := top 13
abbrev sIsStK : Stmt := top 14
abbrev sIsRwK : Stmt := top 15
abbrev sAsked : Stmt := top 16
abbrev sAskedRow : Stmt := top 17
abbrev sAskedKind : Stmt := top 18
abbrev sAskedStack : Stmt := top 19
abbrev sDeck : Stmt := top 21
abbrev sDraw : Stmt := top 22
abbrev sName : Stmt := top 23
abbrev sKind : Stmt := top 24
abbrev sStack : Stmt := top 25
abbrev sRowKind : Stmt := top 26
abbrev sLName : Stmt := top 27
abbrev sLKind : Stmt := top 28
abbrev sLStack : Stmt := top 29
abbrev sLRow : Stmt := top 30
abbrev sOdd : Stmt := top 31
abbrev sBent : Stmt := top 32
abbrev sRight : Stmt := top 33
abbrev sLaw : Stmt := top 34
/-- a deck stands at d, its cells at c -/
structure Deck (H : Hp) (d c : Addr) : Prop where
  ne : d ≠ c
  at_ : ∃ (s k : Int), H d = some (.lst [.ref c, .int s, .int k])
  cells : ∃ ms : List Int, H c = some (.lst (ms.map V.int)) ∧ ms.length ≤ 1000
theorem Deck.new {H : Hp} {d c p : Addr} {o : HO} (D : Deck H d c) (h : H p = none) : Deck (upd H p o) d c := by
  obtain ⟨s, k, e⟩ := D.at_
  obtain ⟨ms, e2, l⟩ := D.cells
  exact ⟨D.ne, ⟨s, k, kn e h⟩, ms, kn e2 h, l⟩
theorem Deck.same {H H' : Hp} {d c : Addr} (D : Deck H d c) (s : Same H H') : Deck H' d c := by
  obtain ⟨a, k, e⟩ := D.at_
  obtain ⟨ms, e2, l⟩ := D.cells
  exact ⟨D.ne, ⟨a, k, s _ _ e⟩, ms, s _ _ e2, l⟩
theorem Deck.nd {H : Hp} {d c p : Addr} (D : Deck H d c) (h : H p = none) : p ∉ [d, c] := by
  obtain ⟨a, k, e⟩ := D.at_
  obtain ⟨ms, e2, l⟩ := D.cells
  intro z
  rcases List.mem_cons.mp z with z | z
  · rw [z, e] at h; cases h
  · rw [List.mem_singleton.mp z, e2] at h; cases h
theorem Deck.put {H : Hp} {d c p : Addr} {o : HO} (D : Deck H d c) (h : p ∉ [d, c]) : Deck (upd H p o) d c := by
  obtain ⟨s, k, e⟩ := D.at_
  obtain ⟨ms, e2, l⟩ := D.cells
  have h1 : d ≠ p := fun z => h (by rw [← z]; exact List.mem_cons_self ..)
  have h2 : c ≠ p := fun z => h (by rw [← z]; exact List.mem_cons_of_mem _ (List.mem_singleton.mpr rfl))
  exact ⟨D.ne, ⟨s, k, by rw [upd_ne h1]; exact e⟩, ms, by rw [upd_ne h2]; exact e2, l⟩
section
variable {P : Program} {w : World} {K : PySem.W.Frag} {mg : Str → Option Value} {base : Heap}
def spDeck (K : PySem.W.Frag) : Sp := fun vs H Q _ => ∃ (a : Addr) (ns : List Int), vs = [.ref a] ∧ SqL K H a (ns.map V.int) ∧ ns.length ≤ 63 ∧
  ∀ (d c : Addr) (H' : Hp), Same H H' → H d = none → H c = none → Deck H' d c → Q (.ref d) H'
theorem scDeck : FnScope ["_law_script", "_law_seed", "_law_cell"] ["_law_script"] (defScope sDeck) := ⟨rfl, rfl, rfl, by decide +kernel, rfl, by decide +kernel, by decide +kernel⟩
theorem ok_deck {f : Addr} {fd : FuncData} (F : Fun K "_law_deck" "_law_deck" sDeck f fd) (mlist : mg "list" = none) : FnOk P w K mg base CX0 1 f fd ["_law_script"] (spDeck K) := by
  refine F.ok scDeck (fun vs H Q E h => ?_) (fun cdv A outer s H vs Q E hr h => ?_)
  · obtain ⟨a, ns, rfl, _⟩ := h
    rfl
  obtain ⟨a, ns, rfl, hS, h63, q⟩ := h
  refine ⟨_, pss_cons (ps_set (i := 1) scDeck.nd rfl (.inl rfl) pe_int)
    (pss_cons (ps_for PassesOwn.never rfl (pi_list (pe_slice sl_list (pv 0) po_none (po_some pe_int))) (pg_name (i := 2) scDeck.nd rfl (.inl rfl))
      (pss_one (ps_set (i := 1) scDeck.nd rfl (.inl rfl) (pe_op op_mod (pe_op op_add (pe_op op_add (pe_op op_mul (pv 1) pe_int) (pe_op op_mod (pv 2) pe_int)) pe_int) pe_int))))
    (pss_one (ps_ret (pe_lst (pa_cons (pe_callTy call_list_of (by rfl) mlist (by decide +kernel) (pa_cons (pe_slice sl_list (pv 0) po_none (po_some pe_int)) pa_nil)) (pa_cons (pv 1) (pa_cons pe_int pa_nil))))))), ?_⟩
  obtain ⟨ds, e1, l1⟩ := cut_map V.int ns none (some 63)
  refine ⟨_, rfl, 63, rfl, a, _, rfl, hS, fun p1 n1 => ?_⟩
  rw [e1]
  have s1 : Same H (upd H p1 (.lst (ds.map V.int))) := same_new n1 _
  have h1 : upd H p1 (.lst (ds.map V.int)) p1 = some (.lst (ds.map V.int)) := upd_same
  generalize upd H p1 (.lst (ds.map V.int)) = H1 at s1 h1
  refine ⟨p1, rfl, ⟨_, SqL.of h1⟩, for_list (K := K) (a := p1) (xs := ds.map V.int) (fun i σ H' => H' = H1 ∧ ∃ (s : Int) (x2 : Option V), σ = [some (.ref a), some (.int s), x2]) ⟨rfl, 7, none, rfl⟩ (fun i σ H' _ h => ?_) ?_ ?_⟩
  · obtain ⟨rfl, _⟩ := h
    exact SqL.of h1
  · rintro i x σ H' hi ⟨rfl, s, x2, rfl⟩
    obtain ⟨m, rfl⟩ : ∃ m, x = .int m := by
      obtain ⟨m, _, rfl⟩ := List.mem_map.mp (List.mem_of_getElem? hi)
      exact ⟨m, rfl⟩
    refine ⟨_, rfl, _, _, rfl, rfl, .inr ⟨by decide, by decide⟩, _, rfl, _, _, rfl, rfl, (by show (0 : Int) < 2147483629; decide), _, _, rfl, rfl, _, _, rfl, rfl, _, _, rfl, rfl, (by show (0 : Int) < 2147483629; decide), ?_⟩
    exact ⟨rfl, _, _, rfl⟩
  · rintro σ H' ⟨rfl, s, x2, rfl⟩
    refine ⟨_, rfl, 63, rfl, a, _, rfl, s1.seq hS, fun p2 n2 => ?_⟩
    rw [e1]
    have s2 := s1.trans (same_new n2 (.lst (ds.map V.int)))
    refine ⟨p2, _, rfl, .inl (SqL.of upd_same), fun c nc => ?_⟩
    have s3 := s2.trans (same_new nc (.lst (ds.map V.int)))
    have fc : H c = none := s2.free nc
    have ec : upd (upd H' p2 (.lst (ds.map V.int))) c (.lst (ds.map V.int)) c = some (.lst (ds.map V.int)) := upd_same
    refine ⟨_, rfl, (by show 3 ≤ sizeLine; decide), fun d nd => ?_⟩
    refine q d c _ (s3.trans (same_new nd _)) (s3.free nd) fc ⟨(ne_of_none ec nd).symm, ⟨_, _, upd_same⟩, ds, kn ec nd, by omega⟩
def spTake : Sp := fun vs H Q _ => ∃ (d c : Addr) (m : Int), vs = [.ref d, .int m] ∧ Deck H d c ∧ 0 < m ∧ m < 2 ^ 64 ∧
  ∀ (r : Int) (H' : Hp), 0 ≤ r → r < m → Kp [d, c] H H' → Deck H' d c → Q (.int r) H'
theorem scDraw : FnScope ["_law_deck_here", "_law_most", "_law_number", "_law_cell"] ["_law_deck_here", "_law_most"] (defScope sDraw) := ⟨rfl, rfl, rfl, by decide +kernel, rfl, by decide +kernel, by decide +kernel⟩
theorem ok_draw {f : Addr} {fd : FuncData} (F : Fun K "_law_draw" "_law_draw" sDraw f fd) : FnOk P w K mg base CX0 2 f fd ["_law_deck_here", "_law_most"] spTake := by
  refine F.ok scDraw (fun vs H Q E h => ?_) (fun cdv A outer s H vs Q E hr h => ?_)
  · obtain ⟨d, c, m, rfl, _⟩ := h
    rfl
  obtain ⟨d, c, m, rfl, D, m0, m1, q⟩ := h
  obtain ⟨sm, k, hd⟩ := D.at_
  obtain ⟨ms, hc, hl⟩ := D.cells
  have dm : d ∈ [d, c] := List.mem_cons_self ..
  have cm : c ∈ [d, c] := List.mem_cons_of_mem _ (List.mem_singleton.mpr rfl)
  refine ⟨_, pss_cons (ps_asg (pe_op op_add (pe_ix ix_list (pv 0) pe_int (fun _ _ => rfl)) pe_int) (pg_sub (pv 0) pe_int set_list))
    (pss_cons (ps_if (pt_cmpR (op_eqNil hr.units) (pe_ix ix_list (pv 0) pe_int (fun _ _ => rfl)) (pe_lst pa_nil) (nomark _))
      (pss_cons (ps_set (i := 2) scDraw.nd rfl (.inl rfl) (pe_op op_mod (pe_op op_mul (pe_op op_add (pe_ix ix_list (pv 0) pe_int (fun _ _ => rfl)) (pe_op op_mul pe_int (pe_ix ix_list (pv 0) pe_int (fun _ _ => rfl)))) pe_int) pe_int))
      (pss_one (ps_ret (pe_op op_mod (pe_op op_mod (pe_op op_mul (pe_op op_mod (pe_op op_add (pe_op op_mul (pv 2) (pv 2)) (pe_op op_mul pe_int (pe_ix ix_list (pv 0) pe_int (fun _ _ => rfl)))) pe_int) pe_int) pe_int) (pv 1))))) pss_nil)
    (pss_cons (ps_set (i := 3) scDraw.nd rfl (.inl rfl) (pe_bm PySem.F.plainAttrs_list PySem.F.slot_list_pop PySem.F.type_list_pop mt_popAt (pe_ix ix_list (pv 0) pe_int (fun _ _ => rfl)) (pa_cons pe_int pa_nil)))
    (pss_cons (ps_if (pt_cmpR op_ge (pv 3) (pe_op op_pow pe_int pe_int) (nomark _))
      (pss_cons (ps_expr (pe_bm PySem.F.plainAttrs_list PySem.F.slot_list_insert PySem.F.type_list_insert mt_insert (pe_ix ix_list (pv 0) pe_int (fun _ _ => rfl)) (pa_cons pe_int (pa_cons (pe_op op_fdivW (pv 3) (pv 1)) pa_nil))))
      (pss_one (ps_ret (pe_op op_mod (pv 3) (pv 1))))) pss_nil)
    (pss_cons (ps_set (i := 2) scDraw.nd rfl (.inl rfl) (pe_op op_mod (pe_op op_mul (pe_op op_add (pe_op op_mod (pv 3) pe_int) (pe_op op_mul pe_int (pe_ix ix_list (pv 0) pe_int (fun _ _ => rfl)))) pe_int) pe_int))
    (pss_one (ps_ret (pe_op op_mod (pe_op op_mod (pe_op op_mul (pe_op op_mod (pe_op op_add (pe_op op_mul (pv 2) (pv 2)) (pe_op op_mul pe_int (pv 2))) pe_int) pe_int) pe_int) (pv 1)))))))), ?_⟩
  have ix : ∀ (j : Nat) (v : V) (k' : Int), [V.ref c, .int sm, .int k'][j]? = some v → atI [V.ref c, .int sm, .int k'] (j : Int) = some v := fun j v k' h => atI_nat h
  refine ⟨_, rfl, d, _, _, _, rfl, rfl, SqL.of hd, ix 2 _ k rfl, _, _, rfl, rfl, _, rfl, d, _, _, 2, rfl, rfl, hd, rfl, ?_⟩
  have hd1 : upd H d (.lst [.ref c, .int sm, .int (k + 1)]) d = some (.lst [.ref c, .int sm, .int (k + 1)]) := upd_same
  have hc1 : upd H d (.lst [.ref c, .int sm, .int (k + 1)]) c = some (.lst (ms.map V.int)) := by rw [upd_ne D.ne.symm]; exact hc
  have k1 : Kp [d, c] H (upd H d (.lst [.ref c, .int sm, .int (k + 1)])) := (Kp.refl _ H).own dm
  show tSeq _ _ _ _ (upd H d (.lst [.ref c, .int sm, .int (k + 1)]))
  generalize upd H d (.lst [.ref c, .int sm, .int (k + 1)]) = H1 at hd1 hc1 k1
  refine ⟨_, rfl, d, _, _, _, rfl, rfl, SqL.of hd1, ix 0 _ (k + 1) rfl, (by show 0 ≤ sizeLine; decide), fun p hp => ?_⟩
  have k2 : Kp [d, c] H (upd H1 p (.lst [])) := k1.new hp
  have hd2 := kn (o' := .lst []) hd1 hp
  have hc2 := kn (o' := .lst []) hc1 hp
  refine ⟨c, p, _, rfl, rfl, SqL.of hc2, SqL.of upd_same, _, rfl, ?_⟩
  generalize upd H1 p (.lst []) = H2 at hd2 hc2 k2
  have last : ∀ (x : Int), 0 ≤ x % m ∧ x % m < m := fun x => ⟨Int.emod_nonneg _ (by omega), Int.emod_lt_of_pos _ m0⟩
  have nb : ∀ x : Int, 0 ≤ x % 2147483647 ∧ x % 2147483647 < 2147483647 := fun x => ⟨Int.emod_nonneg _ (by decide), Int.emod_lt_of_pos _ (by decide)⟩
  rcases ms with _ | ⟨n, ns⟩
  · refine iteT ?_
    refine ⟨_, rfl, d, _, _, _, rfl, rfl, SqL.of hd2, ix 1 _ (k + 1) rfl, _, rfl, d, _, _, _, rfl, rfl, SqL.of hd2, ix 2 _ (k + 1) rfl, _, _, rfl, rfl, .inl ⟨by decide, by decide⟩, _, _, rfl, rfl, _, _, rfl, rfl, .inr ⟨by decide, by decide⟩, _, _, rfl, rfl, (by show (0 : Int) < 2147483647; decide), ?_⟩
    generalize e1 : ((sm + 7919 * (k + 1)) * 48271) % 2147483647 = n1
    have b1 : 0 ≤ n1 ∧ n1 < 2147483647 := by rw [← e1]; exact nb _
    refine ⟨_, rfl, _, rfl, _, _, rfl, rfl, .inl ⟨by omega, by omega⟩, _, rfl, d, _, _, _, rfl, rfl, SqL.of hd2, ix 2 _ (k + 1) rfl, _, _, rfl, rfl, .inl ⟨by decide, by decide⟩, _, _, rfl, rfl, _, _, rfl, rfl, (by show (0 : Int) < 2147483629; decide), _, _, rfl, rfl, .inr ⟨by decide, by decide⟩, _, _, rfl, rfl, (by show (0 : Int) < 2147483647; decide), _, rfl, _, _, rfl, rfl, m0, ?_⟩
    exact q _ _ (last _).1 (last _).2 k2 ⟨D.ne, ⟨_, _, hd2⟩, [], hc2, by decide⟩
  · refine iteF ?_
    rw [List.length_cons] at hl
    refine ⟨_, rfl, d, _, _, _, rfl, rfl, SqL.of hd2, ix 0 _ (k + 1) rfl, .inl ⟨rfl, _, SqL.of hc2⟩, c, _, 0, 0, _, rfl, rfl, hc2, by decide, by decide, (by unfold seqIndex?; simp), rfl, ?_⟩
    have hd3 : upd H2 c (.lst (ns.map V.int)) d = some (.lst [.ref c, .int sm, .int (k + 1)]) := by rw [upd_ne D.ne]; exact hd2
    have k3 : Kp [d, c] H (upd H2 c (.lst (ns.map V.int))) := k2.own cm
    have hc3 : upd H2 c (.lst (ns.map V.int)) c = some (.lst (ns.map V.int)) := upd_same
    show tSeq _ _ _ _ (upd H2 c (.lst (ns.map V.int)))
    generalize upd H2 c (.lst (ns.map V.int)) = H3 at hd3 k3 hc3
    refine ⟨_, rfl, _, _, rfl, rfl, ⟨by decide, by decide, by decide⟩, _, _, rfl, rfl, _, rfl, ?_⟩
    refine ite2 (fun _ => ?_) (fun _ => ?_)
    · refine ⟨_, rfl, d, _, _, _, rfl, rfl, SqL.of hd3, ix 0 _ (k + 1) rfl, .inl ⟨rfl, _, SqL.of hc3⟩, _, rfl, _, rfl, _, _, rfl, rfl, wide_div m0 (b := 64) (by omega) (by decide) (by decide), c, _, 0, _, rfl, rfl, hc3, by rw [List.length_map]; exact small1000 (by omega), by decide, by decide, ?_⟩
      refine ⟨_, rfl, _, rfl, _, _, rfl, rfl, m0, ?_⟩
      refine q _ _ (last _).1 (last _).2 (k3.own cm) ⟨D.ne, ⟨_, _, by rw [upd_ne D.ne]; exact hd3⟩, (n / m) :: ns, upd_same, ?_⟩
      rw [List.length_cons]; omega
    · refine ⟨_, rfl, _, _, rfl, rfl, (by show (0 : Int) < 2147483647; decide), _, rfl, d, _, _, _, rfl, rfl, SqL.of hd3, ix 2 _ (k + 1) rfl, _, _, rfl, rfl, .inl ⟨by decide, by decide⟩, _, _, rfl, rfl, _, _, rfl, rfl, .inr ⟨by decide, by decide⟩, _, _, rfl, rfl, (by show (0 : Int) < 2147483647; decide), ?_⟩
      generalize e1 : ((n % 2147483647 + 7919 * (k + 1)) * 48271) % 2147483647 = n1
      have b1 : 0 ≤ n1 ∧ n1 < 2147483647 := by rw [← e1]; exact nb _
      refine ⟨_, rfl, _, rfl, _, _, rfl, rfl, .inl ⟨by omega, by omega⟩, _, rfl, _, _, rfl, rfl, .inl ⟨by decide, by decide⟩, _, _, rfl, rfl, _, _, rfl, rfl, (by show (0 : Int) < 2147483629; decide), _, _, rfl, rfl, .inr ⟨by decide, by decide⟩, _, _, rfl, rfl, (by show (0 : Int) < 2147483647; decide), _, rfl, _, _, rfl, rfl, m0, ?_⟩
      exact q _ _ (last _).1 (last _).2 k3 ⟨D.ne, ⟨_, _, hd3⟩, ns, hc3, by omega⟩
end
end K15
namespace K15
open PySem PySem.W L2 SX Cm
theorem S_tl (z : Str) : S (TL.tl z) = z := by
  obtain ⟨a⟩ := z
  show (⟨a.toList.toArray⟩ : Str) = ⟨a⟩
  rw [Array.toArray_toList]
theorem tl_len {z : Str} {n : Nat} (h : Tx z n) : (TL.tl z).length ≤ n := by rw [← TL.len_tl]; exact h.len
theorem hsz {y : List Nat} (h : y.length ≤ 1000) : (S y).length ≤ sizeLine := by rw [S_len]; exact Nat.le_of_lt (small1000 h)
theorem cutS_from {a : List Nat} {i : Int} (h : 0 ≤ i) : cutS (S a) (some i) none = S (a.drop i.toNat) := by
  obtain ⟨n, rfl⟩ := Int.eq_ofNat_of_zero_le h
  unfold cutS
  rw [HT.sIx_none, HT.sIx_nat, S_len]
  show S (List.take (a.length - min n a.length) (List.drop (min n a.length) a)) = S (a.drop n)
  by_cases h : n ≤ a.length
  · rw [Nat.min_eq_left h, List.take_of_length_le (by rw [List.length_drop]; omega)]
  · rw [Nat.min_eq_right (by omega), List.drop_eq_nil_of_le (Nat.le_refl a.length), List.drop_eq_nil_of_le (show a.length ≤ n by omega), List.take_nil]
theorem decS (y z : Str) : decide (V.str y = V.str z) = decide (y = z) := by
  by_cases h : y = z
  · rw [decide_eq_true h, decide_eq_true (by rw [h])]
  · rw [decide_eq_false h, decide_eq_false (fun q => h (V.str.inj q))]
theorem decL (x y : List Nat) : decide (S x = S y) = decide (x = y) := by
  by_cases h : x = y
  · rw [decide_eq_true h, decide_eq_true (by rw [h])]
  · rw [decide_eq_false h, decide_eq_false (fun q => h (S_inj q))]
/-- the figures -/
def figs : List Nat := [48, 49, 50, 51, 52, 53, 54, 55, 56, 57]
def AZ : List Nat := [65, 66, 67, 68, 69, 70, 71, 72, 73, 74, 75, 76, 77, 78, 79, 80, 81, 82, 83, 84, 85, 86, 87, 88, 89, 90]
/-- figures, no nought ahead but in 0 itself -/
def figB (x : List Nat) : Bool := match x with
  | [] => false
  | c :: r => ((c :: r).all fun s => decide (s ∈ figs)) && (decide (c :: r = [48]) || !decide (c = 48))
/-- a letter of these, perhaps with figures behind -/
def nmB (ls : List Nat) (x : List Nat) : Bool := match x with
  | [] => false
  | c :: r => decide (c ∈ ls) && ((r.all fun s => decide (s ∈ figs)) && !decide (r.head? = some 48))
structure Ty4 (mg : Str → Option Value) : Prop where
  isi : mg "isinstance" = none
  str : mg "str" = none
  len : mg "len" = none
  tup : mg "tuple" = none
  int : mg "int" = none
  bool : mg "bool" = none
section
variable {P : Program} {w : World} {K : PySem.W.Frag} {mg : Str → Option Value} {base : Heap} {L : List Addr}
def spFig : Sp := fun vs H Q _ => ∃ x : List Nat, vs = [.str (S x)] ∧ x.length ≤ 1000 ∧ ∀ H', Same H H' → Q (.bl (figB x)) H'
theorem scFig : FnScope ["text", "sign"] ["text"] (defScope sFigures) := ⟨rfl, rfl, rfl, by decide +kernel, rfl, by decide +kernel, by decide +kernel⟩
theorem ok_fig {f : Addr} {fd : FuncData} (F : Fun K "is_figures" "is_figures" sFigures f fd) (mall : mg "all" = none) (mF : ∃ t, mg "FIGURES" = some (.str "0123456789" t)) : FnOk P w K mg base CX0 1 f fd ["text"] spFig := by
  refine F.ok scFig (fun vs H Q E h => ?_) (fun cdv A outer s H vs Q E hr h => ?_)
  · obtain ⟨x, rfl, _⟩ := h
    rfl
  obtain ⟨x, rfl, hl, q⟩ := h
  obtain ⟨tF, mF⟩ := mF
  refine ⟨_, pss_cons (ps_if (PW.pt (pw_or (pt_cmpR op_eq (pv 0) pe_str (nomark _)) (pw_or1 (pt_not (pt_val (pe_callB (cr_all rfl) (by rfl) mall PyProof.Rows.boot_all (pa_cons (pe_lc (own := [("sign", 1)]) (g := gName 1) (tt := tYes) rfl scFig.nd (pi_str (pv 0)) (blkOk_by (own := [("sign", 1)]) (N := ["text", "sign"]) (sc := defScope sFigures) (by decide +kernel))
        (fun _ _ _ _ _ => pg_name (i := 1) scFig.nd rfl (Or.inl rfl)) (fun _ _ _ _ _ => pts_nil) (fun _ _ _ _ _ => pe_cmpR op_in_sign (pv 1) (pe_glob (v := .str "0123456789") rfl mF ⟨_, rfl⟩) rfl)) pa_nil))))))) (pss_one (ps_ret pe_bl)) pss_nil)
    (pss_one (ps_ret (pe_or (pe_cmpR op_eq (pv 0) pe_str (nomark _)) (pe_one (pe_cmpR op_ne (pe_ix ix_str (pv 0) pe_int (fun _ _ => rfl)) pe_str (nomark _)))))), ?_⟩
  have e1 : ("" : Str) = S [] := by decide +kernel
  have e2 : ("0123456789" : Str) = S figs := by decide +kernel
  have e3 : ("0" : Str) = S [48] := by decide +kernel
  rw [e1, e2, e3]
  refine ⟨_, rfl, rfl, _, rfl, ?_⟩
  rw [decS, decL]
  rcases x with _ | ⟨c, r⟩
  · exact iteT (iteT (q H (Same.refl H)))
  rw [decide_eq_false (by intro z; cases z)]
  refine iteF ?_
  refine ⟨_, rfl, _, rfl, fun D hD => ?_⟩
  refine lc_txt (fun c => .bl (decide (c ∈ figs))) hl (fun c H R hc r => ⟨rfl, _, rfl, c, _, rfl, rfl, r⟩) ?_
  refine ⟨D, (c :: r).map fun c => decide (c ∈ figs), rfl, ?_, _, rfl, ?_⟩
  · rw [List.map_map]; exact SqL.of upd_same
  have sD : Same H (upd H D (.lst ((c :: r).map fun c => V.bl (decide (c ∈ figs))))) := same_new hD _
  have ea : ((c :: r).map fun c => decide (c ∈ figs)).all id = (c :: r).all fun s => decide (s ∈ figs) := by rw [List.all_map]; rfl
  rw [ea]
  have q : ∀ H', Same H H' → Q (.bl (((c :: r).all fun s => decide (s ∈ figs)) && (decide (c :: r = [48]) || !decide (c = 48)))) H' := q
  cases ha : (c :: r).all fun s => decide (s ∈ figs) with
  | false =>
    rw [ha, Bool.false_and] at q
    exact iteT (q _ sD)
  | true =>
    rw [ha, Bool.true_and] at q
    refine iteF ?_
    refine ⟨_, rfl, rfl, _, rfl, ?_⟩
    rw [decS, decL]
    cases h0 : decide (c :: r = [48]) with
    | true =>
      rw [h0, Bool.true_or] at q
      exact iteT (q _ sD)
    | false =>
      rw [h0, Bool.false_or] at q
      refine iteF ?_
      refine ⟨_, rfl, _, 0, c, rfl, rfl, hsz hl, atI_nat (j := 0) rfl, rfl, ?_⟩
      have : decide (V.str ⟨#[c]⟩ = V.str (S [48])) = decide (c = 48) := by
        rw [decS, show (⟨#[c]⟩ : Str) = S [c] from rfl, decL]
        by_cases h : c = 48
        · rw [decide_eq_true h, h]; rfl
        · rw [decide_eq_false h, decide_eq_false (fun z => h (List.head_eq_of_cons_eq z))]
      rw [this]
      exact q _ sD
/-- whether a value is a letter of these, perhaps with figures behind -/
def ltB (ls : List Nat) : PyData → Bool
  | .str z => nmB ls (TL.tl z)
  | _ => false
def spLet (K : Frag) : Sp := fun vs H Q _ => ∃ (L : List Addr) (v : V) (d : PyData) (ls : List Nat), vs = [v, .str (S ls)] ∧ Bt K L H v d ∧ ∀ H', Same H H' → Q (.bl (ltB ls d)) H'
theorem scLet : FnScope ["thing", "letters", "figures"] ["thing", "letters"] (defScope sLettered) := ⟨rfl, rfl, rfl, by decide +kernel, rfl, by decide +kernel, by decide +kernel⟩
theorem ok_let {f g : Addr} {fd gd : FuncData} (F : Fun K "is_lettered" "is_lettered" sLettered f fd) (T : Ty4 mg) (G : FnOk P w K mg base CX0 1 g gd ["text"] spFig) (bG : L2.Binds K gd ["text"] []) (kG : keepIn K (.ref g) = true) (mG : mg "is_figures" = some (.ref g)) : FnOk P w K mg base CX0 2 f fd ["thing", "letters"] (spLet K) := by
  refine F.ok scLet (fun vs H Q E h => ?_) (fun cdv A outer s H vs Q E hr h => ?_)
  · obtain ⟨L, v, d, ls, rfl, _⟩ := h
    rfl
  obtain ⟨L, v, d, ls, rfl, hv, q⟩ := h
  refine ⟨_, pss_cons (ps_if (PW.pt (pw_or (pt_not (pt_val (pe_callB call_isi (by rfl) T.isi PyProof.Rows.boot_isinstance (pa_cons (pv 0) (pa_cons (pe_bltn (v := .ty "str") (by rfl) T.str (by decide +kernel) rfl) pa_nil))))) (pw_or (pt_cmpR op_eq (pv 0) pe_str (nomark _)) (pw_or1 (pt_cmpR op_notIn_sign (pe_ix ix_str (pv 0) pe_int (fun _ _ => rfl)) (pv 1) rfl))))) (pss_one (ps_ret pe_bl)) pss_nil)
    (pss_cons (ps_set (i := 2) scLet.nd rfl (.inl rfl) (pe_slice sl_str (pv 0) (po_some pe_int) po_none))
    (pss_one (ps_ret (pe_or (pe_cmpR op_eq (pv 2) pe_str (nomark _)) (pe_one (pe_and (pe_call G hr rfl mG kG bG .nil pass0 (pa_cons (pv 2) pa_nil)) (pe_one (pe_cmpR op_ne (pv 2) pe_str (nomark _))))))))), ?_⟩
  have e1 : ("" : Str) = S [] := by decide +kernel
  have e3 : ("0" : Str) = S [48] := by decide +kernel
  rw [e1, e3]
  obtain ⟨ty, ht, _, h2, _⟩ := hv.ty
  refine ⟨_, rfl, _, _, _, _, _, rfl, .ty _, ht, h2, _, rfl, ?_⟩
  cases hk : kStrB d with
  | false =>
    have : ltB ls d = false := by cases d <;> first | rfl | cases hk
    rw [this] at q
    exact iteT (iteT (q H (Same.refl H)))
  | true =>
  refine iteF ?_
  obtain ⟨z, rfl⟩ := kStrB_of hk
  cases hv with
  | str hz =>
  have q : ∀ H', Same H H' → Q (.bl (nmB ls (TL.tl z))) H' := q
  have hl : (TL.tl z).length ≤ 1000 := Nat.le_trans (tl_len hz) (by decide)
  rw [← S_tl z]
  generalize TL.tl z = x at q hl
  refine ⟨_, rfl, rfl, _, rfl, ?_⟩
  rw [decS, decL]
  rcases x with _ | ⟨c, r⟩
  · exact iteT (iteT (q H (Same.refl H)))
  rw [decide_eq_false (by intro z; cases z)]
  refine iteF ?_
  have q : ∀ H', Same H H' → Q (.bl (decide (c ∈ ls) && ((r.all fun s => decide (s ∈ figs)) && !decide (r.head? = some 48)))) H' := q
  refine ⟨_, rfl, _, 0, c, rfl, rfl, hsz hl, atI_nat (j := 0) rfl, _, rfl, c, _, rfl, rfl, _, rfl, ?_⟩
  show if (!decide (c ∈ ls)) = true then _ else _
  cases hc : decide (c ∈ ls) with
  | false =>
    rw [hc, Bool.false_and] at q
    exact iteT (q H (Same.refl H))
  | true =>
  rw [hc, Bool.true_and] at q
  refine iteF ?_
  refine ⟨_, rfl, _, rfl, _, rfl, hsz hl, ?_⟩
  rw [cutS_from (by decide)]
  refine ⟨_, rfl, rfl, _, rfl, ?_⟩
  rw [decS, decL]
  show if decide (r = []) = true then _ else _
  rw [List.length_cons] at hl
  rcases r with _ | ⟨c2, r2⟩
  · exact iteT (q H (Same.refl H))
  rw [decide_eq_false (by intro z; cases z)]
  refine iteF ?_
  refine ⟨_, rfl, c2 :: r2, rfl, by omega, fun H1 s1 => ⟨_, rfl, ?_⟩⟩
  show if (((c2 :: r2).all fun s => decide (s ∈ figs)) && (decide (c2 :: r2 = [48]) || !decide (c2 = 48))) = true then _ else _
  have eh : decide ((c2 :: r2).head? = some 48) = decide (c2 = 48) := by
    by_cases h : c2 = 48
    · rw [decide_eq_true h, h]; rfl
    · rw [decide_eq_false h]; exact decide_eq_false (fun z => h (Option.some.inj z))
  rw [eh] at q
  cases ha : (c2 :: r2).all fun s => decide (s ∈ figs) with
  | false =>
    rw [ha, Bool.false_and] at q
    exact iteF (q H1 s1)
  | true =>
  rw [ha, Bool.true_and] at q
  by_cases h0 : c2 :: r2 = [48]
  · have c48 : c2 = 48 := List.head_eq_of_cons_eq h0
    rw [decide_eq_true c48] at q
    rw [decide_eq_true h0]
    refine iteT ⟨_, rfl, rfl, ?_⟩
    rw [decS, decL]
    show Q (.bl (!decide (c2 :: r2 = [48]))) H1
    rw [decide_eq_true h0]
    exact q H1 s1
  · rw [decide_eq_false h0, Bool.false_or, Bool.true_and]
    cases h4 : decide (c2 = 48) with
    | true =>
      rw [h4] at q
      exact iteF (q H1 s1)
    | false =>
      rw [h4] at q
      refine iteT ⟨_, rfl, rfl, ?_⟩
      rw [decS, decL]
      show Q (.bl (!decide (c2 :: r2 = [48]))) H1
      rw [decide_eq_false h0]
      exact q H1 s1
end
end K15
namespace K15
open PySem PySem.W L2 SX Cm
mutual
/-- no dict within -/
def noD : PyData → Bool
  | .dict _ => false
  | .tuple ds => noDs ds
  | _ => true
def noDs : List PyData → Bool
  | [] => true
  | d :: r => noD d && noDs r
end
theorem noDs_mem {d : PyData} : ∀ {ds : List PyData}, noDs ds = true → d ∈ ds → noD d = true
  | a :: r, h, m => by
    have h' : (noD a && noDs r) = true := h
    rw [Bool.and_eq_true] at h'
    rcases List.mem_cons.mp m with rfl | m
    · exact h'.1
    · exact noDs_mem h'.2 m
theorem noD_dict {d : PyData} (h : noD d = true) : ∀ kvs, d ≠ .dict kvs := fun kvs e => by subst e; cases h
/-- the three sorts -/
inductive So | kd | st | rw
def So.s : So → Str
  | .kd => "kind"
  | .st => "stack"
  | .rw => "row"
def askR : List PyData → Option (List (So × PyData))
  | [a, b] => some [(.st, a), (.st, b)]
  | _ => none
def askK1 (m : Str) (held : List PyData) : Option (List (So × PyData)) :=
  if m = "number" then (if held = [] then some [] else none)
  else if m = "open" then (match held with | [x] => if ltB az x = true then some [] else none | _ => none)
  else if m = "list" then (match held with | [x] => some [(.kd, x)] | _ => none)
  else if m = "row" then askR held else none
def askK : PyData → Option (List (So × PyData))
  | .tuple (.str m :: held) => askK1 m held
  | _ => none
def askS : PyData → Option (List (So × PyData))
  | .tuple [.str r, .tuple ks] => if (decide (r = "") || nmB AZ (TL.tl r)) = true then some (ks.map fun k => (.kd, k)) else none
  | _ => none
def askRow : PyData → Option (List (So × PyData))
  | .tuple ds => askR ds
  | _ => none
def ask : So → PyData → Option (List (So × PyData))
  | .kd, d => askK d
  | .st, d => askS d
  | .rw, d => askRow d
def wsz (l : List (So × PyData)) : Nat := szs (l.map (·.2))
theorem askR_lt {ds : List PyData} {l : List (So × PyData)} (h : askR ds = some l) : wsz l = szs ds := by
  unfold askR at h
  split at h
  · cases h; rfl
  · cases h
theorem ask_lt {s : So} {d : PyData} {l : List (So × PyData)} (h : ask s d = some l) : wsz l < sz d := by
  have zero : wsz [] = 0 := rfl
  have one : ∀ (s : So) (x : PyData), wsz [(s, x)] = sz x + 0 := fun s x => rfl
  cases s with
  | kd =>
    change askK d = some l at h
    unfold askK at h
    split at h
    · rename_i m held
      have e : sz (.tuple (.str m :: held)) = 1 + (1 + szs held) := by rw [sz_tuple]; rfl
      rw [e]
      unfold askK1 at h
      split at h
      · split at h
        · cases h; omega
        · cases h
      · split at h
        · split at h
          · split at h
            · cases h; omega
            · cases h
          · cases h
        · split at h
          · split at h
            · rename_i x
              cases h
              rw [one]
              show _ < 1 + (1 + (sz x + 0))
              omega
            · cases h
          · split at h
            · rw [askR_lt h]; omega
            · cases h
    · cases h
  | st =>
    change askS d = some l at h
    unfold askS at h
    split at h
    · rename_i r ks
      split at h
      · cases h
        have e : sz (.tuple [.str r, .tuple ks]) = 1 + (1 + (1 + szs ks + 0)) := by rw [sz_tuple]; show 1 + (1 + (sz (.tuple ks) + 0)) = _; rw [sz_tuple]
        rw [e]; unfold wsz; rw [List.map_map]
        show szs (ks.map id) < _
        rw [List.map_id]; omega
      · cases h
    · cases h
  | rw =>
    change askRow d = some l at h
    unfold askRow at h
    split at h
    · rw [askR_lt h, sz_tuple]; omega
    · cases h
def okF : Nat → So → PyData → Bool
  | 0, _, _ => false
  | n + 1, s, d => match ask s d with
    | none => false
    | some l => l.all fun p => okF n p.1 p.2
theorem okF_any : ∀ (n m : Nat) (s : So) (d : PyData), sz d ≤ n → sz d ≤ m → okF n s d = okF m s d
  | 0, _, _, d, h, _ => absurd h (by have := sz_pos d; omega)
  | _, 0, _, d, _, h => absurd h (by have := sz_pos d; omega)
  | n + 1, m + 1, s, d, h1, h2 => by
    show (match ask s d with | none => false | some l => l.all fun p => okF n p.1 p.2) = (match ask s d with | none => false | some l => l.all fun p => okF m p.1 p.2)
    cases hA : ask s d with
    | none => rfl
    | some l =>
      have hl := ask_lt hA
      show (l.all fun p => okF n p.1 p.2) = (l.all fun p => okF m p.1 p.2)
      have e : ∀ (l : List (So × PyData)), wsz l < sz d → (l.all fun p => okF n p.1 p.2) = (l.all fun p => okF m p.1 p.2) := by
        intro l
        induction l with
        | nil => intro _; rfl
        | cons a r ih =>
          intro h
          have h' : sz a.2 + wsz r < sz d := h
          rw [List.all_cons, List.all_cons, ih (by omega), okF_any n m a.1 a.2 (by omega) (by omega)]
      exact e l hl
/-- whether anything is of a sort -/
def ok (s : So) (d : PyData) : Bool := okF (sz d) s d
theorem ok_eq (s : So) (d : PyData) : ok s d = (match ask s d with | none => false | some l => l.all fun p => ok p.1 p.2) := by
  unfold ok
  obtain ⟨n, hn⟩ : ∃ n, sz d = n + 1 := ⟨sz d - 1, by have := sz_pos d; omega⟩
  rw [hn]
  show (match ask s d with | none => false | some l => l.all fun p => okF n p.1 p.2) = _
  cases hA : ask s d with
  | none => rfl
  | some l =>
    have hl := ask_lt hA
    show (l.all fun p => okF n p.1 p.2) = (l.all fun p => okF (sz p.2) p.1 p.2)
    have e : ∀ (l : List (So × PyData)), wsz l < sz d → (l.all fun p => okF n p.1 p.2) = (l.all fun p => okF (sz p.2) p.1 p.2) := by
      intro l
      induction l with
      | nil => intro _; rfl
      | cons a r ih =>
        intro h
        have h' : sz a.2 + wsz r < sz d := h
        rw [List.all_cons, List.all_cons, ih (by omega), okF_any n (sz a.2) a.1 a.2 (by omega) (Nat.le_refl _)]
    exact e l hl
theorem ok_none {s : So} {d : PyData} (h : ask s d = none) : ok s d = false := by rw [ok_eq, h]
theorem ok_some {s : So} {d : PyData} {l : List (So × PyData)} (h : ask s d = some l) : ok s d = l.all fun p => ok p.1 p.2 := by rw [ok_eq, h]
/-- what waits in has_form: the pairs stand in H, what they hold stood in H0 -/
inductive Wt (K : Frag) (L : List Addr) (H0 H : Hp) : List V → List (So × PyData) → Prop
  | nil : Wt K L H0 H [] []
  | cons {a : Addr} {u : V} {vs : List V} {s : So} {d : PyData} {l : List (So × PyData)} : SqT K H a [.str s.s, u] → Bt K L H0 u d → Wt K L H0 H vs l → Wt K L H0 H (.ref a :: vs) ((s, d) :: l)
theorem Wt.mono {K : Frag} {L : List Addr} {H0 H H' : Hp} (k : TKs K H H') {vs : List V} {l : List (So × PyData)} (h : Wt K L H0 H vs l) : Wt K L H0 H' vs l := by
  induction h with
  | nil => exact .nil
  | cons h1 h2 _ ih => exact .cons (k _ _ h1) h2 ih
theorem Wt.append {K : Frag} {L : List Addr} {H0 H : Hp} {vs vs' : List V} {l l' : List (So × PyData)} (h : Wt K L H0 H vs l) (h' : Wt K L H0 H vs' l') : Wt K L H0 H (vs ++ vs') (l ++ l') := by
  induction h with
  | nil => exact h'
  | cons h1 h2 _ ih => exact .cons h1 h2 ih
theorem Wt.len {K : Frag} {L : List Addr} {H0 H : Hp} {vs : List V} {l : List (So × PyData)} (h : Wt K L H0 H vs l) : vs.length = l.length := by
  induction h with
  | nil => rfl
  | cons _ _ _ ih => exact congrArg (· + 1) ih
theorem Wt.snoc {K : Frag} {L : List Addr} {H0 H : Hp} {x : V} : ∀ {v : List V} {l : List (So × PyData)}, Wt K L H0 H (v ++ [x]) l → ∃ l' a s d u, l = l' ++ [(s, d)] ∧ Wt K L H0 H v l' ∧ x = .ref a ∧ SqT K H a [.str s.s, u] ∧ Bt K L H0 u d
  | [], l, h => by
    cases h with
    | cons h1 h2 t => cases t; exact ⟨[], _, _, _, _, rfl, .nil, rfl, h1, h2⟩
  | y :: r, l, h => by
    cases h with
    | cons h1 h2 t =>
      obtain ⟨l', a, s, d, u, rfl, g1, g2, g3, g4⟩ := Wt.snoc t
      exact ⟨_ :: l', a, s, d, u, rfl, .cons h1 h2 g1, g2, g3, g4⟩
theorem wsz_append (a b : List (So × PyData)) : wsz (a ++ b) = wsz a + wsz b := by unfold wsz; rw [List.map_append, szs_append]
theorem wsz_len (l : List (So × PyData)) : l.length ≤ wsz l := by
  have := szs_len (l.map (·.2)); rw [List.length_map] at this; exact this
end K15
namespace K15
open PySem PySem.W L2 SX Cm
def markB : PyData → Bool
  | .tuple (.str _ :: _) => true
  | _ => false
theorem markB_of {d : PyData} (h : markB d = true) : ∃ z ds, d = .tuple (.str z :: ds) := by
  unfold markB at h
  split at h
  · exact ⟨_, _, rfl⟩
  · cases h
/-- a value whose tuple stands in H, its parts in H0 -/
def Top (K : Frag) (L : List Addr) (H0 H : Hp) (v : V) (d : PyData) : Prop := (∃ a xs ds, v = .ref a ∧ d = .tuple ds ∧ SqT K H a xs ∧ BtAll K L H0 xs ds) ∨ (kTupB d = false ∧ Bt K L H0 v d)
theorem Top.of {K : Frag} {L : List Addr} {H0 H : Hp} {v : V} {d : PyData} (s : Same H0 H) (h : Bt K L H0 v d) : Top K L H0 H v d := by
  cases hT : kTupB d with
  | false => exact .inr ⟨hT, h⟩
  | true =>
    obtain ⟨ds, rfl⟩ := kTupB_of hT
    obtain ⟨a, xs, rfl, ha, hx⟩ := h.tupD
    exact .inl ⟨a, xs, ds, rfl, rfl, TKs.of s _ _ ha, hx⟩
theorem Top.bt {K : Frag} {L : List Addr} {H0 H : Hp} {v : V} {d : PyData} (s : Same H0 H) (h : Top K L H0 H v d) : Bt K L H v d := by
  rcases h with ⟨a, xs, ds, rfl, rfl, ha, hx⟩ | ⟨_, h⟩
  · exact .tup ha (hx.mono (.of s))
  · exact h.mono (.of s)
section
variable {P : Program} {w : World} {K : PySem.W.Frag} {mg : Str → Option Value} {base : Heap} {L : List Addr}
/-- f of any value -/
def spB (K : Frag) (L : List Addr) (f : PyData → Bool) : Sp := fun vs H Q _ => ∃ (v : V) (d : PyData), vs = [v] ∧ Bt K L H v d ∧ Q (.bl (f d)) H
theorem scMarked : FnScope ["thing"] ["thing"] (defScope sMarked) := ⟨rfl, rfl, rfl, by decide +kernel, rfl, by decide +kernel, by decide +kernel⟩
theorem ok_marked {f : Addr} {fd : FuncData} (F : Fun K "is_marked" "is_marked" sMarked f fd) (T : Ty4 mg) : FnOk P w K mg base CX0 1 f fd ["thing"] (spB K L markB) := by
  refine F.ok scMarked (fun vs H Q E h => ?_) (fun cdv A outer s H vs Q E hr h => ?_)
  · obtain ⟨v, d, rfl, _⟩ := h
    rfl
  obtain ⟨v, d, rfl, hv, q⟩ := h
  refine ⟨_, pss_one (ps_ret (pe_and (pe_callB call_isi (by rfl) T.isi PyProof.Rows.boot_isinstance (pa_cons (pv 0) (pa_cons (pe_bltn (v := .ty "tuple") (by rfl) T.tup (by decide +kernel) rfl) pa_nil)))
    (pe_and (pe_cmpR op_gt (pe_callB call_len_seq (by rfl) T.len PySem.boot_len (pa_cons (pv 0) pa_nil)) pe_int (nomark _))
    (pe_one (pe_callB call_isi (by rfl) T.isi PyProof.Rows.boot_isinstance (pa_cons (pe_ix ix_tup (pv 0) pe_int (fun _ _ => rfl)) (pa_cons (pe_bltn (v := .ty "str") (by rfl) T.str (by decide +kernel) rfl) pa_nil))))))), ?_⟩
  obtain ⟨t, ht, h1, _⟩ := hv.ty
  refine ⟨_, rfl, _, _, _, _, _, rfl, .ty _, ht, h1, _, rfl, ?_⟩
  cases hk : kTupB d with
  | false =>
    have : markB d = false := by
      cases hm : markB d with
      | false => rfl
      | true => obtain ⟨z, ds, rfl⟩ := markB_of hm; cases hk
    rw [this] at q
    exact iteF q
  | true =>
    refine iteT ?_
    obtain ⟨ds, rfl⟩ := kTupB_of hk
    obtain ⟨a, xs, rfl, ha, hx⟩ := hv.tupD
    refine ⟨_, rfl, a, xs, rfl, .inr ha, _, _, rfl, rfl, _, rfl, ?_⟩
    cases hx with
    | nil => exact iteF q
    | @cons u us e es h t =>
      refine ite2 (fun _ => ?_) (fun z => absurd (decide_eq_true (show (0 : Int) < (((u :: us).length : Nat) : Int) by rw [List.length_cons]; omega)) z)
      obtain ⟨ty, hty, _, h2, _⟩ := h.ty
      have e2 : markB (.tuple (e :: es)) = kStrB e := by cases e <;> rfl
      rw [e2] at q
      exact ⟨_, rfl, a, _, 0, _, rfl, rfl, ha, atI_nat (j := 0) rfl, _, _, _, _, _, rfl, .ty _, hty, h2, q⟩
def spOpen (K : Frag) (ls : List Nat) : Sp := fun vs H Q _ => ∃ (L : List Addr) (v : V) (d : PyData), vs = [v] ∧ Bt K L H v d ∧ ∀ H', Same H H' → Q (.bl (ltB ls d)) H'
theorem scOpT : FnScope ["thing"] ["thing"] (defScope sOpThing) := ⟨rfl, rfl, rfl, by decide +kernel, rfl, by decide +kernel, by decide +kernel⟩
theorem scOpR : FnScope ["thing"] ["thing"] (defScope sOpRest) := ⟨rfl, rfl, rfl, by decide +kernel, rfl, by decide +kernel, by decide +kernel⟩
theorem ok_opT {f g : Addr} {fd gd : FuncData} (F : Fun K "is_open_thing" "is_open_thing" sOpThing f fd) (mS : ∃ t, mg "SMALL_LETTERS" = some (.str "abcdefghijklmnopqrstuvwxyz" t)) (G : FnOk P w K mg base CX0 2 g gd ["thing", "letters"] (spLet K)) (bG : L2.Binds K gd ["thing", "letters"] []) (kG : keepIn K (.ref g) = true) (mG : mg "is_lettered" = some (.ref g)) : FnOk P w K mg base CX0 3 f fd ["thing"] (spOpen K az) := by
  refine F.ok scOpT (fun vs H Q E h => ?_) (fun cdv A outer s H vs Q E hr h => ?_)
  · obtain ⟨L, v, d, rfl, _⟩ := h
    rfl
  obtain ⟨L, v, d, rfl, hv, q⟩ := h
  obtain ⟨t, mS⟩ := mS
  refine ⟨_, pss_one (ps_ret (pe_call G hr rfl mG kG bG .nil pass0 (pa_cons (pv 0) (pa_cons (pe_glob (v := .str "abcdefghijklmnopqrstuvwxyz") rfl mS ⟨_, rfl⟩) pa_nil)))), ?_⟩
  have e : ("abcdefghijklmnopqrstuvwxyz" : Str) = S az := by decide +kernel
  rw [e]
  exact ⟨_, rfl, L, v, d, az, rfl, hv, q⟩
theorem ok_opR {f g : Addr} {fd gd : FuncData} (F : Fun K "is_open_rest" "is_open_rest" sOpRest f fd) (mS : ∃ t, mg "GREAT_LETTERS" = some (.str "ABCDEFGHIJKLMNOPQRSTUVWXYZ" t)) (G : FnOk P w K mg base CX0 2 g gd ["thing", "letters"] (spLet K)) (bG : L2.Binds K gd ["thing", "letters"] []) (kG : keepIn K (.ref g) = true) (mG : mg "is_lettered" = some (.ref g)) : FnOk P w K mg base CX0 3 f fd ["thing"] (spOpen K AZ) := by
  refine F.ok scOpR (fun vs H Q E h => ?_) (fun cdv A outer s H vs Q E hr h => ?_)
  · obtain ⟨L, v, d, rfl, _⟩ := h
    rfl
  obtain ⟨L, v, d, rfl, hv, q⟩ := h
  obtain ⟨t, mS⟩ := mS
  refine ⟨_, pss_one (ps_ret (pe_call G hr rfl mG kG bG .nil pass0 (pa_cons (pv 0) (pa_cons (pe_glob (v := .str "ABCDEFGHIJKLMNOPQRSTUVWXYZ") rfl mS ⟨_, rfl⟩) pa_nil)))), ?_⟩
  have e : ("ABCDEFGHIJKLMNOPQRSTUVWXYZ" : Str) = S AZ := by decide +kernel
  rw [e]
  exact ⟨_, rfl, L, v, d, AZ, rfl, hv, q⟩
/-- what a value is asked for -/
def spAskX (K : Frag) (L : List Addr) (g : PyData → Option (List (So × PyData))) : Sp := fun vs H Q _ => ∃ (v : V) (d : PyData) (H0 : Hp), vs = [v] ∧ Same H0 H ∧ Top K L H0 H v d ∧ sz d ≤ 900000 ∧ (g d = none → ∀ H', Same H H' → Q .non H') ∧
  (∀ l, g d = some l → ∀ (p : Addr) (us : List V) (H' : Hp), Same H H' → H p = none → H' p = some (.lst us) → Wt K L H0 H' us l → Q (.ref p) H')
theorem scAskR : FnScope ["part"] ["part"] (defScope sAskedRow) := ⟨rfl, rfl, rfl, by decide +kernel, rfl, by decide +kernel, by decide +kernel⟩
theorem ok_askR {f : Addr} {fd : FuncData} (F : Fun K "asked_of_row" "asked_of_row" sAskedRow f fd) (T : Ty4 mg) : FnOk P w K mg base CX0 1 f fd ["part"] (spAskX K L askRow) := by
  refine F.ok scAskR (fun vs H Q E h => ?_) (fun cdv A outer s H vs Q E hr h => ?_)
  · obtain ⟨v, d, H0, rfl, _⟩ := h
    rfl
  obtain ⟨v, d, H0, rfl, s0, hv, hz, q0, q1⟩ := h
  refine ⟨_, pss_cons (ps_if (PW.pt (pw_or (pt_not (pt_val (pe_callB call_isi (by rfl) T.isi PyProof.Rows.boot_isinstance (pa_cons (pv 0) (pa_cons (pe_bltn (v := .ty "tuple") (by rfl) T.tup (by decide +kernel) rfl) pa_nil))))) (pw_or1 (pt_cmpR op_ne (pe_callB call_len_seq (by rfl) T.len PySem.boot_len (pa_cons (pv 0) pa_nil)) pe_int (nomark _))))) (pss_one (ps_ret pe_non)) pss_nil)
    (pss_one (ps_ret (pe_lst (pa_cons (pe_tup (pa_cons pe_str (pa_cons (pe_ix ix_tup (pv 0) pe_int (fun _ _ => rfl)) pa_nil))) (pa_cons (pe_tup (pa_cons pe_str (pa_cons (pe_ix ix_tup (pv 0) pe_int (fun _ _ => rfl)) pa_nil))) pa_nil))))), ?_⟩
  obtain ⟨ty, ht, h1, _⟩ := (hv.bt s0).ty
  refine ⟨_, rfl, _, _, _, _, _, rfl, .ty _, ht, h1, _, rfl, ?_⟩
  rcases hv with ⟨a, xs, ds, rfl, rfl, ha, hx⟩ | ⟨hT, _⟩
  rotate_left
  · rw [hT]
    refine iteT (iteT (q0 ?_ H (Same.refl H)))
    cases d <;> first | rfl | cases hT
  have lx := hx.len
  refine iteF ?_
  refine ⟨_, rfl, a, xs, rfl, .inr ha, rfl, _, rfl, ?_⟩
  have other : ds.length ≠ 2 → (!decide (V.int (xs.length : Int) = V.int 2)) = true ∧ askRow (.tuple ds) = none := fun h => by
    refine ⟨by rw [lx, decide_eq_false (fun z => h (by have := V.int.inj z; omega))]; rfl, ?_⟩
    show askR ds = none
    unfold askR
    split
    · exact absurd rfl h
    · rfl
  by_cases h2 : ds.length = 2
  · rw [lx, h2]
    refine iteF ?_
    rcases ds with _ | ⟨d1, _ | ⟨d2, _ | ⟨d3, r⟩⟩⟩
    · cases h2
    · cases h2
    · cases hx with
      | @cons u1 _ _ _ hu1 hx =>
      cases hx with
      | @cons u2 _ _ _ hu2 hx =>
      cases hx
      refine ⟨_, rfl, a, _, 0, _, rfl, rfl, ha, atI_nat (j := 0) rfl, (by show 2 ≤ sizeLine; decide), fun t1 n1 => ?_⟩
      have s1 : Same H (upd H t1 (.tup [.str "stack", u1])) := same_new n1 _
      have k1 : SqT K (upd H t1 (.tup [.str "stack", u1])) t1 [.str "stack", u1] := SqT.of upd_same
      generalize upd H t1 (.tup [.str "stack", u1]) = H1 at s1 k1
      refine ⟨_, rfl, a, _, 1, _, rfl, rfl, TKs.of s1 _ _ ha, atI_nat (j := 1) rfl, (by show 2 ≤ sizeLine; decide), fun t2 n2 => ?_⟩
      have s2 : Same H1 (upd H1 t2 (.tup [.str "stack", u2])) := same_new n2 _
      have k2 : SqT K (upd H1 t2 (.tup [.str "stack", u2])) t2 [.str "stack", u2] := SqT.of upd_same
      generalize upd H1 t2 (.tup [.str "stack", u2]) = H2 at s2 k2
      refine ⟨(by show 2 ≤ sizeLine; decide), fun p np => ?_⟩
      have s3 := same_new np (.lst [.ref t1, .ref t2])
      exact q1 _ rfl p _ _ ((s1.trans s2).trans s3) ((s1.trans s2).free np) upd_same (.cons (TKs.of (s2.trans s3) _ _ k1) hu1 (.cons (TKs.of s3 _ _ k2) hu2 .nil))
    · simp only [List.length_cons] at h2; omega
  · obtain ⟨e1, e2⟩ := other h2
    rw [e1]
    exact iteT (q0 e2 H (Same.refl H))
end
end K15
namespace K15
open PySem PySem.W L2 SX Cm
theorem slFrom {K : Frag} {H : Hp} {a : Addr} {xs : List V} {i : Nat} {Q : VK} {σ : St} (ha : SqT K H a xs) (q : ∀ p H', Same H H' → SqT K H' p (xs.drop i) → Q (.ref p) H') : tNoPart σ H fun u H3 => rSlA K (.ref a) (some (i : Int)) u H3 Q :=
  slT_fromP (f := fun v : V => v) (xs := xs) (by rw [List.map_id']; exact ha) (fun p H' s h => q p H' s (by rw [List.map_id'] at h; exact h))
section
variable {P : Program} {w : World} {K : PySem.W.Frag} {mg : Str → Option Value} {base : Heap} {L : List Addr}
theorem scAskK : FnScope ["part", "mark", "held"] ["part"] (defScope sAskedKind) := ⟨rfl, rfl, rfl, by decide +kernel, rfl, by decide +kernel, by decide +kernel⟩
theorem ok_askK {f gm go gr : Addr} {fd gmd god grd : FuncData} (F : Fun K "asked_of_kind" "asked_of_kind" sAskedKind f fd) (T : Ty4 mg) (M : FnOk P w K mg base CX0 1 gm gmd ["thing"] (spB K L markB)) (bM : L2.Binds K gmd ["thing"] []) (kM : keepIn K (.ref gm) = true) (mM : mg "is_marked" = some (.ref gm))
    (O : FnOk P w K mg base CX0 3 go god ["thing"] (spOpen K az)) (bO : L2.Binds K god ["thing"] []) (kO : keepIn K (.ref go) = true) (mO : mg "is_open_thing" = some (.ref go))
    (R : FnOk P w K mg base CX0 1 gr grd ["part"] (spAskX K L askRow)) (bR : L2.Binds K grd ["part"] []) (kR : keepIn K (.ref gr) = true) (mR : mg "asked_of_row" = some (.ref gr)) : FnOk P w K mg base CX0 4 f fd ["part"] (spAskX K L askK) := by
  refine F.ok scAskK (fun vs H Q E h => ?_) (fun cdv A outer s H vs Q E hr h => ?_)
  · obtain ⟨v, d, H0, rfl, _⟩ := h
    rfl
  obtain ⟨v, d, H0, rfl, s0, hv, hz, q0, q1⟩ := h
  have hr1 := hr.mono (j := 1) (by decide)
  refine ⟨_, pss_cons (ps_if (pt_not (pt_val (pe_call M hr1 rfl mM kM bM .nil pass0 (pa_cons (pv 0) pa_nil)))) (pss_one (ps_ret pe_non)) pss_nil)
    (pss_cons (ps_par (i := 1) (j := 2) (by rfl) scAskK.nd rfl rfl (by decide) rfl rfl (pa_cons (pe_ix ix_tup (pv 0) pe_int (fun _ _ => rfl)) (pa_cons (pe_slice sl_tupA (pv 0) (po_some pe_int) po_none) pa_nil)) (by rfl))
    (pss_cons (ps_if (PW.pt (pw_and (pt_cmpR op_eq (pv 1) pe_str (nomark _)) (pw_and1 (pt_cmpR op_eq (pe_callB call_len_seq (by rfl) T.len PySem.boot_len (pa_cons (pv 2) pa_nil)) pe_int (nomark _))))) (pss_one (ps_ret (pe_lst pa_nil))) pss_nil)
    (pss_cons (ps_if (PW.pt (pw_and (pt_cmpR op_eq (pv 1) pe_str (nomark _)) (pw_and (pt_cmpR op_eq (pe_callB call_len_seq (by rfl) T.len PySem.boot_len (pa_cons (pv 2) pa_nil)) pe_int (nomark _)) (pw_and1 (pt_val (pe_call O hr rfl mO kO bO .nil pass0 (pa_cons (pe_ix ix_tup (pv 2) pe_int (fun _ _ => rfl)) pa_nil))))))) (pss_one (ps_ret (pe_lst pa_nil))) pss_nil)
    (pss_cons (ps_if (PW.pt (pw_and (pt_cmpR op_eq (pv 1) pe_str (nomark _)) (pw_and1 (pt_cmpR op_eq (pe_callB call_len_seq (by rfl) T.len PySem.boot_len (pa_cons (pv 2) pa_nil)) pe_int (nomark _))))) (pss_one (ps_ret (pe_lst (pa_cons (pe_tup (pa_cons pe_str (pa_cons (pe_ix ix_tup (pv 2) pe_int (fun _ _ => rfl)) pa_nil))) pa_nil)))) pss_nil)
    (pss_cons (ps_if (pt_cmpR op_eq (pv 1) pe_str (nomark _)) (pss_one (ps_ret (pe_call R hr1 rfl mR kR bR .nil pass0 (pa_cons (pv 2) pa_nil)))) pss_nil)
    (pss_one (ps_ret pe_non))))))), ?_⟩
  refine ⟨_, rfl, v, d, rfl, hv.bt s0, _, rfl, ?_⟩
  cases hm : markB d with
  | false =>
    have : askK d = none := by
      unfold askK
      split
      · cases hm
      · rfl
    exact iteT (q0 this H (Same.refl H))
  | true =>
  refine iteF ?_
  obtain ⟨m, ds, rfl⟩ := markB_of hm
  rcases hv with ⟨a, xs, ds', rfl, e, ha, hx⟩ | ⟨hT, _⟩
  rotate_left
  · cases hT
  cases e
  cases hx with
  | @cons u ys _ _ hu hy =>
  cases hu
  have ly := hy.len
  refine ⟨_, rfl, a, _, 0, _, rfl, rfl, ha, atI_nat (j := 0) rfl, _, rfl, _, rfl, slFrom (i := 1) (xs := .str m :: ys) ha fun b H1 s1 hb => ?_⟩
  refine ⟨_, _, rfl, ?_⟩
  have hb : SqT K H1 b ys := hb
  have eask : askK (.tuple (.str m :: ds)) = askK1 m ds := rfl
  rw [eask] at q0 q1
  unfold askK1 at q0 q1
  have len1 : ∀ k : Nat, decide (V.int (ys.length : Int) = V.int (k : Int)) = decide (ds.length = k) := fun k => by
    rw [ly]
    by_cases h : ds.length = k
    · rw [decide_eq_true h, h, decide_eq_true rfl]
    · rw [decide_eq_false h, decide_eq_false (fun z => h (by have := V.int.inj z; omega))]
  have emp : ∀ (H3 : Hp), Same H1 H3 → (∀ (p : Addr) (us : List V) (H' : Hp), Same H H' → H p = none → H' p = some (.lst us) → Wt K L H0 H' us [] → Q (.ref p) H') → ∀ p, H3 p = none → Q (.ref p) (upd H3 p (.lst [])) := fun H3 s3 q p np => q p [] _ ((s1.trans s3).trans (same_new np _)) ((s1.trans s3).free np) upd_same .nil
  have len0 : decide (V.int (ys.length : Int) = V.int 0) = decide (ds.length = 0) := len1 0
  have len1 : decide (V.int (ys.length : Int) = V.int 1) = decide (ds.length = 1) := len1 1
  refine ⟨_, rfl, rfl, _, rfl, ?_⟩
  rw [decS]
  by_cases h1 : m = "number"
  · rw [if_pos h1] at q0 q1
    rw [decide_eq_true h1]
    refine iteT ?_
    refine ⟨_, rfl, b, ys, rfl, .inr hb, rfl, _, rfl, ?_⟩
    rw [len0]
    by_cases h0 : ds.length = 0
    · have e0 : ds = [] := List.eq_nil_of_length_eq_zero h0
      rw [if_pos e0] at q1
      rw [decide_eq_true h0]
      exact iteT ⟨(by show 0 ≤ sizeLine; decide), emp H1 (Same.refl H1) (q1 [] rfl)⟩
    · have e0 : ds ≠ [] := fun z => h0 (by rw [z]; rfl)
      rw [if_neg e0] at q0
      rw [decide_eq_false h0]
      refine iteF ?_
      refine ⟨_, rfl, rfl, _, rfl, ?_⟩
      rw [decS, decide_eq_false (by rw [h1]; decide)]
      refine iteF (iteF ?_)
      refine ⟨_, rfl, rfl, _, rfl, ?_⟩
      rw [decS, decide_eq_false (by rw [h1]; decide)]
      refine iteF (iteF ?_)
      refine ⟨_, rfl, rfl, _, rfl, ?_⟩
      rw [decS, decide_eq_false (by rw [h1]; decide)]
      refine iteF ?_
      exact q0 rfl H1 s1
  rw [if_neg h1] at q0 q1
  rw [decide_eq_false h1]
  refine iteF (iteF ?_)
  refine ⟨_, rfl, rfl, _, rfl, ?_⟩
  rw [decS]
  by_cases h2 : m = "open"
  · rw [if_pos h2] at q0 q1
    rw [decide_eq_true h2]
    refine iteT ?_
    refine ⟨_, rfl, b, ys, rfl, .inr hb, rfl, _, rfl, ?_⟩
    rw [len1]
    by_cases h0 : ds.length = 1
    · rw [decide_eq_true h0]
      refine iteT ?_
      obtain ⟨x, rfl⟩ := List.length_eq_one_iff.mp h0
      cases hy with
      | @cons u _ _ _ hu hy =>
      cases hy
      have q0 : (if ltB az x = true then some [] else none) = (none : Option (List (So × PyData))) → ∀ H', Same H H' → Q .non H' := q0
      have q1 : ∀ l, (if ltB az x = true then some [] else none) = some l → ∀ (p : Addr) (us : List V) (H' : Hp), Same H H' → H p = none → H' p = some (.lst us) → Wt K L H0 H' us l → Q (.ref p) H' := q1
      refine ⟨_, rfl, b, _, 0, _, rfl, rfl, hb, atI_nat (j := 0) rfl, L, u, x, rfl, hu.mono (.of (s0.trans s1)), fun H3 s3 => ⟨_, rfl, ?_⟩⟩
      cases hb' : ltB az x with
      | true =>
        rw [hb', if_pos rfl] at q1
        exact iteT ⟨(by show 0 ≤ sizeLine; decide), emp H3 s3 (q1 [] rfl)⟩
      | false =>
        rw [hb', if_neg (by decide)] at q0
        refine iteF ?_
        refine ⟨_, rfl, rfl, _, rfl, ?_⟩
        rw [decS, decide_eq_false (by rw [h2]; decide)]
        refine iteF (iteF ?_)
        refine ⟨_, rfl, rfl, _, rfl, ?_⟩
        rw [decS, decide_eq_false (by rw [h2]; decide)]
        refine iteF ?_
        exact q0 rfl H3 (s1.trans s3)
    · rw [decide_eq_false h0]
      refine iteF (iteF ?_)
      refine ⟨_, rfl, rfl, _, rfl, ?_⟩
      rw [decS, decide_eq_false (by rw [h2]; decide)]
      refine iteF (iteF ?_)
      refine ⟨_, rfl, rfl, _, rfl, ?_⟩
      rw [decS, decide_eq_false (by rw [h2]; decide)]
      refine iteF ?_
      refine q0 ?_ H1 s1
      split
      · exact absurd rfl h0
      · rfl
  rw [if_neg h2] at q0 q1
  rw [decide_eq_false h2]
  refine iteF (iteF ?_)
  refine ⟨_, rfl, rfl, _, rfl, ?_⟩
  rw [decS]
  by_cases h3 : m = "list"
  · rw [if_pos h3] at q0 q1
    rw [decide_eq_true h3]
    refine iteT ?_
    refine ⟨_, rfl, b, ys, rfl, .inr hb, rfl, _, rfl, ?_⟩
    rw [len1]
    by_cases h0 : ds.length = 1
    · rw [decide_eq_true h0]
      refine iteT ?_
      obtain ⟨x, rfl⟩ := List.length_eq_one_iff.mp h0
      cases hy with
      | @cons u _ _ _ hu hy =>
      cases hy
      refine ⟨_, rfl, b, _, 0, _, rfl, rfl, hb, atI_nat (j := 0) rfl, (by show 2 ≤ sizeLine; decide), fun t nt => ⟨(by show 1 ≤ sizeLine; decide), fun p np => ?_⟩⟩
      have s2 := s1.trans (same_new nt (.tup [.str "kind", u]))
      have s3 := s2.trans (same_new np (.lst [.ref t]))
      exact q1 [(.kd, x)] rfl p _ _ s3 (s2.free np) upd_same (.cons (SqT.of (kn upd_same np)) hu .nil)
    · rw [decide_eq_false h0]
      refine iteF ?_
      refine ⟨_, rfl, rfl, _, rfl, ?_⟩
      rw [decS, decide_eq_false (by rw [h3]; decide)]
      refine iteF ?_
      refine q0 ?_ H1 s1
      split
      · exact absurd rfl h0
      · rfl
  rw [if_neg h3] at q0 q1
  rw [decide_eq_false h3]
  refine iteF (iteF ?_)
  refine ⟨_, rfl, rfl, _, rfl, ?_⟩
  rw [decS]
  by_cases h4 : m = "row"
  · rw [if_pos h4] at q0 q1
    rw [decide_eq_true h4]
    refine iteT ?_
    have hz' : 1 + (1 + szs ds) ≤ 900000 := by rw [sz_tuple] at hz; exact hz
    exact ⟨_, rfl, .ref b, .tuple ds, H0, rfl, s0.trans s1, .inl ⟨b, ys, ds, rfl, rfl, hb, hy⟩, by rw [sz_tuple]; omega, fun hn H' s' => q0 hn H' (s1.trans s'), fun l hl p us H' s' np hp hw => q1 l hl p us H' (s1.trans s') (s1.free np) hp hw⟩
  · rw [if_neg h4] at q0
    rw [decide_eq_false h4]
    exact iteF (q0 rfl H1 s1)
end
end K15
namespace K15
open PySem PySem.W L2 SX Cm
section
variable {P : Program} {w : World} {K : PySem.W.Frag} {mg : Str → Option Value} {base : Heap} {L : List Addr}
abbrev NSt : List Str := ["part", "rest", "kinds", "kind"]
theorem scAskS : FnScope NSt ["part"] (defScope sAskedStack) := ⟨rfl, rfl, rfl, by decide +kernel, rfl, by decide +kernel, by decide +kernel⟩
theorem ok_askS {f gm go : Addr} {fd gmd god : FuncData} (F : Fun K "asked_of_stack" "asked_of_stack" sAskedStack f fd) (T : Ty4 mg) (M : FnOk P w K mg base CX0 1 gm gmd ["thing"] (spB K L markB)) (bM : L2.Binds K gmd ["thing"] []) (kM : keepIn K (.ref gm) = true) (mM : mg "is_marked" = some (.ref gm))
    (O : FnOk P w K mg base CX0 3 go god ["thing"] (spOpen K AZ)) (bO : L2.Binds K god ["thing"] []) (kO : keepIn K (.ref go) = true) (mO : mg "is_open_rest" = some (.ref go)) : FnOk P w K mg base CX0 4 f fd ["part"] (spAskX K L askS) := by
  refine F.ok scAskS (fun vs H Q E h => ?_) (fun cdv A outer s H vs Q E hr h => ?_)
  · obtain ⟨v, d, H0, rfl, _⟩ := h
    rfl
  obtain ⟨v, d, H0, rfl, s0, hv, hz, q0, q1⟩ := h
  have hr1 := hr.mono (j := 1) (by decide)
  refine ⟨_, pss_cons (ps_if (PW.pt (pw_or (pt_not (pt_val (pe_call M hr1 rfl mM kM bM .nil pass0 (pa_cons (pv 0) pa_nil)))) (pw_or1 (pt_cmpR op_ne (pe_callB call_len_seq (by rfl) T.len PySem.boot_len (pa_cons (pv 0) pa_nil)) pe_int (nomark _))))) (pss_one (ps_ret pe_non)) pss_nil)
    (pss_cons (ps_asg (pv 0) (pg_tup rfl (pgs_cons (pg_name (i := 1) scAskS.nd rfl (.inl rfl)) (pgs_cons (pg_name (i := 2) scAskS.nd rfl (.inl rfl)) pgs_nil))))
    (pss_cons (ps_if (PW.pt (pw_or (pt_not (pt_val (pe_callB call_isi (by rfl) T.isi PyProof.Rows.boot_isinstance (pa_cons (pv 2) (pa_cons (pe_bltn (v := .ty "tuple") (by rfl) T.tup (by decide +kernel) rfl) pa_nil))))) (pw_or1 (pt_not (PW.pt (pw_or (pt_cmpR op_eq (pv 1) pe_str (nomark _)) (pw_or1 (pt_val (pe_call O hr rfl mO kO bO .nil pass0 (pa_cons (pv 1) pa_nil)))))))))) (pss_one (ps_ret pe_non)) pss_nil)
    (pss_one (ps_ret (pe_lc (own := [("kind", 3)]) (g := gName 3) (tt := tYes) rfl scAskS.nd (pi_tup (pv 2)) (blkOk_by (own := [("kind", 3)]) (N := NSt) (sc := defScope sAskedStack) (by decide +kernel))
        (fun _ _ _ _ _ => pg_name (i := 3) scAskS.nd rfl (Or.inl rfl)) (fun _ _ _ _ _ => pts_nil) (fun _ _ _ _ _ => pe_tup (pa_cons pe_str (pa_cons (pv 3) pa_nil)))))))), ?_⟩
  refine ⟨_, rfl, v, d, rfl, hv.bt s0, _, rfl, ?_⟩
  cases hm : markB d with
  | false =>
    have : askS d = none := by
      unfold askS
      split
      · cases hm
      · rfl
    exact iteT (iteT (q0 this H (Same.refl H)))
  | true =>
  refine iteF ?_
  obtain ⟨m, ds, rfl⟩ := markB_of hm
  rcases hv with ⟨a, xs, ds', rfl, e, ha, hx⟩ | ⟨hT, _⟩
  rotate_left
  · cases hT
  cases e
  have lx := hx.len
  refine ⟨_, rfl, a, xs, rfl, .inr ha, rfl, _, rfl, ?_⟩
  rcases ds with _ | ⟨k0, _ | ⟨e2, r⟩⟩
  · have : (!decide (V.int (xs.length : Int) = V.int 2)) = true := by rw [lx]; rfl
    rw [this]
    exact iteT (q0 rfl H (Same.refl H))
  rotate_left
  · have : (!decide (V.int (xs.length : Int) = V.int 2)) = true := by
      rw [lx, decide_eq_false (fun z => by have := V.int.inj z; simp only [List.length_cons] at this; omega)]; rfl
    rw [this]
    exact iteT (q0 (by cases k0 <;> rfl) H (Same.refl H))
  have : (!decide (V.int (xs.length : Int) = V.int 2)) = false := by rw [lx]; rfl
  rw [this]
  refine iteF ?_
  cases hx with
  | cons hm1 hx =>
  cases hm1 with
  | str hmz =>
  cases hx with
  | @cons u _ _ _ hu hx =>
  cases hx
  refine ⟨_, rfl, a, _, rfl, ha, rfl, _, _, rfl, _, _, rfl, rfl, ?_⟩
  obtain ⟨ty, ht, h1, _⟩ := (hu.mono (.of s0)).ty
  refine ⟨_, rfl, _, _, _, _, _, rfl, .ty _, ht, h1, _, rfl, ?_⟩
  cases hK : kTupB k0 with
  | false =>
    refine iteT (iteT (q0 ?_ H (Same.refl H)))
    cases k0 <;> first | rfl | cases hK
  | true =>
  refine iteF ?_
  obtain ⟨ks, rfl⟩ := kTupB_of hK
  obtain ⟨b, ys, rfl, hb0, hy⟩ := hu.tupD
  have hb := TKs.of s0 _ _ hb0
  have ly := hy.len
  have lz := szs_len ks
  have hz' : 1 + (1 + (sz (.tuple ks) + 0)) ≤ 900000 := by rw [sz_tuple] at hz; exact hz
  rw [sz_tuple] at hz'
  have eask : askS (.tuple [.str m, .tuple ks]) = if (decide (m = "") || nmB AZ (TL.tl m)) = true then some (ks.map fun k => (.kd, k)) else none := rfl
  rw [eask] at q0 q1
  refine ⟨_, rfl, rfl, _, rfl, ?_⟩
  rw [decS]
  by_cases h0 : m = ""
  · rw [decide_eq_true h0, Bool.true_or, if_pos rfl] at q1
    rw [decide_eq_true h0]
    refine iteT (iteF ?_)
    have sX : Same H H := Same.refl H
    refine ⟨_, rfl, b, rfl, ⟨_, hb⟩, fun D hD => lc_tup (K := K) (a := b) (xs := ys) (fun i H4 => ∃ acc, H4 D = some (.lst acc) ∧ Same H H4 ∧ Wt K L H0 H4 acc ((ks.take i).map fun d => (So.kd, d)) ∧ acc.length = i) ⟨[], upd_same, same_new hD _, .nil, rfl⟩ (fun i H4 _ h => ?_) ?_ ?_⟩
    · obtain ⟨acc, _, s4, _⟩ := h
      exact TKs.of s4 _ _ hb
    · rintro i x H4 hi ⟨acc, e4, s4, hw, hl⟩
      obtain ⟨y, hy', hty⟩ := hy.get hi
      have hil : i < ys.length := (List.getElem?_eq_some_iff.mp hi).1
      refine ⟨rfl, _, rfl, (by show 2 ≤ sizeLine; decide), fun t nt => ?_⟩
      have e5 := kn (o' := .tup [.str So.kd.s, x]) e4 nt
      have s5 := s4.trans (same_new nt (.tup [.str So.kd.s, x]))
      refine ⟨acc, e5, midlt (by omega), acc ++ [.ref t], upd_same, own_new s5 hD, ?_, by rw [List.length_append, hl]; rfl⟩
      rw [List.take_add_one, hy', List.map_append]
      have k6 : TKs K (upd H4 t (.tup [.str So.kd.s, x])) (upd (upd H4 t (.tup [.str So.kd.s, x])) D (.lst (acc ++ [.ref t]))) := TKs.lst e5
      exact ((hw.mono (TKs.of (same_new nt _))).mono k6).append (.cons (k6 _ _ (SqT.of upd_same)) hty .nil)
    · rintro H4 ⟨acc, e4, s4, hw, hl⟩
      rw [ly, List.take_length] at hw
      exact q1 _ rfl D acc H4 (sX.trans s4) (sX.free hD) e4 hw
  · rw [decide_eq_false h0, Bool.false_or] at q0 q1
    rw [decide_eq_false h0]
    refine iteF ?_
    refine ⟨_, rfl, L, .str m, .str m, rfl, .str hmz, fun H3 sX => ⟨_, rfl, ?_⟩⟩
    show if (!nmB AZ (TL.tl m)) = true then _ else _
    cases hn : nmB AZ (TL.tl m) with
    | false =>
      rw [hn, if_neg (by decide)] at q0
      exact iteT (q0 rfl H3 sX)
    | true =>
    rw [hn, if_pos rfl] at q1
    refine iteF ?_
    have hb3 := TKs.of sX _ _ hb
    refine ⟨_, rfl, b, rfl, ⟨_, hb3⟩, fun D hD => lc_tup (K := K) (a := b) (xs := ys) (fun i H4 => ∃ acc, H4 D = some (.lst acc) ∧ Same H3 H4 ∧ Wt K L H0 H4 acc ((ks.take i).map fun d => (So.kd, d)) ∧ acc.length = i) ⟨[], upd_same, same_new hD _, .nil, rfl⟩ (fun i H4 _ h => ?_) ?_ ?_⟩
    · obtain ⟨acc, _, s4, _⟩ := h
      exact TKs.of s4 _ _ hb3
    · rintro i x H4 hi ⟨acc, e4, s4, hw, hl⟩
      obtain ⟨y, hy', hty⟩ := hy.get hi
      have hil : i < ys.length := (List.getElem?_eq_some_iff.mp hi).1
      refine ⟨rfl, _, rfl, (by show 2 ≤ sizeLine; decide), fun t nt => ?_⟩
      have e5 := kn (o' := .tup [.str So.kd.s, x]) e4 nt
      have s5 := s4.trans (same_new nt (.tup [.str So.kd.s, x]))
      refine ⟨acc, e5, midlt (by omega), acc ++ [.ref t], upd_same, own_new s5 hD, ?_, by rw [List.length_append, hl]; rfl⟩
      rw [List.take_add_one, hy', List.map_append]
      have k6 : TKs K (upd H4 t (.tup [.str So.kd.s, x])) (upd (upd H4 t (.tup [.str So.kd.s, x])) D (.lst (acc ++ [.ref t]))) := TKs.lst e5
      exact ((hw.mono (TKs.of (same_new nt _))).mono k6).append (.cons (k6 _ _ (SqT.of upd_same)) hty .nil)
    · rintro H4 ⟨acc, e4, s4, hw, hl⟩
      rw [ly, List.take_length] at hw
      exact q1 _ rfl D acc H4 (sX.trans s4) (sX.free hD) e4 hw
/-- what is asked of a value of any of the sorts -/
def spAsk (K : Frag) (L : List Addr) : Sp := fun vs H Q _ => ∃ (so : So) (v : V) (d : PyData) (H0 : Hp), vs = [.str so.s, v] ∧ Same H0 H ∧ Bt K L H0 v d ∧ sz d ≤ 900000 ∧ (ask so d = none → ∀ H', Same H H' → Q .non H') ∧
  (∀ l, ask so d = some l → ∀ (p : Addr) (us : List V) (H' : Hp), Same H H' → H p = none → H' p = some (.lst us) → Wt K L H0 H' us l → Q (.ref p) H')
theorem scAsk : FnScope ["sort", "part"] ["sort", "part"] (defScope sAsked) := ⟨rfl, rfl, rfl, by decide +kernel, rfl, by decide +kernel, by decide +kernel⟩
theorem ok_ask {f gk gs gr : Addr} {fd gkd gsd grd : FuncData} (F : Fun K "asked_within" "asked_within" sAsked f fd)
    (A1 : FnOk P w K mg base CX0 4 gk gkd ["part"] (spAskX K L askK)) (bA : L2.Binds K gkd ["part"] []) (kA : keepIn K (.ref gk) = true) (mA : mg "asked_of_kind" = some (.ref gk))
    (W : FnOk P w K mg base CX0 4 gs gsd ["part"] (spAskX K L askS)) (bW : L2.Binds K gsd ["part"] []) (kW : keepIn K (.ref gs) = true) (mW : mg "asked_of_stack" = some (.ref gs))
    (R : FnOk P w K mg base CX0 1 gr grd ["part"] (spAskX K L askRow)) (bR : L2.Binds K grd ["part"] []) (kR : keepIn K (.ref gr) = true) (mR : mg "asked_of_row" = some (.ref gr)) : FnOk P w K mg base CX0 5 f fd ["sort", "part"] (spAsk K L) := by
  refine F.ok scAsk (fun vs H Q E h => ?_) (fun cdv A outer s H vs Q E hr h => ?_)
  · obtain ⟨so, v, d, H0, rfl, _⟩ := h
    rfl
  obtain ⟨so, v, d, H0, rfl, s0, hv0, hz, q0, q1⟩ := h
  refine ⟨_, pss_cons (ps_if (pt_cmpR op_eq (pv 0) pe_str (nomark _)) (pss_one (ps_ret (pe_call A1 hr rfl mA kA bA .nil pass0 (pa_cons (pv 1) pa_nil)))) pss_nil)
    (pss_cons (ps_if (pt_cmpR op_eq (pv 0) pe_str (nomark _)) (pss_one (ps_ret (pe_call W hr rfl mW kW bW .nil pass0 (pa_cons (pv 1) pa_nil)))) pss_nil)
    (pss_one (ps_ret (pe_call R (hr.mono (by decide)) rfl mR kR bR .nil pass0 (pa_cons (pv 1) pa_nil))))), ?_⟩
  cases so with
  | kd =>
    refine ⟨_, rfl, rfl, _, rfl, ?_⟩
    rw [show decide (V.str So.kd.s = V.str "kind") = true from decide_eq_true rfl]
    refine iteT ?_
    exact ⟨_, rfl, v, d, H0, rfl, s0, .of s0 hv0, hz, q0, q1⟩
  | st =>
    refine ⟨_, rfl, rfl, _, rfl, ?_⟩
    rw [show decide (V.str So.st.s = V.str "kind") = false by decide +kernel]
    refine iteF ?_
    refine ⟨_, rfl, rfl, _, rfl, ?_⟩
    rw [show decide (V.str So.st.s = V.str "stack") = true from decide_eq_true rfl]
    refine iteT ?_
    exact ⟨_, rfl, v, d, H0, rfl, s0, .of s0 hv0, hz, q0, q1⟩
  | rw =>
    refine ⟨_, rfl, rfl, _, rfl, ?_⟩
    rw [show decide (V.str So.rw.s = V.str "kind") = false by decide +kernel]
    refine iteF ?_
    refine ⟨_, rfl, rfl, _, rfl, ?_⟩
    rw [show decide (V.str So.rw.s = V.str "stack") = false by decide +kernel]
    refine iteF ?_
    exact ⟨_, rfl, v, d, H0, rfl, s0, .of s0 hv0, hz, q0, q1⟩
end
end K15
namespace K15
open PySem PySem.W L2 SX Cm
section
variable {P : Program} {w : World} {K : PySem.W.Frag} {mg : Str → Option Value} {base : Heap} {L : List Addr}
def spForm (K : Frag) (L : List Addr) (fa : Addr) : Sp := fun vs H Q _ => ∃ (so : So) (v : V) (d : PyData), vs = [.str so.s, v, .ref fa] ∧ Bt K L H v d ∧ sz d ≤ 900000 ∧ ∀ H', Same H H' → Q (.bl (ok so d)) H'
theorem scForm : FnScope ["sort", "thing", "asked_within", "waiting", "asked", "part", "inner"] ["sort", "thing", "asked_within"] (defScope sForm) := ⟨rfl, rfl, rfl, by decide +kernel, rfl, by decide +kernel, by decide +kernel⟩
theorem ok_form {f ga : Addr} {fd gad : FuncData} (F : Fun K "has_form" "has_form" sForm f fd) (W : FnOk P w K mg base CX0 5 ga gad ["sort", "part"] (spAsk K L)) (bW : L2.Binds K gad ["sort", "part"] []) (kW : keepIn K (.ref ga) = true) : FnOk P w K mg base CX0 6 f fd ["sort", "thing", "asked_within"] (spForm K L ga) := by
  refine F.ok scForm (fun vs H Q E h => ?_) (fun cdv A outer s H vs Q E hr h => ?_)
  · obtain ⟨so, v, d, rfl, _⟩ := h
    rfl
  obtain ⟨so, v, d, rfl, hv, hz, q⟩ := h
  refine ⟨_, pss_cons (ps_set (i := 3) scForm.nd rfl (.inl rfl) (pe_lst (pa_cons (pe_tup (pa_cons (pv 0) (pa_cons (pv 1) pa_nil))) pa_nil)))
    (pss_cons (ps_while PassesOwn.never (pt_truth (pv 3) (by intro _; rfl))
      (pss_cons (ps_asg (pe_bm0 PySem.F.plainAttrs_list PySem.F.slot_list_pop PySem.F.type_list_pop mt_pop (pv 3)) (pg_tup rfl (pgs_cons (pg_name (i := 4) scForm.nd rfl (.inl rfl)) (pgs_cons (pg_name (i := 5) scForm.nd rfl (.inl rfl)) pgs_nil))))
      (pss_cons (ps_set (i := 6) scForm.nd rfl (.inl rfl) (pe_callL (i := 2) W hr rfl (.inl rfl) kW bW .nil pass0 (pa_cons (pv 4) (pa_cons (pv 5) pa_nil))))
      (pss_cons (ps_if (pt_cmpR op_isN (pv 6) pe_non (nomark _)) (pss_one (ps_ret pe_bl)) pss_nil)
      (pss_one (ps_expr (pe_bm PySem.F.plainAttrs_list PySem.F.slot_list_extend PySem.F.type_list_extend mt_extend (pv 3) (pa_cons (pv 6) pa_nil))))))))
    (pss_one (ps_ret pe_bl))), ?_⟩
  refine ⟨_, rfl, _, rfl, (by show 2 ≤ sizeLine; decide), fun t nt => ⟨(by show 1 ≤ sizeLine; decide), fun l nl => ?_⟩⟩
  have s1 : Same H (upd H t (.tup [.str so.s, v])) := same_new nt _
  have fl : H l = none := s1.free nl
  have s2 := s1.trans (same_new nl (.lst [.ref t]))
  have ht := kn (o' := .lst [V.ref t]) (upd_same (H := H) (a := t) (o := .tup [.str so.s, v])) nl
  have ok1 : ok so d = [(so, d)].all (fun p => ok p.1 p.2) := by
    show _ = (ok so d && true); rw [Bool.and_true]
  refine ⟨fun m σ H' => ∃ (xs : List V) (W : List (So × PyData)) (x4 x5 x6 : Option V), σ = [some (.str so.s), some v, some (.ref ga), some (.ref l), x4, x5, x6] ∧ Same H H' ∧ H' l = some (.lst xs) ∧ Wt K L H H' xs W ∧ ok so d = W.all (fun p => ok p.1 p.2) ∧ wsz W ≤ 900000 ∧ m = wsz W,
    ⟨_, _, _, none, none, none, rfl, s2, upd_same, .cons (SqT.of ht) hv .nil, ok1, (by show sz d + 0 ≤ _; omega), rfl⟩, ?_⟩
  rintro m σ H' ⟨xs, W, x4, x5, x6, rfl, sm, hl, hW, hok, hs, rfl⟩
  refine ⟨_, rfl, _, .inl ⟨_, SqL.of hl, rfl⟩, ?_⟩
  rcases List.eq_nil_or_concat xs with rfl | ⟨ys, u, rfl⟩
  · cases hW
    refine iteF ?_
    rw [hok] at q
    exact q H' sm
  · rw [List.concat_eq_append] at hl hW ⊢
    have ne : (!(ys ++ [u]).isEmpty) = true := by cases ys <;> rfl
    rw [ne]
    refine iteT ?_
    obtain ⟨W', a, s1', d1, u1, rfl, hW', rfl, ha, hu⟩ := hW.snoc
    rw [wsz_append] at hs
    have hs1 : wsz [(s1', d1)] = sz d1 := by show sz d1 + 0 = _; omega
    rw [hs1] at hs
    rw [List.all_append] at hok
    refine ⟨fun σ' H2 => ∃ (xs : List V) (W2 : List (So × PyData)) (x4 x5 x6 : Option V), σ' = [some (.str so.s), some v, some (.ref ga), some (.ref l), x4, x5, x6] ∧ Same H H2 ∧ H2 l = some (.lst xs) ∧ Wt K L H H2 xs W2 ∧ ok so d = W2.all (fun p => ok p.1 p.2) ∧ wsz W2 < wsz W' + sz d1, ?_, ?_⟩
    · rintro σ' H2 ⟨xs, W2, x4, x5, x6, rfl, a1, a2, a3, a4, a5⟩
      exact ⟨wsz W2, by rw [wsz_append, hs1]; exact a5, xs, W2, x4, x5, x6, rfl, a1, a2, a3, a4, by omega, rfl⟩
    have hq : (ys ++ [V.ref a])[(ys ++ [V.ref a]).length - 1]? = some (V.ref a) := by rw [List.length_append]; simp
    have hdl : (ys ++ [V.ref a]).dropLast = ys := by simp
    refine ⟨_, rfl, .inl ⟨rfl, _, SqL.of hl⟩, l, _, _, rfl, rfl, hl, hq, ?_⟩
    rw [hdl]
    have tk : TKs K H' (upd H' l (.lst ys)) := TKs.lst hl
    have s3 : Same H (upd H' l (.lst ys)) := own_new sm fl
    have hl3 : upd H' l (.lst ys) l = some (.lst ys) := upd_same
    have hW3 := hW'.mono tk
    have ha3 := tk _ _ ha
    generalize upd H' l (.lst ys) = H3 at tk s3 hl3 hW3 ha3
    refine ⟨a, _, rfl, ha3, rfl, _, _, rfl, _, _, rfl, rfl, ?_⟩
    refine ⟨rfl, _, rfl, _, rfl, s1', u1, d1, H, rfl, s3, hu, by omega, fun hn H4 s4 => ?_, fun l2 hn p us H4 s4 np hp hw2 => ?_⟩
    · refine ⟨_, rfl, rfl, _, rfl, ?_⟩
      refine iteT ?_
      have : ok so d = false := by
        rw [hok]
        show (_ && (ok s1' d1 && true)) = false
        rw [ok_none hn, Bool.false_and, Bool.and_false]
      rw [this] at q
      exact q H4 (s3.trans s4)
    · refine ⟨_, rfl, rfl, _, rfl, ?_⟩
      refine iteF ?_
      have hl4 : H4 l = some (.lst ys) := s4 _ _ hl3
      have ly := hW3.len
      have l1 := wsz_len W'
      have l2' := wsz_len l2
      have lt := ask_lt hn
      have lu := hw2.len
      refine ⟨_, rfl, .inl ⟨rfl, _, SqL.of hl4⟩, _, rfl, l, p, ys, us, rfl, rfl, hl4, hp, mid (by omega), ?_⟩
      refine ⟨_, W' ++ l2, _, _, _, rfl, own_new (s3.trans s4) fl, upd_same, ((hW3.mono (TKs.of s4)).append hw2).mono (TKs.lst hl4), ?_, by rw [wsz_append]; omega⟩
      rw [hok, List.all_append]
      congr 1
      show (ok s1' d1 && true) = _
      rw [Bool.and_true, ok_some hn]
/-- whether a value is of a sort -/
def spIs (K : Frag) (so : So) : Sp := fun vs H Q _ => ∃ (L : List Addr) (v : V) (d : PyData), vs = [v] ∧ Bt K L H v d ∧ sz d ≤ 900000 ∧ ∀ H', Same H H' → Q (.bl (ok so d)) H'
theorem scisKind : FnScope ["thing"] ["thing"] (defScope sIsKind) := ⟨rfl, rfl, rfl, by decide +kernel, rfl, by decide +kernel, by decide +kernel⟩
theorem ok_isKind {f ga gf : Addr} {fd gfd : FuncData} (F : Fun K "is_kind" "is_kind" sIsKind f fd) (W : ∀ L, FnOk P w K mg base CX0 6 gf gfd ["sort", "thing", "asked_within"] (spForm K L ga)) (bW : L2.Binds K gfd ["sort", "thing", "asked_within"] []) (kW : keepIn K (.ref gf) = true) (mW : mg "has_form" = some (.ref gf)) (mA : mg "asked_within" = some (.ref ga)) : FnOk P w K mg base CX0 7 f fd ["thing"] (spIs K .kd) := by
  refine F.ok scisKind (fun vs H Q E h => ?_) (fun cdv A outer s H vs Q E hr h => ?_)
  · obtain ⟨L, v, d, rfl, _⟩ := h
    rfl
  obtain ⟨L, v, d, rfl, hv, hz, q⟩ := h
  refine ⟨_, pss_one (ps_ret (pe_call (W L) hr rfl mW kW bW .nil pass0 (pa_cons pe_str (pa_cons (pv 0) (pa_cons (pe_glob (v := .ref ga) rfl mA rfl) pa_nil))))), ?_⟩
  exact ⟨_, rfl, .kd, v, d, rfl, hv, hz, q⟩
theorem scisStK : FnScope ["thing"] ["thing"] (defScope sIsStK) := ⟨rfl, rfl, rfl, by decide +kernel, rfl, by decide +kernel, by decide +kernel⟩
theorem ok_isStK {f ga gf : Addr} {fd gfd : FuncData} (F : Fun K "is_stack_kind" "is_stack_kind" sIsStK f fd) (W : ∀ L, FnOk P w K mg base CX0 6 gf gfd ["sort", "thing", "asked_within"] (spForm K L ga)) (bW : L2.Binds K gfd ["sort", "thing", "asked_within"] []) (kW : keepIn K (.ref gf) = true) (mW : mg "has_form" = some (.ref gf)) (mA : mg "asked_within" = some (.ref ga)) : FnOk P w K mg base CX0 7 f fd ["thing"] (spIs K .st) := by
  refine F.ok scisStK (fun vs H Q E h => ?_) (fun cdv A outer s H vs Q E hr h => ?_)
  · obtain ⟨L, v, d, rfl, _⟩ := h
    rfl
  obtain ⟨L, v, d, rfl, hv, hz, q⟩ := h
  refine ⟨_, pss_one (ps_ret (pe_call (W L) hr rfl mW kW bW .nil pass0 (pa_cons pe_str (pa_cons (pv 0) (pa_cons (pe_glob (v := .ref ga) rfl mA rfl) pa_nil))))), ?_⟩
  exact ⟨_, rfl, .st, v, d, rfl, hv, hz, q⟩
theorem scisRwK : FnScope ["thing"] ["thing"] (defScope sIsRwK) := ⟨rfl, rfl, rfl, by decide +kernel, rfl, by decide +kernel, by decide +kernel⟩
theorem ok_isRwK {f ga gf : Addr} {fd gfd : FuncData} (F : Fun K "is_row_kind" "is_row_kind" sIsRwK f fd) (W : ∀ L, FnOk P w K mg base CX0 6 gf gfd ["sort", "thing", "asked_within"] (spForm K L ga)) (bW : L2.Binds K gfd ["sort", "thing", "asked_within"] []) (kW : keepIn K (.ref gf) = true) (mW : mg "has_form" = some (.ref gf)) (mA : mg "asked_within" = some (.ref ga)) : FnOk P w K mg base CX0 7 f fd ["thing"] (spIs K .rw) := by
  refine F.ok scisRwK (fun vs H Q E h => ?_) (fun cdv A outer s H vs Q E hr h => ?_)
  · obtain ⟨L, v, d, rfl, _⟩ := h
    rfl
  obtain ⟨L, v, d, rfl, hv, hz, q⟩ := h
  refine ⟨_, pss_one (ps_ret (pe_call (W L) hr rfl mW kW bW .nil pass0 (pa_cons pe_str (pa_cons (pv 0) (pa_cons (pe_glob (v := .ref ga) rfl mA rfl) pa_nil))))), ?_⟩
  exact ⟨_, rfl, .rw, v, d, rfl, hv, hz, q⟩
end
end K15
namespace K15
open PySem PySem.W L2 SX Cm
/-- the signs that a text may have -/
def Ch (x : List Nat) : Prop := ∀ c ∈ x, c < 1114112
theorem dp_signs {K : Frag} {H : Hp} : ∀ x : List Nat, DpAll K H (x.map fun c => V.str ⟨#[c]⟩) (x.map fun c => PyData.str ⟨#[c]⟩)
  | [] => .nil
  | n :: r => .cons (.str _) (dp_signs r)
theorem lay_signs : ∀ x : List Nat, Ch x → PyData.canLayAll0 (x.map fun c => PyData.str ⟨#[c]⟩) = true
  | [], _ => rfl
  | n :: r, h => by
    show (PyData.canLay0 (PyData.str ⟨#[n]⟩) && PyData.canLayAll0 (r.map fun c => PyData.str ⟨#[c]⟩)) = true
    rw [lay_signs r (fun c hc => h c (List.mem_cons_of_mem _ hc)), Bool.and_true]
    show (#[n].all (· < 0x110000)) = true
    have := h n (List.mem_cons_self ..)
    simp [this]
theorem deep_signs : ∀ x : List Nat, PyData.depthAll (x.map fun c => PyData.str ⟨#[c]⟩) = 0
  | [] => rfl
  | n :: r => by
    show max (PyData.depth (PyData.str ⟨#[n]⟩)) (PyData.depthAll (r.map fun c => PyData.str ⟨#[c]⟩)) = 0
    rw [deep_signs r]; rfl
theorem shaped_signs (x : List Nat) (h : Ch x) : SeqAt.shaped (.list (x.map fun c => PyData.str ⟨#[c]⟩)) = true := by
  show (PyData.canLayAll0 (x.map fun c => PyData.str ⟨#[c]⟩) && decide (PyData.depthAll (x.map fun c => PyData.str ⟨#[c]⟩) + 1 ≤ 64)) = true
  rw [lay_signs x h, deep_signs]; rfl
theorem Ch.sub {x y : List Nat} (h : Ch x) (s : ∀ c ∈ y, c ∈ x) : Ch y := fun c hc => h c (s c hc)
theorem tl_ch {z : Str} {n : Nat} (h : Tx z n) : Ch (TL.tl z) := fun c hc => h.ch c hc
theorem filt_len (r : List Nat) : decide ((r.filter fun c => decide (c ∈ figs)).length = r.length) = r.all fun c => decide (c ∈ figs) := by
  induction r with
  | nil => rfl
  | cons c r ih =>
    rw [List.all_cons, List.filter_cons]
    by_cases h : decide (c ∈ figs) = true
    · rw [if_pos h, h, Bool.true_and, ← ih, List.length_cons, List.length_cons]
      by_cases h2 : (r.filter fun c => decide (c ∈ figs)).length = r.length
      · rw [decide_eq_true h2, decide_eq_true (by omega)]
      · rw [decide_eq_false h2, decide_eq_false (by omega)]
    · rw [if_neg h, Bool.eq_false_iff.mpr h, Bool.false_and]
      refine decide_eq_false (fun z => ?_)
      have := List.length_filter_le (fun c => decide (c ∈ figs)) r
      rw [List.length_cons] at z
      omega
theorem filt_all {r : List Nat} (h : (r.all fun c => decide (c ∈ figs)) = true) : (r.filter fun c => decide (c ∈ figs)) = r := by
  rw [List.filter_eq_self]
  exact fun a ha => List.all_eq_true.mp h a ha
section
variable {P : Program} {w : World} {K : PySem.W.Frag} {mg : Str → Option Value} {base : Heap}
abbrev NLN : List Str := ["_law_thing", "_law_letters", "_law_sign", "_law_figures"]
theorem scLName : FnScope NLN ["_law_thing", "_law_letters"] (defScope sLName) := ⟨rfl, rfl, rfl, by decide +kernel, rfl, by decide +kernel, by decide +kernel⟩
theorem ok_lname {f : Addr} {fd : FuncData} (F : Fun K "_law_is_name" "_law_is_name" sLName f fd) (T : Ty4 mg) : FnOk P w K mg base CX0 2 f fd ["_law_thing", "_law_letters"] (spLet K) := by
  refine F.ok scLName (fun vs H Q E h => ?_) (fun cdv A outer s H vs Q E hr h => ?_)
  · obtain ⟨L, v, d, ls, rfl, _⟩ := h
    rfl
  obtain ⟨L, v, d, ls, rfl, hv, q⟩ := h
  refine ⟨_, pss_cons (ps_if (PW.pt (pw_or (pt_not (pt_val (pe_callB call_isi (by rfl) T.isi PyProof.Rows.boot_isinstance (pa_cons (pv 0) (pa_cons (pe_bltn (v := .ty "str") (by rfl) T.str (by decide +kernel) rfl) pa_nil))))) (pw_or1 (pt_cmpR op_eq (pe_callB call_len_str (by rfl) T.len PySem.boot_len (pa_cons (pv 0) pa_nil)) pe_int (nomark _))))) (pss_one (ps_ret pe_bl)) pss_nil)
    (pss_cons (ps_setLc (i := 3) (own := [("_law_sign", 2)]) (g := gName 2) rfl scLName.nd rfl rfl rfl (pi_str (pe_slice sl_str (pv 0) (po_some pe_int) po_none)) (blkOk_by (own := [("_law_sign", 2)]) (N := NLN) (sc := defScope sLName) (by decide +kernel))
        (fun _ _ _ _ _ => pg_name (i := 2) scLName.nd rfl (Or.inl rfl)) (fun _ _ _ _ _ => pts_one (pt_cmpR op_in_sign (pv 2) pe_str rfl)) (fun _ _ _ _ _ => pv 2))
    (pss_one (ps_ret (pe_and (pe_cmpR op_in_sign (pe_ix ix_str (pv 0) pe_int (fun _ _ => rfl)) (pv 1) rfl) (pe_and (pe_cmpR op_eq (pe_callB call_len_seq (by rfl) T.len PySem.boot_len (pa_cons (pv 3) pa_nil)) (pe_op op_sub (pe_callB call_len_str (by rfl) T.len PySem.boot_len (pa_cons (pv 0) pa_nil)) pe_int) (nomark _))
      (pe_one (pe_cmpR (op_neD hr.units) (pe_slice sl_list (pv 3) po_none (po_some pe_int)) (pe_lst (pa_cons pe_str pa_nil)) (nomark _)))))))), ?_⟩
  have e1 : ("0123456789" : Str) = S figs := by decide +kernel
  have e3 : ("0" : Str) = S [48] := by decide +kernel
  rw [e1, e3]
  obtain ⟨ty, ht, _, h2, _⟩ := hv.ty
  refine ⟨_, rfl, _, _, _, _, _, rfl, .ty _, ht, h2, _, rfl, ?_⟩
  cases hk : kStrB d with
  | false =>
    have : ltB ls d = false := by cases d <;> first | rfl | cases hk
    rw [this] at q
    exact iteT (iteT (q H (Same.refl H)))
  | true =>
  refine iteF ?_
  obtain ⟨z, rfl⟩ := kStrB_of hk
  cases hv with
  | str hz =>
  have q : ∀ H', Same H H' → Q (.bl (nmB ls (TL.tl z))) H' := q
  have hl : (TL.tl z).length ≤ 1000 := Nat.le_trans (tl_len hz) (by decide)
  have hch := tl_ch hz
  rw [← S_tl z]
  generalize TL.tl z = x at q hl hch
  refine ⟨_, rfl, _, rfl, hsz hl, rfl, _, rfl, ?_⟩
  rw [S_len]
  rcases x with _ | ⟨c, r⟩
  · exact iteT (q H (Same.refl H))
  have n0 : decide (V.int (((c :: r).length : Nat) : Int) = V.int 0) = false := decide_eq_false (fun z => by have := V.int.inj z; rw [List.length_cons] at this; omega)
  rw [n0]
  refine iteF ?_
  have q : ∀ H', Same H H' → Q (.bl (decide (c ∈ ls) && ((r.all fun s => decide (s ∈ figs)) && !decide (r.head? = some 48)))) H' := q
  refine ⟨_, rfl, _, rfl, _, rfl, hsz hl, ?_⟩
  rw [cutS_from (by decide)]
  have lr : r.length ≤ 1000 := by rw [List.length_cons] at hl; omega
  refine ⟨_, rfl, fun D hD => ?_⟩
  show ∃ W : Nat → Nat → Hp → Prop, _
  refine lc_txtIf (z := r) (fun c => decide (c ∈ figs)) (fun c => .str ⟨#[c]⟩) lr (fun c H R R0 hc r1 r0 => ?_) ?_
  · refine ⟨rfl, _, rfl, c, _, rfl, rfl, _, rfl, ?_⟩
    show if decide (c ∈ figs) = true then _ else _
    cases hp : decide (c ∈ figs) with
    | true => exact iteT ⟨_, rfl, r1 hp⟩
    | false => exact iteF (r0 hp)
  have sD : Same H (upd H D (.lst ((r.filter fun c => decide (c ∈ figs)).map fun c => V.str ⟨#[c]⟩))) := same_new hD _
  have eD : upd H D (.lst ((r.filter fun c => decide (c ∈ figs)).map fun c => V.str ⟨#[c]⟩)) D = some (.lst ((r.filter fun c => decide (c ∈ figs)).map fun c => V.str ⟨#[c]⟩)) := upd_same
  generalize upd H D (.lst ((r.filter fun c => decide (c ∈ figs)).map fun c => V.str ⟨#[c]⟩)) = H1 at sD eD ⊢
  refine ⟨_, rfl, _, 0, c, rfl, rfl, hsz hl, atI_nat (j := 0) rfl, _, rfl, c, _, rfl, rfl, _, rfl, ?_⟩
  show if decide (c ∈ ls) = true then _ else _
  cases hc : decide (c ∈ ls) with
  | false =>
    rw [hc, Bool.false_and] at q
    exact iteF (q _ sD)
  | true =>
  rw [hc, Bool.true_and] at q
  refine iteT ?_
  refine ⟨_, rfl, D, _, rfl, .inl (SqL.of eD), _, rfl, _, rfl, hsz hl, _, _, rfl, rfl, rfl, _, rfl, ?_⟩
  have el : decide (V.int ((((r.filter fun c => decide (c ∈ figs)).map fun c => V.str ⟨#[c]⟩).length : Nat) : Int) = V.int (((S (c :: r)).length : Int) - 1)) = r.all fun c => decide (c ∈ figs) := by
    rw [← filt_len, List.length_map, S_len, List.length_cons]
    by_cases h : (r.filter fun c => decide (c ∈ figs)).length = r.length
    · rw [decide_eq_true h]; exact decide_eq_true (by congr 1; omega)
    · rw [decide_eq_false h]; exact decide_eq_false (fun z => h (by have := V.int.inj z; omega))
  rw [el]
  cases ha : (r.all fun c => decide (c ∈ figs)) with
  | false =>
    rw [ha, Bool.false_and] at q
    exact iteF (q _ sD)
  | true =>
  rw [ha, Bool.true_and] at q
  rw [filt_all ha] at eD
  refine iteT ?_
  refine ⟨_, rfl, _, rfl, D, _, rfl, SqL.of eD, fun p np => ?_⟩
  have ec : cutV (r.map fun c => V.str ⟨#[c]⟩) none (some 1) = ((r.take 1).map fun c => V.str ⟨#[c]⟩) := by
    unfold cutV
    rw [HT.sIx_none, show (1 : Int) = ((1 : Nat) : Int) from rfl, HT.sIx_nat, List.length_map, List.drop_zero, Nat.sub_zero, ← List.map_take]
    rcases r with _ | ⟨x, r⟩
    · rfl
    · rw [Nat.min_eq_left (by rw [List.length_cons]; omega)]
  rw [ec]
  have s2 := sD.trans (same_new np (.lst ((r.take 1).map fun c => V.str ⟨#[c]⟩)))
  have e2 : upd H1 p (.lst ((r.take 1).map fun c => V.str ⟨#[c]⟩)) p = some (.lst ((r.take 1).map fun c => V.str ⟨#[c]⟩)) := upd_same
  generalize upd H1 p (.lst ((r.take 1).map fun c => V.str ⟨#[c]⟩)) = H2 at s2 e2 ⊢
  refine ⟨(by show 1 ≤ sizeLine; decide), fun p2 np2 => ?_⟩
  have hc1 : Ch (r.take 1) := hch.sub (fun c hc => List.mem_cons_of_mem _ (List.mem_of_mem_take hc))
  refine ⟨_, _, .lst (SqL.of (kn e2 np2)) (dp_signs _), .lst (SqL.of upd_same) (dp_signs [48]), shaped_signs _ hc1, shaped_signs [48] (by intro c hc; rw [List.mem_singleton.mp hc]; decide), ?_⟩
  have ee : (!PyData.eqv (.list ((r.take 1).map fun c => PyData.str ⟨#[c]⟩)) (.list ([48].map fun c => PyData.str ⟨#[c]⟩))) = !decide (r.head? = some 48) := by
    rcases r with _ | ⟨x, r⟩
    · rfl
    · by_cases h : x = 48
      · subst h; rfl
      · congr 1
        rw [show decide ((x :: r).head? = some 48) = false from decide_eq_false (fun z => h (Option.some.inj z))]
        show (decide ((⟨#[x]⟩ : Str) = ⟨#[48]⟩) && true) = false
        rw [Bool.and_true]
        exact decide_eq_false (fun z => h (by have := S_inj (show S [x] = S [48] from z); exact List.head_eq_of_cons_eq this))
  rw [ee]
  exact q _ (s2.trans (same_new np2 _))
end
end K15
namespace K15
open PySem PySem.W L2 SX Cm
theorem ok_kd (m : Str) (hs : List PyData) : ok .kd (.tuple (.str m :: hs)) = if m = "number" then decide (hs.length = 0) else if m = "row" then (match hs with | [a, b] => ok .st a && ok .st b | _ => false) else if m = "open" then (match hs with | [x] => ltB az x | _ => false) else if m = "list" then (match hs with | [x] => ok .kd x | _ => false) else false := by
  have h : ask .kd (.tuple (.str m :: hs)) = askK1 m hs := rfl
  rw [ok_eq, h]
  unfold askK1
  by_cases h1 : m = "number"
  · rw [if_pos h1, if_pos h1]
    rcases hs with _ | ⟨x, r⟩
    · rfl
    · rw [if_neg (by intro z; cases z)]; rfl
  · rw [if_neg h1, if_neg h1]
    by_cases h2 : m = "open"
    · rw [if_pos h2, if_neg (by rw [h2]; decide), if_pos h2]
      rcases hs with _ | ⟨x, _ | ⟨y, r⟩⟩
      · rfl
      · show (match (if ltB az x = true then some [] else none : Option (List (So × PyData))) with | none => false | some l => l.all fun p => ok p.1 p.2) = ltB az x
        cases ltB az x <;> rfl
      · rfl
    · rw [if_neg h2]
      by_cases h3 : m = "list"
      · rw [if_pos h3, if_neg (by rw [h3]; decide), if_neg h2, if_pos h3]
        rcases hs with _ | ⟨x, _ | ⟨y, r⟩⟩
        · rfl
        · show (ok .kd x && true) = ok .kd x
          rw [Bool.and_true]
        · rfl
      · rw [if_neg h3]
        by_cases h4 : m = "row"
        · rw [if_pos h4, if_pos h4]
          rcases hs with _ | ⟨x, _ | ⟨y, _ | ⟨z, r⟩⟩⟩
          · rfl
          · rfl
          · show (ok .st x && (ok .st y && true)) = _
            rw [Bool.and_true]
          · rfl
        · rw [if_neg h4, if_neg h4, if_neg h2, if_neg h3]
theorem ok_kd0 {d : PyData} (h : markB d = false) : ok .kd d = false := ok_none (by
  show askK d = none
  unfold askK
  split
  · cases h
  · rfl)
theorem ok_st2 (r : Str) (ks : List PyData) : ok .st (.tuple [.str r, .tuple ks]) = ((decide (r = "") || nmB AZ (TL.tl r)) && ks.all (ok .kd)) := by
  have h : ask .st (.tuple [.str r, .tuple ks]) = if (decide (r = "") || nmB AZ (TL.tl r)) = true then some (ks.map fun k => (.kd, k)) else none := rfl
  rw [ok_eq, h]
  cases (decide (r = "") || nmB AZ (TL.tl r))
  · rfl
  · rw [if_pos rfl, Bool.true_and]
    show (ks.map fun k => (So.kd, k)).all _ = _
    rw [List.all_map]; rfl
theorem ok_rw2 (a b : PyData) : ok .rw (.tuple [a, b]) = (ok .st a && ok .st b) := by
  rw [ok_some (s := .rw) (d := .tuple [a, b]) (l := [(.st, a), (.st, b)]) rfl]
  show (ok .st a && (ok .st b && true)) = _
  rw [Bool.and_true]
end K15
namespace K15
open PySem PySem.W L2 SX Cm
section
variable {P : Program} {w : World} {K : PySem.W.Frag} {mg : Str → Option Value} {base : Heap}
def spLS (K : Frag) (so : So) (n : Nat) : Sp := fun vs H Q _ => ∃ (L : List Addr) (v : V) (d : PyData), vs = [v] ∧ Bt K L H v d ∧ noD d = true ∧ sz d ≤ 900000 ∧ dep d < n ∧ ∀ H', Same H H' → Q (.bl (ok so d)) H'
theorem scLKind : FnScope ["_law_thing"] ["_law_thing"] (defScope sLKind) := ⟨rfl, rfl, rfl, by decide +kernel, rfl, by decide +kernel, by decide +kernel⟩
theorem ok_lkind0 {f : Addr} {fd : FuncData} (F : Fun K "_law_is_kind" "_law_is_kind" sLKind f fd) : FnOk P w K mg base CX0 3 f fd ["_law_thing"] (spLS K .kd 0) := by
  refine F.ok scLKind (fun vs H Q E h => ?_) (fun cdv A outer s H vs Q E hr h => ?_)
  · obtain ⟨L, v, d, rfl, _⟩ := h
    rfl
  · obtain ⟨L, v, d, rfl, _, _, _, h, _⟩ := h
    exact absurd h (Nat.not_lt_zero _)
theorem ok_lkind {n : Nat} {f gs gn : Addr} {fd gsd gnd : FuncData} (F : Fun K "_law_is_kind" "_law_is_kind" sLKind f fd) (T : Ty4 mg)
    (G : FnOk P w K mg base CX0 (3 + n) f fd ["_law_thing"] (spLS K .kd n)) (bG : L2.Binds K fd ["_law_thing"] []) (kG : keepIn K (.ref f) = true) (mG : mg "_law_is_kind" = some (.ref f))
    (Z : FnOk P w K mg base CX0 (3 + n) gs gsd ["_law_thing"] (spLS K .st n)) (bZ : L2.Binds K gsd ["_law_thing"] []) (kZ : keepIn K (.ref gs) = true) (mZ : mg "_law_is_stack" = some (.ref gs))
    (N : FnOk P w K mg base CX0 2 gn gnd ["_law_thing", "_law_letters"] (spLet K)) (bN : L2.Binds K gnd ["_law_thing", "_law_letters"] []) (kN : keepIn K (.ref gn) = true) (mN : mg "_law_is_name" = some (.ref gn)) : FnOk P w K mg base CX0 (3 + n + 1) f fd ["_law_thing"] (spLS K .kd (n + 1)) := by
  refine F.ok scLKind (fun vs H Q E h => ?_) (fun cdv A outer s H vs Q E hr h => ?_)
  · obtain ⟨L, v, d, rfl, _⟩ := h
    rfl
  obtain ⟨L, v, d, rfl, hv, hnd, hz, hd, q⟩ := h
  refine ⟨_, pss_cons (ps_if (PW.pt (pw_or (pt_not (pt_val (pe_callB call_isi (by rfl) T.isi PyProof.Rows.boot_isinstance (pa_cons (pv 0) (pa_cons (pe_bltn (v := .ty "tuple") (by rfl) T.tup (by decide +kernel) rfl) pa_nil))))) (pw_or1 (pt_cmpR op_eq (pe_callB call_len_seq (by rfl) T.len PySem.boot_len (pa_cons (pv 0) pa_nil)) pe_int (nomark _))))) (pss_one (ps_ret pe_bl)) pss_nil)
    (pss_cons (ps_if (pt_cmpR (op_eqS hr.units) (pe_ix ix_tup (pv 0) pe_int (fun _ _ => rfl)) pe_str (nomark _)) (pss_one (ps_ret (pe_cmpR op_eq (pe_callB call_len_seq (by rfl) T.len PySem.boot_len (pa_cons (pv 0) pa_nil)) pe_int (nomark _)))) pss_nil)
    (pss_cons (ps_if (pt_cmpR (op_eqS hr.units) (pe_ix ix_tup (pv 0) pe_int (fun _ _ => rfl)) pe_str (nomark _)) (pss_one (ps_ret (pe_and (pe_cmpR op_eq (pe_callB call_len_seq (by rfl) T.len PySem.boot_len (pa_cons (pv 0) pa_nil)) pe_int (nomark _)) (pe_and (pe_call Z hr rfl mZ kZ bZ .nil pass0 (pa_cons (pe_ix ix_tup (pv 0) pe_int (fun _ _ => rfl)) pa_nil)) (pe_one (pe_call Z hr rfl mZ kZ bZ .nil pass0 (pa_cons (pe_ix ix_tup (pv 0) pe_int (fun _ _ => rfl)) pa_nil))))))) pss_nil)
    (pss_cons (ps_if (pt_cmpR op_ne (pe_callB call_len_seq (by rfl) T.len PySem.boot_len (pa_cons (pv 0) pa_nil)) pe_int (nomark _)) (pss_one (ps_ret pe_bl)) pss_nil)
    (pss_cons (ps_if (pt_cmpR (op_eqS hr.units) (pe_ix ix_tup (pv 0) pe_int (fun _ _ => rfl)) pe_str (nomark _)) (pss_one (ps_ret (pe_call N (hr.mono (by omega)) rfl mN kN bN .nil pass0 (pa_cons (pe_ix ix_tup (pv 0) pe_int (fun _ _ => rfl)) (pa_cons pe_str pa_nil))))) pss_nil)
    (pss_one (ps_ret (pe_and (pe_cmpR (op_eqS hr.units) (pe_ix ix_tup (pv 0) pe_int (fun _ _ => rfl)) pe_str (nomark _)) (pe_one (pe_call G hr rfl mG kG bG .nil pass0 (pa_cons (pe_ix ix_tup (pv 0) pe_int (fun _ _ => rfl)) pa_nil)))))))))), ?_⟩
  have e4 : ("abcdefghijklmnopqrstuvwxyz" : Str) = S az := by decide +kernel
  rw [e4]
  obtain ⟨ty, ht, h1, _⟩ := hv.ty
  refine ⟨_, rfl, _, _, _, _, _, rfl, .ty _, ht, h1, _, rfl, ?_⟩
  cases hT : kTupB d with
  | false =>
    rw [ok_kd0 (by cases d <;> first | rfl | cases hT)] at q
    exact iteT (iteT (q H (Same.refl H)))
  | true =>
  refine iteF ?_
  obtain ⟨ds, rfl⟩ := kTupB_of hT
  obtain ⟨a, xs, rfl, ha, hx⟩ := hv.tupD
  have lx := hx.len
  refine ⟨_, rfl, a, xs, rfl, .inr ha, rfl, _, rfl, ?_⟩
  rcases ds with _ | ⟨e1, hs⟩
  · have : decide (V.int (xs.length : Int) = V.int 0) = true := by rw [lx]; rfl
    rw [this]
    rw [ok_kd0 rfl] at q
    exact iteT (q H (Same.refl H))
  have : decide (V.int (xs.length : Int) = V.int 0) = false := by
    rw [lx]; exact decide_eq_false (fun z => by have := V.int.inj z; rw [List.length_cons] at this; omega)
  rw [this]
  refine iteF ?_
  cases hx with
  | @cons u1 us _ _ hu1 hx =>
  have lu := hx.len
  have hnd' : (noD e1 && noDs hs) = true := hnd
  rw [Bool.and_eq_true] at hnd'
  have nd1 := noD_dict hnd'.1
  have hd' : 1 + max (dep e1) (deps hs) < n + 1 := by rw [dep_tuple] at hd; exact hd
  have hz' : 1 + (sz e1 + szs hs) ≤ 900000 := by rw [sz_tuple] at hz; exact hz
  have i0 : atI (u1 :: us) (0 : Int) = some u1 := atI_nat (j := 0) rfl
  have el : ∀ k : Nat, decide (V.int (((u1 :: us).length : Nat) : Int) = V.int ((k + 1 : Nat) : Int)) = decide (hs.length = k) := fun k => by
    rw [List.length_cons, lu]
    by_cases h : hs.length = k
    · rw [decide_eq_true h, h, decide_eq_true rfl]
    · rw [decide_eq_false h, decide_eq_false (fun z => h (by have := V.int.inj z; omega))]
  have el1 : decide (V.int (((u1 :: us).length : Nat) : Int) = V.int 1) = decide (hs.length = 0) := el 0
  have el2 : decide (V.int (((u1 :: us).length : Nat) : Int) = V.int 2) = decide (hs.length = 1) := el 1
  have el3 : decide (V.int (((u1 :: us).length : Nat) : Int) = V.int 3) = decide (hs.length = 2) := el 2
  refine ⟨_, rfl, a, _, 0, _, rfl, rfl, ha, i0, _, e1, L, rfl, hu1, nd1, _, rfl, ?_⟩
  cases hk : kStrB e1 with
  | false =>
    have fz : ∀ z, eqSB z e1 = false := fun z => by cases e1 <;> first | rfl | cases hk
    rw [ok_kd0 (by cases e1 <;> first | rfl | cases hk)] at q
    rw [fz]
    refine iteF ?_
    refine ⟨_, rfl, a, _, 0, _, rfl, rfl, ha, i0, _, _, L, rfl, hu1, nd1, _, rfl, ?_⟩
    rw [fz]
    refine iteF ?_
    refine ⟨_, rfl, a, _, rfl, .inr ha, rfl, _, rfl, ite2 (fun _ => q H (Same.refl H)) (fun _ => ?_)⟩
    refine ⟨_, rfl, a, _, 0, _, rfl, rfl, ha, i0, _, _, L, rfl, hu1, nd1, _, rfl, ?_⟩
    rw [fz]
    refine iteF ?_
    refine ⟨_, rfl, a, _, 0, _, rfl, rfl, ha, i0, _, _, L, rfl, hu1, nd1, _, rfl, ?_⟩
    rw [fz]
    exact iteF (q H (Same.refl H))
  | true =>
  obtain ⟨m, rfl⟩ := kStrB_of hk
  rw [ok_kd] at q
  show if decide (m = "number") = true then _ else _
  by_cases hp1 : m = "number"
  · rw [if_pos hp1] at q
    rw [decide_eq_true hp1]
    refine iteT ?_
    refine ⟨_, rfl, a, _, rfl, .inr ha, rfl, ?_⟩
    rw [el1]
    exact q H (Same.refl H)
  rw [if_neg hp1] at q
  rw [decide_eq_false hp1]
  refine iteF ?_
  refine ⟨_, rfl, a, _, 0, _, rfl, rfl, ha, i0, _, _, L, rfl, hu1, nd1, _, rfl, ?_⟩
  show if decide (m = "row") = true then _ else _
  by_cases hp2 : m = "row"
  · rw [if_pos hp2] at q
    rw [decide_eq_true hp2]
    refine iteT ?_
    refine ⟨_, rfl, a, _, rfl, .inr ha, rfl, _, rfl, ?_⟩
    rw [el3]
    rcases hs with _ | ⟨x, _ | ⟨y, _ | ⟨z, r⟩⟩⟩
    · exact iteF (q H (Same.refl H))
    · exact iteF (q H (Same.refl H))
    · refine iteT ?_
      cases hx with
      | @cons v1 _ _ _ hv1 hx =>
      cases hx with
      | @cons v2 _ _ _ hv2 hx =>
      cases hx
      have q : ∀ H', Same H H' → Q (.bl (ok .st x && ok .st y)) H' := q
      have n2 : (noD x && (noD y && true)) = true := hnd'.2
      rw [Bool.and_true, Bool.and_eq_true] at n2
      have z2 : 1 + (sz (.str m) + (sz x + (sz y + 0))) ≤ 900000 := hz'
      have d2 : 1 + max (dep (.str m)) (max (dep x) (max (dep y) 0)) < n + 1 := hd'
      refine ⟨_, rfl, a, _, 1, _, rfl, rfl, ha, atI_nat (j := 1) rfl, L, v1, x, rfl, hv1, n2.1, by omega, by omega, fun H1 s1 => ⟨_, rfl, ?_⟩⟩
      cases ho : ok .st x with
      | false =>
        rw [ho, Bool.false_and] at q
        exact iteF (q H1 s1)
      | true =>
        rw [ho, Bool.true_and] at q
        refine iteT ?_
        exact ⟨_, rfl, a, _, 2, _, rfl, rfl, TKs.of s1 _ _ ha, atI_nat (j := 2) rfl, L, v2, y, rfl, hv2.mono (.of s1), n2.2, by omega, by omega, fun H2 s2 => q H2 (s1.trans s2)⟩
    · exact iteF (q H (Same.refl H))
  rw [if_neg hp2] at q
  rw [decide_eq_false hp2]
  refine iteF ?_
  refine ⟨_, rfl, a, _, rfl, .inr ha, rfl, _, rfl, ?_⟩
  rw [el2]
  rcases hs with _ | ⟨x, _ | ⟨y, r⟩⟩
  · refine iteT ?_
    have : (if m = "open" then false else if m = "list" then false else false) = false := by split <;> first | rfl | (split <;> rfl)
    have q : ∀ H', Same H H' → Q (.bl (if m = "open" then false else if m = "list" then false else false)) H' := q
    rw [this] at q
    exact q H (Same.refl H)
  rotate_left
  · refine iteT ?_
    have : (if m = "open" then false else if m = "list" then false else false) = false := by split <;> first | rfl | (split <;> rfl)
    have q : ∀ H', Same H H' → Q (.bl (if m = "open" then false else if m = "list" then false else false)) H' := q
    rw [this] at q
    exact q H (Same.refl H)
  refine iteF ?_
  cases hx with
  | @cons v1 _ _ _ hv1 hx =>
  cases hx
  have q : ∀ H', Same H H' → Q (.bl (if m = "open" then ltB az x else if m = "list" then ok .kd x else false)) H' := q
  have n2 : (noD x && true) = true := hnd'.2
  rw [Bool.and_true] at n2
  have z2 : 1 + (sz (.str m) + (sz x + 0)) ≤ 900000 := hz'
  have d2 : 1 + max (dep (.str m)) (max (dep x) 0) < n + 1 := hd'
  refine ⟨_, rfl, a, _, 0, _, rfl, rfl, ha, i0, _, _, L, rfl, hu1, nd1, _, rfl, ?_⟩
  show if decide (m = "open") = true then _ else _
  by_cases hp3 : m = "open"
  · rw [if_pos hp3] at q
    rw [decide_eq_true hp3]
    refine iteT ?_
    exact ⟨_, rfl, a, _, 1, _, rfl, rfl, ha, atI_nat (j := 1) rfl, L, v1, x, az, rfl, hv1, q⟩
  rw [if_neg hp3] at q
  rw [decide_eq_false hp3]
  refine iteF ?_
  refine ⟨_, rfl, a, _, 0, _, rfl, rfl, ha, i0, _, _, L, rfl, hu1, nd1, _, rfl, ?_⟩
  show if decide (m = "list") = true then _ else _
  by_cases hp4 : m = "list"
  · rw [if_pos hp4] at q
    rw [decide_eq_true hp4]
    refine iteT ?_
    exact ⟨_, rfl, a, _, 1, _, rfl, rfl, ha, atI_nat (j := 1) rfl, L, v1, x, rfl, hv1, n2, by omega, by omega, q⟩
  · rw [if_neg hp4] at q
    rw [decide_eq_false hp4]
    exact iteF (q H (Same.refl H))
end
end K15
namespace K15
open PySem PySem.W L2 SX Cm
theorem ok_st0 {d : PyData} (h : ∀ r ks, d ≠ .tuple [.str r, .tuple ks]) : ok .st d = false := ok_none (by
  show askS d = none
  unfold askS
  split
  · exact absurd rfl (h _ _)
  · rfl)
section
variable {P : Program} {w : World} {K : PySem.W.Frag} {mg : Str → Option Value} {base : Heap}
abbrev NLS : List Str := ["_law_thing", "_law_kind_here"]
theorem scLStack : FnScope NLS ["_law_thing"] (defScope sLStack) := ⟨rfl, rfl, rfl, by decide +kernel, rfl, by decide +kernel, by decide +kernel⟩
theorem ok_lstack0 {f : Addr} {fd : FuncData} (F : Fun K "_law_is_stack" "_law_is_stack" sLStack f fd) : FnOk P w K mg base CX0 3 f fd ["_law_thing"] (spLS K .st 0) := by
  refine F.ok scLStack (fun vs H Q E h => ?_) (fun cdv A outer s H vs Q E hr h => ?_)
  · obtain ⟨L, v, d, rfl, _⟩ := h
    rfl
  · obtain ⟨L, v, d, rfl, _, _, _, h, _⟩ := h
    exact absurd h (Nat.not_lt_zero _)
theorem ok_lstack {n : Nat} {f gk gn : Addr} {fd gkd gnd : FuncData} (F : Fun K "_law_is_stack" "_law_is_stack" sLStack f fd) (T : Ty4 mg)
    (G : FnOk P w K mg base CX0 (3 + n) gk gkd ["_law_thing"] (spLS K .kd n)) (bG : L2.Binds K gkd ["_law_thing"] []) (kG : keepIn K (.ref gk) = true) (mG : mg "_law_is_kind" = some (.ref gk))
    (N : FnOk P w K mg base CX0 2 gn gnd ["_law_thing", "_law_letters"] (spLet K)) (bN : L2.Binds K gnd ["_law_thing", "_law_letters"] []) (kN : keepIn K (.ref gn) = true) (mN : mg "_law_is_name" = some (.ref gn)) : FnOk P w K mg base CX0 (3 + n + 1) f fd ["_law_thing"] (spLS K .st (n + 1)) := by
  refine F.ok scLStack (fun vs H Q E h => ?_) (fun cdv A outer s H vs Q E hr h => ?_)
  · obtain ⟨L, v, d, rfl, _⟩ := h
    rfl
  obtain ⟨L, v, d, rfl, hv, hnd, hz, hd, q⟩ := h
  refine ⟨_, pss_cons (ps_if (PW.pt (pw_or (pt_not (pt_val (pe_callB call_isi (by rfl) T.isi PyProof.Rows.boot_isinstance (pa_cons (pv 0) (pa_cons (pe_bltn (v := .ty "tuple") (by rfl) T.tup (by decide +kernel) rfl) pa_nil))))) (pw_or (pt_cmpR op_ne (pe_callB call_len_seq (by rfl) T.len PySem.boot_len (pa_cons (pv 0) pa_nil)) pe_int (nomark _)) (pw_or1 (pt_not (pt_val (pe_callB call_isi (by rfl) T.isi PyProof.Rows.boot_isinstance (pa_cons (pe_ix ix_tup (pv 0) pe_int (fun _ _ => rfl)) (pa_cons (pe_bltn (v := .ty "tuple") (by rfl) T.tup (by decide +kernel) rfl) pa_nil))))))))) (pss_one (ps_ret pe_bl)) pss_nil)
    (pss_cons (ps_if (PW.pt (pw_or (pt_not (pt_val (pe_callB call_isi (by rfl) T.isi PyProof.Rows.boot_isinstance (pa_cons (pe_ix ix_tup (pv 0) pe_int (fun _ _ => rfl)) (pa_cons (pe_bltn (v := .ty "str") (by rfl) T.str (by decide +kernel) rfl) pa_nil))))) (pw_or1 (pt_not (pt_val (pe_call N (hr.mono (by omega)) rfl mN kN bN .nil pass0 (pa_cons (pe_orT (pe_ix ix_tup (pv 0) pe_int (fun _ _ => rfl)) (pe_one pe_str)) (pa_cons pe_str pa_nil)))))))) (pss_one (ps_ret pe_bl)) pss_nil)
    (pss_one (ps_ret (pe_cmpR (op_eqNil hr.units) (pe_lc (own := [("_law_kind_here", 1)]) (g := gName 1) rfl scLStack.nd (pi_tup (pe_ix ix_tup (pv 0) pe_int (fun _ _ => rfl))) (blkOk_by (own := [("_law_kind_here", 1)]) (N := NLS) (sc := defScope sLStack) (by decide +kernel))
        (fun _ _ _ _ _ => pg_name (i := 1) scLStack.nd rfl (Or.inl rfl)) (fun _ _ _ _ _ => pts_one (pt_not (pt_val (pe_call G hr rfl mG kG bG .nil pass0 (pa_cons (pv 1) pa_nil))))) (fun _ _ _ _ _ => pv 1)) (pe_lst pa_nil) (nomark _))))), ?_⟩
  have e4 : ("ABCDEFGHIJKLMNOPQRSTUVWXYZ" : Str) = S AZ := by decide +kernel
  rw [e4]
  obtain ⟨ty, ht, h1, _⟩ := hv.ty
  refine ⟨_, rfl, _, _, _, _, _, rfl, .ty _, ht, h1, _, rfl, ?_⟩
  cases hT : kTupB d with
  | false =>
    rw [ok_st0 (fun r ks z => by rw [z] at hT; cases hT)] at q
    exact iteT (iteT (q H (Same.refl H)))
  | true =>
  refine iteF ?_
  obtain ⟨ds, rfl⟩ := kTupB_of hT
  obtain ⟨a, xs, rfl, ha, hx⟩ := hv.tupD
  have lx := hx.len
  refine ⟨_, rfl, a, xs, rfl, .inr ha, rfl, _, rfl, ?_⟩
  by_cases h2 : ds.length = 2
  rotate_left
  · have : (!decide (V.int (xs.length : Int) = V.int 2)) = true := by
      rw [lx, decide_eq_false (fun z => h2 (by have := V.int.inj z; omega))]; rfl
    rw [this]
    rw [ok_st0 (fun r ks z => h2 (by cases z; rfl))] at q
    exact iteT (iteT (q H (Same.refl H)))
  have : (!decide (V.int (xs.length : Int) = V.int 2)) = false := by rw [lx, h2]; rfl
  rw [this]
  refine iteF ?_
  obtain ⟨e1, e2, rfl⟩ : ∃ e1 e2, ds = [e1, e2] := by
    rcases ds with _ | ⟨x, _ | ⟨y, _ | ⟨z, r⟩⟩⟩
    · cases h2
    · cases h2
    · exact ⟨x, y, rfl⟩
    · simp only [List.length_cons] at h2; omega
  cases hx with
  | @cons u1 _ _ _ hu1 hx =>
  cases hx with
  | @cons u2 _ _ _ hu2 hx =>
  cases hx
  have i0 : atI [u1, u2] (0 : Int) = some u1 := atI_nat (j := 0) rfl
  have i1 : atI [u1, u2] (1 : Int) = some u2 := atI_nat (j := 1) rfl
  obtain ⟨ty2, ht2, g2, _⟩ := hu2.ty
  refine ⟨_, rfl, a, _, 1, _, rfl, rfl, ha, i1, _, _, _, _, _, rfl, .ty _, ht2, g2, _, rfl, ?_⟩
  cases hK : kTupB e2 with
  | false =>
    rw [ok_st0 (fun r ks z => by cases z; cases hK)] at q
    exact iteT (q H (Same.refl H))
  | true =>
  refine iteF ?_
  obtain ⟨ks, rfl⟩ := kTupB_of hK
  obtain ⟨ty1, ht1, _, g1, _⟩ := hu1.ty
  refine ⟨_, rfl, a, _, 0, _, rfl, rfl, ha, i0, _, _, _, _, _, rfl, .ty _, ht1, g1, _, rfl, ?_⟩
  cases hS : kStrB e1 with
  | false =>
    rw [ok_st0 (fun r ks z => by cases z; cases hS)] at q
    exact iteT (iteT (q H (Same.refl H)))
  | true =>
  refine iteF ?_
  obtain ⟨m, rfl⟩ := kStrB_of hS
  cases hu1 with
  | str hmz =>
  rw [ok_st2] at q
  refine ⟨_, rfl, a, _, 0, _, rfl, rfl, ha, i0, _, ⟨hmz.sz, rfl⟩, ?_⟩
  by_cases hm0 : m = ""
  · subst hm0
    have k0 : ((((("" : Str)).length : Nat) : Int) != 0) = false := by decide +kernel
    rw [k0]
    refine iteF ?_
    refine ⟨L, .str "A", .str "A", AZ, rfl, .str (Tx.lit (by decide +kernel)), fun H1 s1 => ⟨_, rfl, ?_⟩⟩
    have kA : ltB AZ (.str "A") = true := by decide +kernel
    rw [kA]
    refine iteF ?_
    rw [decide_eq_true rfl, Bool.true_or, Bool.true_and] at q
    obtain ⟨b, ys, rfl, hb0, hy⟩ := hu2.tupD
    have ly := hy.len
    have lz := szs_len ks
    have hz' : 1 + (1 + (sz (.tuple ks) + 0)) ≤ 900000 := by rw [sz_tuple] at hz; exact hz
    rw [sz_tuple] at hz'
    have hd' : 1 + max 0 (max (dep (.tuple ks)) 0) < n + 1 := by rw [dep_tuple] at hd; exact hd
    rw [dep_tuple] at hd'
    have nk : (true && (noDs ks && true)) = true := hnd
    rw [Bool.true_and, Bool.and_true] at nk
    have hb := TKs.of s1 _ _ hb0
    refine ⟨_, rfl, a, _, 1, _, rfl, rfl, TKs.of s1 _ _ ha, i1, b, rfl, ⟨_, hb⟩, fun D hD => lc_tup (K := K) (a := b) (xs := ys) (fun i H4 => ∃ acc, H4 D = some (.lst acc) ∧ Same H1 H4 ∧ acc.isEmpty = (ks.take i).all (ok .kd) ∧ acc.length ≤ i) ⟨[], upd_same, same_new hD _, rfl, Nat.le_refl 0⟩ (fun i H4 _ h => ?_) ?_ ?_⟩
    · obtain ⟨acc, _, s4, _⟩ := h
      exact TKs.of s4 _ _ hb
    · rintro i x H4 hi ⟨acc, e4, s4, hw, hl⟩
      obtain ⟨y, hy', hty⟩ := hy.get hi
      have hil : i < ys.length := (List.getElem?_eq_some_iff.mp hi).1
      have ym : y ∈ ks := List.mem_of_getElem? hy'
      have m1 := szs_mem ym
      have m2 := deps_mem ym
      refine ⟨rfl, _, rfl, L, x, y, rfl, hty.mono (.of (s1.trans s4)), noDs_mem nk ym, by omega, by omega, fun H5 s5 => ⟨_, rfl, ?_⟩⟩
      have e5 := s5 _ _ e4
      have htk : (ks.take (i + 1)).all (ok .kd) = ((ks.take i).all (ok .kd) && ok .kd y) := by
        rw [List.take_add_one, hy', List.all_append]
        show (_ && (ok .kd y && true)) = _
        rw [Bool.and_true]
      cases ho : ok .kd y with
      | true =>
        refine iteF ?_
        rw [ho, Bool.and_true] at htk
        exact ⟨acc, e5, s4.trans s5, by rw [hw, htk], by omega⟩
      | false =>
        refine iteT ?_
        rw [ho, Bool.and_false] at htk
        refine ⟨_, rfl, acc, e5, midlt (by omega), acc ++ [x], upd_same, own_new (s4.trans s5) hD, ?_, by rw [List.length_append, List.length_singleton]; omega⟩
        rw [htk]
        cases acc <;> rfl
    · rintro H4 ⟨acc, e4, s4, hw, hl⟩
      rw [ly, List.take_length] at hw
      refine ⟨(by show 0 ≤ sizeLine; decide), fun p np => ?_⟩
      refine ⟨D, p, acc, rfl, rfl, SqL.of (kn e4 np), SqL.of upd_same, ?_⟩
      rw [hw]
      exact q _ ((s1.trans s4).trans (same_new np _))
  · have lm : (((m.length : Nat) : Int) != 0) = true := by
      rw [bne_iff_ne]
      intro z
      refine hm0 ?_
      rw [← S_tl m]
      have : (TL.tl m).length = 0 := by rw [← TL.len_tl]; omega
      rw [List.eq_nil_of_length_eq_zero this]
      decide +kernel
    rw [lm]
    refine iteT ?_
    refine ⟨L, .str m, .str m, AZ, rfl, .str hmz, fun H1 s1 => ⟨_, rfl, ?_⟩⟩
    show if (!nmB AZ (TL.tl m)) = true then _ else _
    rw [decide_eq_false hm0, Bool.false_or] at q
    cases hn : nmB AZ (TL.tl m) with
    | false =>
      rw [hn, Bool.false_and] at q
      exact iteT (q H1 s1)
    | true =>
    rw [hn, Bool.true_and] at q
    refine iteF ?_
    obtain ⟨b, ys, rfl, hb0, hy⟩ := hu2.tupD
    have ly := hy.len
    have lz := szs_len ks
    have hz' : 1 + (1 + (sz (.tuple ks) + 0)) ≤ 900000 := by rw [sz_tuple] at hz; exact hz
    rw [sz_tuple] at hz'
    have hd' : 1 + max 0 (max (dep (.tuple ks)) 0) < n + 1 := by rw [dep_tuple] at hd; exact hd
    rw [dep_tuple] at hd'
    have nk : (true && (noDs ks && true)) = true := hnd
    rw [Bool.true_and, Bool.and_true] at nk
    have hb := TKs.of s1 _ _ hb0
    refine ⟨_, rfl, a, _, 1, _, rfl, rfl, TKs.of s1 _ _ ha, i1, b, rfl, ⟨_, hb⟩, fun D hD => lc_tup (K := K) (a := b) (xs := ys) (fun i H4 => ∃ acc, H4 D = some (.lst acc) ∧ Same H1 H4 ∧ acc.isEmpty = (ks.take i).all (ok .kd) ∧ acc.length ≤ i) ⟨[], upd_same, same_new hD _, rfl, Nat.le_refl 0⟩ (fun i H4 _ h => ?_) ?_ ?_⟩
    · obtain ⟨acc, _, s4, _⟩ := h
      exact TKs.of s4 _ _ hb
    · rintro i x H4 hi ⟨acc, e4, s4, hw, hl⟩
      obtain ⟨y, hy', hty⟩ := hy.get hi
      have hil : i < ys.length := (List.getElem?_eq_some_iff.mp hi).1
      have ym : y ∈ ks := List.mem_of_getElem? hy'
      have m1 := szs_mem ym
      have m2 := deps_mem ym
      refine ⟨rfl, _, rfl, L, x, y, rfl, hty.mono (.of (s1.trans s4)), noDs_mem nk ym, by omega, by omega, fun H5 s5 => ⟨_, rfl, ?_⟩⟩
      have e5 := s5 _ _ e4
      have htk : (ks.take (i + 1)).all (ok .kd) = ((ks.take i).all (ok .kd) && ok .kd y) := by
        rw [List.take_add_one, hy', List.all_append]
        show (_ && (ok .kd y && true)) = _
        rw [Bool.and_true]
      cases ho : ok .kd y with
      | true =>
        refine iteF ?_
        rw [ho, Bool.and_true] at htk
        exact ⟨acc, e5, s4.trans s5, by rw [hw, htk], by omega⟩
      | false =>
        refine iteT ?_
        rw [ho, Bool.and_false] at htk
        refine ⟨_, rfl, acc, e5, midlt (by omega), acc ++ [x], upd_same, own_new (s4.trans s5) hD, ?_, by rw [List.length_append, List.length_singleton]; omega⟩
        rw [htk]
        cases acc <;> rfl
    · rintro H4 ⟨acc, e4, s4, hw, hl⟩
      rw [ly, List.take_length] at hw
      refine ⟨(by show 0 ≤ sizeLine; decide), fun p np => ?_⟩
      refine ⟨D, p, acc, rfl, rfl, SqL.of (kn e4 np), SqL.of upd_same, ?_⟩
      rw [hw]
      exact q _ ((s1.trans s4).trans (same_new np _))
end
end K15
namespace K15
open PySem PySem.W L2 SX Cm
theorem ok_rwN {ds : List PyData} (h : ds.length ≠ 2) : ok .rw (.tuple ds) = false := ok_none (by
  show askR ds = none
  unfold askR
  split
  · exact absurd rfl h
  · rfl)
theorem ok_rw0 {d : PyData} (h : kTupB d = false) : ok .rw d = false := ok_none (by show askRow d = none; cases d <;> first | rfl | cases h)
section
variable {P : Program} {w : World} {K : PySem.W.Frag} {mg : Str → Option Value} {base : Heap}
theorem scLRow : FnScope ["_law_thing"] ["_law_thing"] (defScope sLRow) := ⟨rfl, rfl, rfl, by decide +kernel, rfl, by decide +kernel, by decide +kernel⟩
theorem ok_lrow {n : Nat} {f gs : Addr} {fd gsd : FuncData} (F : Fun K "_law_is_row" "_law_is_row" sLRow f fd) (T : Ty4 mg)
    (Z : FnOk P w K mg base CX0 (3 + n) gs gsd ["_law_thing"] (spLS K .st n)) (bZ : L2.Binds K gsd ["_law_thing"] []) (kZ : keepIn K (.ref gs) = true) (mZ : mg "_law_is_stack" = some (.ref gs)) : FnOk P w K mg base CX0 (3 + n + 1) f fd ["_law_thing"] (spLS K .rw (n + 1)) := by
  refine F.ok scLRow (fun vs H Q E h => ?_) (fun cdv A outer s H vs Q E hr h => ?_)
  · obtain ⟨L, v, d, rfl, _⟩ := h
    rfl
  obtain ⟨L, v, d, rfl, hv, hnd, hz, hd, q⟩ := h
  refine ⟨_, pss_one (ps_ret (pe_and (pe_callB call_isi (by rfl) T.isi PyProof.Rows.boot_isinstance (pa_cons (pv 0) (pa_cons (pe_bltn (v := .ty "tuple") (by rfl) T.tup (by decide +kernel) rfl) pa_nil))) (pe_and (pe_cmpR op_eq (pe_callB call_len_seq (by rfl) T.len PySem.boot_len (pa_cons (pv 0) pa_nil)) pe_int (nomark _)) (pe_and (pe_call Z hr rfl mZ kZ bZ .nil pass0 (pa_cons (pe_ix ix_tup (pv 0) pe_int (fun _ _ => rfl)) pa_nil)) (pe_one (pe_call Z hr rfl mZ kZ bZ .nil pass0 (pa_cons (pe_ix ix_tup (pv 0) pe_int (fun _ _ => rfl)) pa_nil))))))), ?_⟩
  obtain ⟨ty, ht, h1, _⟩ := hv.ty
  refine ⟨_, rfl, _, _, _, _, _, rfl, .ty _, ht, h1, _, rfl, ?_⟩
  cases hT : kTupB d with
  | false =>
    rw [ok_rw0 hT] at q
    exact iteF (q H (Same.refl H))
  | true =>
  refine iteT ?_
  obtain ⟨ds, rfl⟩ := kTupB_of hT
  obtain ⟨a, xs, rfl, ha, hx⟩ := hv.tupD
  have lx := hx.len
  refine ⟨_, rfl, a, xs, rfl, .inr ha, rfl, _, rfl, ?_⟩
  by_cases h2 : ds.length = 2
  rotate_left
  · rw [lx, decide_eq_false (fun z => h2 (by have := V.int.inj z; omega))]
    rw [ok_rwN h2] at q
    exact iteF (q H (Same.refl H))
  rw [lx, h2]
  refine iteT ?_
  obtain ⟨x, y, rfl⟩ : ∃ e1 e2, ds = [e1, e2] := by
    rcases ds with _ | ⟨x, _ | ⟨y, _ | ⟨z, r⟩⟩⟩
    · cases h2
    · cases h2
    · exact ⟨x, y, rfl⟩
    · simp only [List.length_cons] at h2; omega
  cases hx with
  | @cons v1 _ _ _ hv1 hx =>
  cases hx with
  | @cons v2 _ _ _ hv2 hx =>
  cases hx
  rw [ok_rw2] at q
  have n2 : (noD x && (noD y && true)) = true := hnd
  rw [Bool.and_true, Bool.and_eq_true] at n2
  have z2 : 1 + (sz x + (sz y + 0)) ≤ 900000 := by rw [sz_tuple] at hz; exact hz
  have d2 : 1 + max (dep x) (max (dep y) 0) < n + 1 := by rw [dep_tuple] at hd; exact hd
  refine ⟨_, rfl, a, _, 0, _, rfl, rfl, ha, atI_nat (j := 0) rfl, L, v1, x, rfl, hv1, n2.1, by omega, by omega, fun H1 s1 => ⟨_, rfl, ?_⟩⟩
  cases ho : ok .st x with
  | false =>
    rw [ho, Bool.false_and] at q
    exact iteF (q H1 s1)
  | true =>
    rw [ho, Bool.true_and] at q
    refine iteT ?_
    exact ⟨_, rfl, a, _, 1, _, rfl, rfl, TKs.of s1 _ _ ha, atI_nat (j := 1) rfl, L, v2, y, rfl, hv2.mono (.of s1), n2.2, by omega, by omega, fun H2 s2 => q H2 (s1.trans s2)⟩
end
end K15
namespace K15
open PySem PySem.W L2 SX Cm
theorem dpBl {K : Frag} {H : Hp} : ∀ bs : List Bool, DpAll K H (bs.map V.bl) (bs.map PyData.bool)
  | [] => .nil
  | b :: r => .cons (.bl b) (dpBl r)
section
variable {P : Program} {w : World} {K : PySem.W.Frag} {mg : Str → Option Value} {base : Heap}
def spRight (K : Frag) (n : Nat) : Sp := fun vs H Q _ => ∃ (L : List Addr) (v : V) (d : PyData), vs = [v] ∧ Bt K L H v d ∧ noD d = true ∧ sz d ≤ 900000 ∧ dep d < n ∧ ∀ H', Same H H' → Q (.bl true) H'
abbrev NR : List Str := ["_law_thing", "_law_told", "_law_one"]
theorem scRight : FnScope NR ["_law_thing"] (defScope sRight) := ⟨rfl, rfl, rfl, by decide +kernel, rfl, by decide +kernel, by decide +kernel⟩
theorem ok_right {n : Nat} {f l1 l2 l3 g1 g2 g3 : Addr} {fd e1 e2 e3 d1 d2 d3 : FuncData} (F : Fun K "_law_right" "_law_right" sRight f fd) (T : Ty4 mg) (mall : mg "all" = none) (h7 : 7 ≤ 3 + n)
    (G1 : FnOk P w K mg base CX0 (3 + n) l1 e1 ["_law_thing"] (spLS K .kd n)) (c1 : L2.Binds K e1 ["_law_thing"] []) (j1 : keepIn K (.ref l1) = true) (i1 : mg "_law_is_kind" = some (.ref l1))
    (G2 : FnOk P w K mg base CX0 (3 + n) l2 e2 ["_law_thing"] (spLS K .st n)) (c2 : L2.Binds K e2 ["_law_thing"] []) (j2 : keepIn K (.ref l2) = true) (i2 : mg "_law_is_stack" = some (.ref l2))
    (G3 : FnOk P w K mg base CX0 (3 + n) l3 e3 ["_law_thing"] (spLS K .rw n)) (c3 : L2.Binds K e3 ["_law_thing"] []) (j3 : keepIn K (.ref l3) = true) (i3 : mg "_law_is_row" = some (.ref l3))
    (I1 : FnOk P w K mg base CX0 7 g1 d1 ["thing"] (spIs K .kd)) (b1 : L2.Binds K d1 ["thing"] []) (k1 : keepIn K (.ref g1) = true) (m1 : mg "is_kind" = some (.ref g1))
    (I2 : FnOk P w K mg base CX0 7 g2 d2 ["thing"] (spIs K .st)) (b2 : L2.Binds K d2 ["thing"] []) (k2 : keepIn K (.ref g2) = true) (m2 : mg "is_stack_kind" = some (.ref g2))
    (I3 : FnOk P w K mg base CX0 7 g3 d3 ["thing"] (spIs K .rw)) (b3 : L2.Binds K d3 ["thing"] []) (k3 : keepIn K (.ref g3) = true) (m3 : mg "is_row_kind" = some (.ref g3)) : FnOk P w K mg base CX0 (3 + n + 1) f fd ["_law_thing"] (spRight K n) := by
  refine F.ok scRight (fun vs H Q E h => ?_) (fun cdv A outer s H vs Q E hr h => ?_)
  · obtain ⟨L, v, d, rfl, _⟩ := h
    rfl
  obtain ⟨L, v, d, rfl, hv, hnd, hz, hd, q⟩ := h
  have hr7 := hr.mono (j := 7) h7
  refine ⟨_, pss_cons (ps_set (i := 1) scRight.nd rfl (.inl rfl) (pe_lst (pa_cons (pe_call I1 hr7 rfl m1 k1 b1 .nil pass0 (pa_cons (pv 0) pa_nil)) (pa_cons (pe_call I2 hr7 rfl m2 k2 b2 .nil pass0 (pa_cons (pv 0) pa_nil)) (pa_cons (pe_call I3 hr7 rfl m3 k3 b3 .nil pass0 (pa_cons (pv 0) pa_nil)) pa_nil)))))
    (pss_cons (ps_if (pt_not (pt_val (pe_callB (cr_all rfl) (by rfl) mall PyProof.Rows.boot_all (pa_cons (pe_lc (own := [("_law_one", 2)]) (g := gName 2) (tt := tYes) (te := tCB (rIsi K) (tCons (tVar 2) (tCons (tC (V.ty "bool")) tNil))) rfl scRight.nd (pi_list (pv 1)) (blkOk_by (own := [("_law_one", 2)]) (N := NR) (sc := defScope sRight) (by decide +kernel))
        (fun _ _ _ _ _ => pg_name (i := 2) scRight.nd rfl (Or.inl rfl)) (fun _ _ _ _ _ => pts_nil) (fun _ _ _ _ _ => pe_callB call_isi (by rfl) T.isi PyProof.Rows.boot_isinstance (pa_cons (pv 2) (pa_cons (pe_bltn (v := .ty "bool") (by rfl) T.bool (by decide +kernel) rfl) pa_nil)))) pa_nil)))) (pss_one (ps_ret pe_bl)) pss_nil)
    (pss_one (ps_ret (pe_cmpR (op_eqD hr.units) (pv 1) (pe_lst (pa_cons (pe_call G1 hr rfl i1 j1 c1 .nil pass0 (pa_cons (pv 0) pa_nil)) (pa_cons (pe_call G2 hr rfl i2 j2 c2 .nil pass0 (pa_cons (pv 0) pa_nil)) (pa_cons (pe_call G3 hr rfl i3 j3 c3 .nil pass0 (pa_cons (pv 0) pa_nil)) pa_nil)))) (nomark _))))), ?_⟩
  refine ⟨_, rfl, L, v, d, rfl, hv, hz, fun H1 s1 => ⟨_, rfl, L, v, d, rfl, hv.mono (.of s1), hz, fun H2 s2 => ⟨_, rfl, L, v, d, rfl, hv.mono (.of (s1.trans s2)), hz, fun H3 s3 => ⟨(by show 3 ≤ sizeLine; decide), fun pf nf => ?_⟩⟩⟩⟩
  have s4 := ((s1.trans s2).trans s3).trans (same_new nf (.lst [.bl (ok .kd d), .bl (ok .st d), .bl (ok .rw d)]))
  have e4 : upd H3 pf (.lst [.bl (ok .kd d), .bl (ok .st d), .bl (ok .rw d)]) pf = some (.lst [.bl (ok .kd d), .bl (ok .st d), .bl (ok .rw d)]) := upd_same
  generalize upd H3 pf (.lst [.bl (ok .kd d), .bl (ok .st d), .bl (ok .rw d)]) = H4 at s4 e4
  refine ⟨_, rfl, pf, rfl, ⟨_, SqL.of e4⟩, fun D hD => lc_list (K := K) (a := pf) (xs := [.bl (ok .kd d), .bl (ok .st d), .bl (ok .rw d)]) (fun i H5 => H5 D = some (.lst (List.replicate i (V.bl true))) ∧ Same H4 H5) ⟨upd_same, same_new hD _⟩ (fun i H5 _ h => SqL.of (h.2 _ _ e4)) ?_ ?_⟩
  · rintro i x H5 hi ⟨a5, b5⟩
    obtain ⟨b, rfl⟩ : ∃ b, x = .bl b := by
      have := List.mem_of_getElem? hi
      simp only [List.mem_cons, List.not_mem_nil, or_false] at this
      rcases this with rfl | rfl | rfl <;> exact ⟨_, rfl⟩
    have hi3 : i < 3 := (List.getElem?_eq_some_iff.mp hi).1
    refine ⟨rfl, _, rfl, _, _, _, _, true, rfl, .ty _, .base (.bl _), kit_ty (r := true) (by decide +kernel), _, a5, by rw [List.length_replicate]; exact midlt (by omega), ?_, own_new b5 hD⟩
    rw [upd_same, List.replicate_succ']
  · rintro H5 ⟨a5, b5⟩
    refine ⟨D, [true, true, true], rfl, SqL.of a5, _, rfl, iteF ?_⟩
    have s5 := s4.trans b5
    refine ⟨_, rfl, _, rfl, L, v, d, rfl, hv.mono (.of s5), hnd, hz, hd, fun H6 s6 => ⟨_, rfl, L, v, d, rfl, hv.mono (.of (s5.trans s6)), hnd, hz, hd, fun H7 s7 => ⟨_, rfl, L, v, d, rfl, hv.mono (.of ((s5.trans s6).trans s7)), hnd, hz, hd, fun H8 s8 => ⟨(by show 3 ≤ sizeLine; decide), fun p np => ?_⟩⟩⟩⟩
    have s9 := (((b5.trans s6).trans s7).trans s8).trans (same_new np (.lst [.bl (ok .kd d), .bl (ok .st d), .bl (ok .rw d)]))
    refine ⟨_, _, .lst (SqL.of (s9 _ _ e4)) (dpBl [ok .kd d, ok .st d, ok .rw d]), .lst (SqL.of upd_same) (dpBl [ok .kd d, ok .st d, ok .rw d]), rfl, rfl, ?_⟩
    have : PyData.eqv (.list ([ok .kd d, ok .st d, ok .rw d].map PyData.bool)) (.list ([ok .kd d, ok .st d, ok .rw d].map PyData.bool)) = true := by
      cases ok .kd d <;> cases ok .st d <;> cases ok .rw d <;> rfl
    rw [this]
    exact q _ (s4.trans s9)
end
end K15
namespace K15
open PySem PySem.W L2 SX Cm
theorem btDrop {K : Frag} {L : List Addr} {H : Hp} : ∀ (n : Nat) {xs : List V} {ds : List PyData}, BtAll K L H xs ds → BtAll K L H (xs.drop n) (ds.drop n)
  | 0, _, _, h => h
  | _ + 1, _, _, .nil => .nil
  | n + 1, _, _, .cons _ t => btDrop n t
theorem btTake {K : Frag} {L : List Addr} {H : Hp} : ∀ (n : Nat) {xs : List V} {ds : List PyData}, BtAll K L H xs ds → BtAll K L H (xs.take n) (ds.take n)
  | 0, _, _, _ => .nil
  | _ + 1, _, _, .nil => .nil
  | n + 1, _, _, .cons h t => .cons h (btTake n t)
theorem szDrop : ∀ (n : Nat) (ds : List PyData), szs (ds.drop n) ≤ szs ds ∧ deps (ds.drop n) ≤ deps ds
  | 0, ds => ⟨Nat.le_refl _, Nat.le_refl _⟩
  | _ + 1, [] => ⟨Nat.le_refl _, Nat.le_refl _⟩
  | n + 1, d :: r => by
    obtain ⟨a, b⟩ := szDrop n r
    refine ⟨?_, ?_⟩
    · show szs (r.drop n) ≤ sz d + szs r
      omega
    · show deps (r.drop n) ≤ max (dep d) (deps r)
      omega
theorem szTake : ∀ (n : Nat) (ds : List PyData), szs (ds.take n) ≤ szs ds ∧ deps (ds.take n) ≤ deps ds
  | 0, ds => ⟨Nat.zero_le _, Nat.zero_le _⟩
  | _ + 1, [] => ⟨Nat.le_refl _, Nat.le_refl _⟩
  | n + 1, d :: r => by
    obtain ⟨a, b⟩ := szTake n r
    refine ⟨?_, ?_⟩
    · show sz d + szs (r.take n) ≤ sz d + szs r
      omega
    · show max (dep d) (deps (r.take n)) ≤ max (dep d) (deps r)
      omega
theorem ndDrop : ∀ (n : Nat) {ds : List PyData}, noDs ds = true → noDs (ds.drop n) = true
  | 0, _, h => h
  | _ + 1, [], h => h
  | n + 1, d :: r, h => by
    have h' : (noD d && noDs r) = true := h
    rw [Bool.and_eq_true] at h'
    exact ndDrop n h'.2
theorem ndTake : ∀ (n : Nat) {ds : List PyData}, noDs ds = true → noDs (ds.take n) = true
  | 0, _, _ => rfl
  | _ + 1, [], h => h
  | n + 1, d :: r, h => by
    have h' : (noD d && noDs r) = true := h
    rw [Bool.and_eq_true] at h'
    show (noD d && noDs (r.take n)) = true
    rw [h'.1, ndTake n h'.2]; rfl
theorem ndApp : ∀ {a b : List PyData}, noDs a = true → noDs b = true → noDs (a ++ b) = true
  | [], _, _, h => h
  | d :: r, b, h, g => by
    have h' : (noD d && noDs r) = true := h
    rw [Bool.and_eq_true] at h'
    show (noD d && noDs (r ++ b)) = true
    rw [h'.1, ndApp h'.2 g]; rfl
theorem btRev {K : Frag} {L : List Addr} {H : Hp} : ∀ {xs : List V} {ds : List PyData}, BtAll K L H xs ds → BtAll K L H xs.reverse ds.reverse
  | _, _, .nil => .nil
  | _, _, .cons h t => by
    rw [List.reverse_cons, List.reverse_cons]
    exact (btRev t).append (.cons h .nil)
theorem szRev : ∀ (ds : List PyData), szs ds.reverse = szs ds ∧ deps ds.reverse = deps ds
  | [] => ⟨rfl, rfl⟩
  | d :: r => by
    obtain ⟨a, b⟩ := szRev r
    rw [List.reverse_cons, szs_append, deps_append, a, b]
    refine ⟨?_, ?_⟩
    · show szs r + (sz d + 0) = sz d + szs r
      omega
    · show max (deps r) (max (dep d) 0) = max (dep d) (deps r)
      omega
theorem btCut {K : Frag} {L : List Addr} {H : Hp} {xs : List V} {ds : List PyData} (h : BtAll K L H xs ds) (lo hi : Option Int) : ∃ es, BtAll K L H (cutV xs lo hi) es ∧ szs es ≤ szs ds ∧ deps es ≤ deps ds ∧ (noDs ds = true → noDs es = true) := by
  unfold cutV
  refine ⟨_, btTake _ (btDrop _ h), ?_, ?_, fun hn => ndTake _ (ndDrop _ hn)⟩
  · exact Nat.le_trans (szTake _ _).1 (szDrop _ _).1
  · exact Nat.le_trans (szTake _ _).2 (szDrop _ _).2
/-- a slice of a tuple of any values -/
theorem slB {K : Frag} {L : List Addr} {H : Hp} {a : Addr} {xs : List V} {ds : List PyData} {lo hi : Option Int} {Q : VK} (ha : SqT K H a xs) (hx : BtAll K L H xs ds)
    (q : ∀ (b : Addr) (ys : List V) (es : List PyData) (H' : Hp), Same H H' → SqT K H' b ys → BtAll K L H' ys es → szs es ≤ szs ds → deps es ≤ deps ds → (noDs ds = true → noDs es = true) → Q (.ref b) H') : rSlA K (.ref a) lo hi H Q := by
  refine ⟨a, xs, rfl, ha, fun _ => q a xs ds H (Same.refl H) ha hx (Nat.le_refl _) (Nat.le_refl _) (fun h => h), fun _ p np => ?_⟩
  obtain ⟨es, h1, h2, h3, h4⟩ := btCut hx lo hi
  exact q p _ es _ (same_new np _) (SqT.of upd_same) (h1.mono (.of (same_new np _))) h2 h3 h4
/-- the sum of two tuples of any values -/
theorem catB {K : Frag} {L : List Addr} {H : Hp} {a b : Addr} {xs ys : List V} {ds es : List PyData} {Q : VK} (ha : SqT K H a xs) (hx : BtAll K L H xs ds) (hb : SqT K H b ys) (hy : BtAll K L H ys es) (hl : szs ds + szs es ≤ 1000000)
    (q : ∀ (r : Addr) (zs : List V) (H' : Hp), Same H H' → SqT K H' r zs → BtAll K L H' zs (ds ++ es) → Q (.ref r) H') : rCatA K (.ref a) (.ref b) H Q := by
  have l1 := hx.len
  have l2 := hy.len
  have l3 := szs_len ds
  have l4 := szs_len es
  refine ⟨a, b, xs, ys, rfl, rfl, ha, hb, mid (by omega), fun e => ?_, fun _ e => ?_, fun _ _ p np => ?_⟩
  · subst e
    cases hx
    exact q b ys H (Same.refl H) hb hy
  · subst e
    cases hy
    rw [List.append_nil] at q
    exact q a xs H (Same.refl H) ha hx
  · exact q p _ _ (same_new np _) (SqT.of upd_same) ((hx.append hy).mono (.of (same_new np _)))
/-- an expression that makes a value anew, of this size and depth -/
def Gd (K : Frag) (L : List Addr) (H0 : Hp) (te : TE) (n m : Nat) : Prop := ∀ (σ : St) (H : Hp) (Q : VK), Same H0 H → (∀ (v : V) (e : PyData) (H' : Hp), Same H H' → Bt K L H' v e → sz e ≤ n → dep e ≤ m → noD e = true → Q v H') → te σ H Q
def GdA (K : Frag) (L : List Addr) (H0 : Hp) (ta : TA) (n m k : Nat) : Prop := ∀ (σ : St) (H : Hp) (Q : List V → Hp → Prop), Same H0 H → (∀ (vs : List V) (es : List PyData) (H' : Hp), Same H H' → BtAll K L H' vs es → szs es ≤ n → deps es ≤ m → vs.length = k → noDs es = true → Q vs H') → ta σ H Q
section
variable {K : Frag} {L : List Addr} {H0 : Hp}
theorem gd_c {v : V} {e : PyData} (h : ∀ H, Bt K L H v e) (hs : sz e ≤ 1) (hd : dep e ≤ 0) (hn : noD e = true) : Gd K L H0 (tC v) 1 0 := fun _ H Q _ q => q v e H (Same.refl H) (h H) hs hd hn
theorem gd_int (i : Int) : Gd K L H0 (tC (.int i)) 1 0 := gd_c (fun _ => .int i) (Nat.le_refl 1) (Nat.le_refl 0) rfl
theorem gd_bl (b : Bool) : Gd K L H0 (tC (.bl b)) 1 0 := gd_c (fun _ => .bl b) (Nat.le_refl 1) (Nat.le_refl 0) rfl
theorem gd_non : Gd K L H0 (tC .non) 1 0 := gd_c (fun _ => .non) (Nat.le_refl 1) (Nat.le_refl 0) rfl
theorem gd_str {z : Str} (h : litB z 100 = true) : Gd K L H0 (tC (.str z)) 1 0 := gd_c (fun _ => .str (Tx.lit h)) (Nat.le_refl 1) (Nat.le_refl 0) rfl
theorem gd_neg (i : Int) : Gd K L H0 (tUn (rU fun i => .int (-i)) (tC (.int i))) 1 0 := fun _ H Q _ q => ⟨_, rfl, q _ _ H (Same.refl H) (.int _) (Nat.le_refl 1) (Nat.le_refl 0) rfl⟩
theorem gda_nil : GdA K L H0 tNil 0 0 0 := fun _ H Q _ q => q [] [] H (Same.refl H) .nil (Nat.le_refl 0) (Nat.le_refl 0) rfl rfl
theorem gda_cons {te : TE} {ta : TA} {n m n' m' k : Nat} (h : Gd K L H0 te n m) (t : GdA K L H0 ta n' m' k) : GdA K L H0 (tCons te ta) (n + n') (max m m') (k + 1) := fun σ H Q s q =>
  h σ H _ s fun v e H1 s1 b1 z1 d1 n1 => t σ H1 _ (s.trans s1) fun vs es H2 s2 b2 z2 d2 l2 n2 => q (v :: vs) (e :: es) H2 (s1.trans s2) (.cons (b1.mono (.of s2)) b2) (by show sz e + szs es ≤ _; omega) (by show max (dep e) (deps es) ≤ _; omega) (by rw [List.length_cons, l2]) (by show (noD e && noDs es) = true; rw [n1, n2]; rfl)
theorem gd_tup {ta : TA} {n m k : Nat} (h : GdA K L H0 ta n m k) (hk : k ≤ 100) : Gd K L H0 (tTup ta) (n + 1) (m + 1) := fun σ H Q s q =>
  h σ H _ s fun vs es H1 s1 b1 z1 d1 l1 nn => ⟨mid (by omega), fun p np => q _ (.tuple es) _ (s1.trans (same_new np _)) (.tup (SqT.of upd_same) (b1.mono (.of (same_new np _)))) (by rw [sz_tuple]; omega) (by rw [dep_tuple]; omega) nn⟩
theorem gd_lst {ta : TA} {n m k : Nat} (hL : ∀ p, H0 p = none → p ∉ L) (h : GdA K L H0 ta n m k) (hk : k ≤ 100) : Gd K L H0 (tLst ta) 1 0 := fun σ H Q s q =>
  h σ H _ s fun vs es H1 s1 b1 z1 d1 l1 nn => ⟨mid (by omega), fun p np => q _ (.list []) _ (s1.trans (same_new np _)) (.lst (hL p ((s.trans s1).free np)) upd_same) (Nat.le_refl 1) (Nat.le_refl 0) rfl⟩
end
end K15
namespace K15
open PySem PySem.W L2 SX Cm
theorem split_at {ds : List PyData} {i : Nat} {x : PyData} (h : ds[i]? = some x) : ds = ds.take i ++ x :: ds.drop (i + 1) := by
  obtain ⟨hi, rfl⟩ := List.getElem?_eq_some_iff.mp h
  rw [List.getElem_cons_drop, List.take_append_drop]
theorem sz_split {ds : List PyData} {i : Nat} {x : PyData} (h : ds[i]? = some x) : szs ds = szs (ds.take i) + (sz x + szs (ds.drop (i + 1))) ∧ deps ds = max (deps (ds.take i)) (max (dep x) (deps (ds.drop (i + 1)))) := by
  have e := split_at h
  refine ⟨?_, ?_⟩
  · conv => lhs; rw [e]
    rw [szs_append]; rfl
  · conv => lhs; rw [e]
    rw [deps_append]; rfl
theorem slUpto {K : Frag} {H : Hp} {a : Addr} {xs : List V} {i : Nat} {Q : VK} (ha : SqT K H a xs) (q : ∀ p H', Same H H' → SqT K H' p (xs.take i) → Q (.ref p) H') : rSlA K (.ref a) none (some (i : Int)) H Q :=
  slT_upto (f := fun v : V => v) (xs := xs) (by rw [List.map_id']; exact ha) (fun p H' s h => q p H' s (by rw [List.map_id'] at h; exact h))
theorem Deck.bks {K : Frag} {H H' : Hp} {d c : Addr} (D : Deck H d c) (k : Kp [d, c] H H') : BKs K [d, c] H H' := ⟨TKs.kp k fun b hb => by
  obtain ⟨_, _, e1⟩ := D.at_
  obtain ⟨_, e2, _⟩ := D.cells
  rcases List.mem_cons.mp hb with z | z
  · rw [z]; exact ⟨_, e1⟩
  · rw [List.mem_singleton.mp z]; exact ⟨_, e2⟩, k⟩
section
variable {P : Program} {w : World} {K : PySem.W.Frag} {mg : Str → Option Value} {base : Heap}
def spBent (K : Frag) (n : Nat) : Sp := fun vs H Q _ => ∃ (d c : Addr) (v : V) (e : PyData), vs = [.ref d, v] ∧ Deck H d c ∧ Bt K [d, c] H v e ∧ (sz e ≤ 400000 ∧ noD e = true) ∧ dep e < n ∧
  ∀ (r : V) (e' : PyData) (H' : Hp), Bt K [d, c] H' r e' → (sz e' ≤ 2 * sz e + 60 ∧ noD e' = true) → dep e' ≤ dep e + 3 → Kp [d, c] H H' → Deck H' d c → Q r H'
abbrev A2 : List Str := ["_law_deck_here", "_law_thing"]
theorem scBent : FnScope ["_law_deck_here", "_law_thing", "_law_at"] A2 (defScope sBent) := ⟨rfl, rfl, rfl, by decide +kernel, rfl, by decide +kernel, by decide +kernel⟩
theorem ok_bent0 {f : Addr} {fd : FuncData} (F : Fun K "_law_bent" "_law_bent" sBent f fd) : FnOk P w K mg base CX0 3 f fd A2 (spBent K 0) := by
  refine F.ok scBent (fun vs H Q E h => ?_) (fun cdv A outer s H vs Q E hr h => ?_)
  · obtain ⟨d, c, v, e, rfl, _⟩ := h
    rfl
  · obtain ⟨d, c, v, e, rfl, _, _, _, h, _⟩ := h
    exact absurd h (Nat.not_lt_zero _)
theorem ok_bent {n : Nat} {f g go : Addr} {fd gd god : FuncData} (F : Fun K "_law_bent" "_law_bent" sBent f fd) (T : Ty4 mg) (G : FnOk P w K mg base CX0 2 g gd ["_law_deck_here", "_law_most"] spTake) (bG : L2.Binds K gd ["_law_deck_here", "_law_most"] []) (kG : keepIn K (.ref g) = true) (mG : mg "_law_draw" = some (.ref g))
    (O : FnOk P w K mg base CX0 3 go god A2 (spBent K (n + 1))) (bO : L2.Binds K god A2 []) (kO : keepIn K (.ref go) = true) (mO : mg "_law_odd" = some (.ref go))
    (B : FnOk P w K mg base CX0 (3 + n) f fd A2 (spBent K n)) (bB : L2.Binds K fd A2 []) (kB : keepIn K (.ref f) = true) (mB : mg "_law_bent" = some (.ref f)) : FnOk P w K mg base CX0 (3 + n + 1) f fd A2 (spBent K (n + 1)) := by
  refine F.ok scBent (fun vs H Q E h => ?_) (fun cdv A outer s H vs Q E hr h => ?_)
  · obtain ⟨d, c, v, e, rfl, _⟩ := h
    rfl
  obtain ⟨d, c, v, e, rfl, D, hv, hzn, hd, q⟩ := h
  have hz := hzn.1
  have hr2 := hr.mono (j := 2) (by omega)
  have hr3 := hr.mono (j := 3) (by omega)
  refine ⟨_, pss_cons (ps_if (PW.pt (pw_or (pt_not (pt_val (pe_callB call_isi (by rfl) T.isi PyProof.Rows.boot_isinstance (pa_cons (pv 1) (pa_cons (pe_bltn (v := .ty "tuple") (by rfl) T.tup (by decide +kernel) rfl) pa_nil)))))
      (pw_or (pt_cmpR (op_eqNilT hr.units) (pv 1) (pe_tup pa_nil) (nomark _)) (pw_or1 (pt_cmpR op_eq (pe_call G hr2 rfl mG kG bG .nil pass0 (pa_cons (pv 0) (pa_cons pe_int pa_nil))) pe_int (nomark _))))))
      (pss_one (ps_ret (pe_call O hr3 rfl mO kO bO .nil pass0 (pa_cons (pv 0) (pa_cons (pv 1) pa_nil))))) pss_nil)
    (pss_cons (ps_set (i := 2) scBent.nd rfl (.inl rfl) (pe_call G hr2 rfl mG kG bG .nil pass0 (pa_cons (pv 0) (pa_cons (pe_callB call_len_seq (by rfl) T.len PySem.boot_len (pa_cons (pv 1) pa_nil)) pa_nil))))
    (pss_one (ps_ret (pe_op op_catA (pe_op op_catA (pe_slice sl_tupA (pv 1) po_none (po_some (pv 2))) (pe_tup (pa_cons (pe_call B hr rfl mB kB bB .nil pass0 (pa_cons (pv 0) (pa_cons (pe_ix ix_tup (pv 1) (pv 2) (fun _ _ => rfl)) pa_nil))) pa_nil))) (pe_slice sl_tupA (pv 1) (po_some (pe_op op_add (pv 2) pe_int)) po_none))))), ?_⟩
  obtain ⟨ty, ht, g1, _⟩ := hv.ty
  refine ⟨_, rfl, _, _, _, _, _, rfl, .ty _, ht, g1, _, rfl, ?_⟩
  cases hT : kTupB e with
  | false =>
    refine iteT (iteT ?_)
    exact ⟨_, rfl, _, rfl, d, c, v, e, rfl, D, hv, hzn, hd, q⟩
  | true =>
  refine iteF ?_
  obtain ⟨ds, rfl⟩ := kTupB_of hT
  obtain ⟨a, xs, rfl, ha, hx⟩ := hv.tupD
  have lx := hx.len
  refine ⟨_, rfl, (by show 0 ≤ sizeLine; decide), fun p0 n0 => ?_⟩
  have s0 : Same H (upd H p0 (.tup [])) := same_new n0 _
  refine ⟨a, p0, xs, rfl, rfl, TKs.of s0 _ _ ha, SqT.of upd_same, _, rfl, ?_⟩
  generalize upd H p0 (.tup []) = H0 at s0
  have k0 : Kp [d, c] H H0 := fun a o _ e => s0 a o e
  have D0 := D.same s0
  have hv0 := hv.mono (.of s0)
  have back : ∀ H1, Kp [d, c] H0 H1 → Deck H1 d c → ∀ (σ : St), σ = [some (.ref d), some (.ref a), none] → True := fun _ _ _ _ _ => trivial
  have odd : ∀ H1, Kp [d, c] H0 H1 → Deck H1 d c → spBent K (n + 1) [.ref d, .ref a] H1 Q (fun _ _ _ => False) := fun H1 k1 D1 =>
    ⟨d, c, .ref a, .tuple ds, rfl, D1, hv0.mono (D0.bks k1), hzn, hd, fun r e' H' h1 h2 h3 h4 h5 => q r e' H' h1 h2 h3 ((k0.trans k1).trans h4) h5⟩
  rcases ds with _ | ⟨d1, dr⟩
  · have : xs.isEmpty = true := by cases hx; rfl
    rw [this]
    refine iteT (iteT ?_)
    obtain ⟨d', c', v', e', x1, x2, x3, x4, x5, x6⟩ := odd H0 (Kp.refl _ _) D0
    exact ⟨_, rfl, _, rfl, d', c', v', e', x1, x2, x3, x4, x5, x6⟩
  have : xs.isEmpty = false := by cases hx; rfl
  rw [this]
  refine iteF ?_
  refine ⟨_, rfl, d, c, 4, rfl, D0, by decide, by decide, fun w0 H1 _ _ k1 D1 => ⟨rfl, _, rfl, ite2 (fun _ => ?_) (fun _ => ?_)⟩⟩
  · obtain ⟨d', c', v', e', x1, x2, x3, x4, x5, x6⟩ := odd H1 k1 D1
    exact ⟨_, rfl, _, rfl, d', c', v', e', x1, x2, x3, x4, x5, x6⟩
  have bk1 : BKs K [d, c] H H1 := (BKs.of s0).trans (D0.bks k1)
  have ha1 := bk1.tk _ _ ha
  have hx1 := hx.mono bk1
  have lpos : 0 < xs.length := by rw [lx]; exact Nat.succ_pos _
  have lz := szs_len (d1 :: dr)
  have hnn : noDs (d1 :: dr) = true := hzn.2
  clear hzn odd
  generalize d1 :: dr = ds at *
  rw [sz_tuple] at hz
  rw [dep_tuple] at hd
  refine ⟨_, rfl, _, rfl, a, xs, rfl, .inr ha1, d, c, _, rfl, D1, by omega, by omega, fun at' H2 a0 a1 k2 D2 => ?_⟩
  obtain ⟨i, rfl⟩ := Int.eq_ofNat_of_zero_le a0
  have hi : i < xs.length := by omega
  have bk2 := bk1.trans (D1.bks (K := K) k2)
  have ha2 := bk2.tk _ _ ha
  have hx2 := hx.mono bk2
  obtain ⟨y, hy, hby⟩ := hx2.get (List.getElem?_eq_getElem hi)
  obtain ⟨e1, e2⟩ := sz_split hy
  refine ⟨_, rfl, _, rfl, _, rfl, slUpto (xs := xs) ha2 fun pl Hl sl hl => ?_⟩
  have hll : BtAll K [d, c] Hl (xs.take i) (ds.take i) := (btTake i hx2).mono (.of sl)
  have Dl := D2.same sl
  refine ⟨_, rfl, _, rfl, _, rfl, a, xs, i, _, rfl, rfl, TKs.of sl _ _ ha2, atI_nat (List.getElem?_eq_getElem hi), d, c, _, y, rfl, Dl, hby.mono (.of sl), ⟨by omega, noDs_mem hnn (List.mem_of_getElem? hy)⟩, by omega, fun r e' H3 hr3' zn3 d3 k3 D3 => ?_⟩
  have z3 := zn3.1
  have bk3 : BKs K [d, c] Hl H3 := Dl.bks k3
  refine ⟨(by show 1 ≤ sizeLine; decide), fun pm nm => ?_⟩
  have sm : Same H3 (upd H3 pm (.tup [r])) := same_new nm _
  have hm : SqT K (upd H3 pm (.tup [r])) pm [r] := SqT.of upd_same
  generalize upd H3 pm (.tup [r]) = H4 at sm hm
  have bk4 := bk3.trans (BKs.of sm)
  refine catB (L := [d, c]) (bk4.tk _ _ hl) (hll.mono bk4) hm (.cons (hr3'.mono (.of sm)) .nil) (by show _ + (sz e' + 0) ≤ _; omega) fun pq zq H5 s5 hq5 bq5 => ?_
  have bk5 := (BKs.of (K := K) (L := [d, c]) sl).trans (bk4.trans (BKs.of s5))
  have ei : ((i : Int) + 1) = ((i + 1 : Nat) : Int) := by omega
  refine ⟨_, rfl, _, rfl, _, _, rfl, rfl, _, rfl, ?_⟩
  rw [ei]
  refine slFrom (xs := xs) (bk5.tk _ _ ha2) fun pr Hr sr hr' => ?_
  have hrr : BtAll K [d, c] Hr (xs.drop (i + 1)) (ds.drop (i + 1)) := ((btDrop (i + 1) hx2).mono bk5).mono (.of sr)
  refine catB (L := [d, c]) (TKs.of sr _ _ hq5) (bq5.mono (.of sr)) hr' hrr (by rw [szs_append]; show _ + (sz e' + 0) + _ ≤ _; omega) fun pz zz H6 s6 hz6 bz6 => ?_
  have s36 : Same H3 H6 := ((sm.trans s5).trans sr).trans s6
  have k2l : Kp [d, c] H2 Hl := fun a o _ e => sl a o e
  have kf : Kp [d, c] H H6 := (((k0.trans k1).trans k2).trans (k2l.trans k3)).trans (fun a o _ e => s36 a o e)
  refine q _ (.tuple _) H6 (.tup hz6 bz6) ⟨?_, ndApp (ndApp (ndTake i hnn) (by show (noD e' && true) = true; rw [zn3.2]; rfl)) (ndDrop (i + 1) hnn)⟩ ?_ kf (D3.same s36)
  · rw [sz_tuple, sz_tuple, szs_append, szs_append]
    show 1 + (_ + (sz e' + 0) + _) ≤ _
    omega
  · rw [dep_tuple, dep_tuple, deps_append, deps_append]
    show 1 + max (max _ (max (dep e') 0)) _ ≤ _
    omega
end
end K15
namespace K15
open PySem PySem.W L2 SX Cm
theorem pick {α : Type} {xs : List α} {r : Int} {n : Nat} (h0 : 0 ≤ r) (h1 : r < n) (hl : xs.length = n) : ∃ x, x ∈ xs ∧ atI xs r = some x := by
  obtain ⟨i, rfl⟩ := Int.eq_ofNat_of_zero_le h0
  have hi : i < xs.length := by omega
  exact ⟨xs[i], List.getElem_mem hi, atI_nat (List.getElem?_eq_getElem hi)⟩
/-! ### kinds that are drawn: depth, size -/
mutual
inductive Knd : Nat → Nat → PyData → Prop
  | num {k : Nat} : Knd k 1 (.tuple [.str "number"])
  | opn {k : Nat} {z : Str} : Tx z 100 → nmB az (TL.tl z) = true → Knd k 1 (.tuple [.str "open", .str z])
  | lst {k k' m : Nat} {d : PyData} : Knd k m d → k < k' → Knd k' (m + 1) (.tuple [.str "list", d])
  | row {k k' m m' : Nat} {a b : PyData} : Skd k m a → Skd k m' b → k < k' → Knd k' (m + m' + 1) (.tuple [.str "row", a, b])
inductive Skd : Nat → Nat → PyData → Prop
  | mk {k m : Nat} {z : Str} {ds : List PyData} : Tx z 100 → (decide (z = "") || nmB AZ (TL.tl z)) = true → Kds k m ds → Skd k (m + 1) (.tuple [.str z, .tuple ds])
inductive Kds : Nat → Nat → List PyData → Prop
  | nil {k : Nat} : Kds k 0 []
  | cons {k m m' : Nat} {d : PyData} {ds : List PyData} : Knd k m d → Kds k m' ds → Kds k (m + m') (d :: ds)
end
theorem Kds.append {k : Nat} : ∀ {a b : List PyData} {m m' : Nat}, Kds k m a → Kds k m' b → Kds k (m + m') (a ++ b)
  | _, _, _, _, .nil, h => by rw [Nat.zero_add]; exact h
  | _, _, _, _, .cons h t, h' => by rw [Nat.add_assoc]; exact .cons h (Kds.append t h')
mutual
theorem Knd.ok : ∀ {k m : Nat} {d : PyData}, Knd k m d → ok .kd d = true ∧ sz d ≤ 3 * m ∧ dep d ≤ 3 * k + 1 ∧ noD d = true
  | k, _, _, .num => by
    refine ⟨?_, by show 1 + (1 + 0) ≤ 3 * 1; omega, by show 1 + max 0 0 ≤ _; omega, rfl⟩
    rw [ok_kd, if_pos rfl]; rfl
  | k, _, _, .opn h g => by
    refine ⟨?_, by show 1 + (1 + (1 + 0)) ≤ 3 * 1; omega, by show 1 + max 0 (max 0 0) ≤ _; omega, rfl⟩
    rw [ok_kd, if_neg (by decide), if_neg (by decide), if_pos rfl]; exact g
  | k', _, _, .lst (k := k) (m := m) (d := d) h l => by
    obtain ⟨a, b, c, e⟩ := Knd.ok h
    refine ⟨?_, ?_, ?_, ?_⟩
    · rw [ok_kd, if_neg (by decide), if_neg (by decide), if_neg (by decide), if_pos rfl]; exact a
    · show 1 + (1 + (sz d + 0)) ≤ 3 * (m + 1)
      omega
    · show 1 + max 0 (max (dep d) 0) ≤ _
      omega
    · show (true && (noD d && true)) = true
      rw [e]; rfl
  | k', _, _, .row (k := k) (m := m) (m' := m') (a := x) (b := y) h g l => by
    obtain ⟨a, b, c, e⟩ := Skd.ok h
    obtain ⟨a', b', c', e'⟩ := Skd.ok g
    refine ⟨?_, ?_, ?_, ?_⟩
    · rw [ok_kd, if_neg (by decide), if_pos rfl]
      show (K15.ok .st x && K15.ok .st y) = true
      rw [a, a']; rfl
    · show 1 + (1 + (sz x + (sz y + 0))) ≤ 3 * (m + m' + 1)
      omega
    · show 1 + max 0 (max (dep x) (max (dep y) 0)) ≤ _
      omega
    · show (true && (noD x && (noD y && true))) = true
      rw [e, e']; rfl
theorem Skd.ok : ∀ {k m : Nat} {d : PyData}, Skd k m d → ok .st d = true ∧ sz d ≤ 3 * m ∧ dep d ≤ 3 * k + 3 ∧ noD d = true
  | k, _, _, .mk (m := m) (z := z) (ds := ds) h g t => by
    obtain ⟨a, b, c, e⟩ := Kds.ok t
    refine ⟨?_, ?_, ?_, ?_⟩
    · rw [ok_st2, g, a]; rfl
    · show 1 + (1 + (1 + szs ds + 0)) ≤ 3 * (m + 1)
      omega
    · show 1 + max 0 (max (1 + deps ds) 0) ≤ _
      omega
    · show (true && (noDs ds && true)) = true
      rw [e]; rfl
theorem Kds.ok : ∀ {k m : Nat} {ds : List PyData}, Kds k m ds → ds.all (ok .kd) = true ∧ szs ds ≤ 3 * m ∧ deps ds ≤ 3 * k + 1 ∧ noDs ds = true
  | k, _, _, .nil => ⟨rfl, Nat.zero_le _, Nat.zero_le _, rfl⟩
  | k, _, _, .cons (m := m) (m' := m') (d := d) (ds := ds) h t => by
    obtain ⟨a, b, c, e⟩ := Knd.ok h
    obtain ⟨a', b', c', e'⟩ := Kds.ok t
    refine ⟨?_, ?_, ?_, ?_⟩
    · rw [List.all_cons, a, a']; rfl
    · show sz d + szs ds ≤ 3 * (m + m')
      omega
    · show max (dep d) (deps ds) ≤ _
      omega
    · show (noD d && noDs ds) = true
      rw [e, e']; rfl
end
theorem tx_number : Tx "number" 100 := Tx.lit (by decide +kernel)
theorem tx_open : Tx "open" 100 := Tx.lit (by decide +kernel)
theorem tx_list : Tx "list" 100 := Tx.lit (by decide +kernel)
theorem tx_row : Tx "row" 100 := Tx.lit (by decide +kernel)
mutual
theorem Knd.bt {K : Frag} {L : List Addr} {H : Hp} {k m : Nat} {d : PyData} (g : Knd k m d) (v : V) (h : Tr K H v d) : Bt K L H v d := by
  cases g with
  | num =>
    obtain ⟨a, xs, rfl, hs, hx⟩ := h.tupD
    cases hx with
    | cons a b => cases a; cases b; exact .tup hs (.cons (.str tx_number) .nil)
  | opn g1 g2 =>
    obtain ⟨a, xs, rfl, hs, hx⟩ := h.tupD
    cases hx with
    | cons a b =>
      cases a
      cases b with
      | cons a b => cases a; cases b; exact .tup hs (.cons (.str tx_open) (.cons (.str g1) .nil))
  | lst g l =>
    obtain ⟨a, xs, rfl, hs, hx⟩ := h.tupD
    cases hx with
    | cons a b =>
      cases a
      cases b with
      | cons a b => cases b; exact .tup hs (.cons (.str tx_list) (.cons (Knd.bt g _ a) .nil))
  | row g1 g2 l =>
    obtain ⟨a, xs, rfl, hs, hx⟩ := h.tupD
    cases hx with
    | cons a b =>
      cases a
      cases b with
      | cons a b =>
        cases b with
        | cons a' b => cases b; exact .tup hs (.cons (.str tx_row) (.cons (Skd.bt g1 _ a) (.cons (Skd.bt g2 _ a') .nil)))
theorem Skd.bt {K : Frag} {L : List Addr} {H : Hp} {k m : Nat} {d : PyData} (g : Skd k m d) (v : V) (h : Tr K H v d) : Bt K L H v d := by
  cases g with
  | mk g1 g2 g3 =>
    obtain ⟨a, xs, rfl, hs, hx⟩ := h.tupD
    cases hx with
    | cons a b =>
      cases a
      cases b with
      | cons a b =>
        cases b
        obtain ⟨b, ys, rfl, h1, h2⟩ := a.tupD
        exact .tup hs (.cons (.str g1) (.cons (.tup h1 (Kds.bt g3 ys h2)) .nil))
theorem Kds.bt {K : Frag} {L : List Addr} {H : Hp} {k m : Nat} {ds : List PyData} (g : Kds k m ds) (vs : List V) (h : TrAll K H vs ds) : BtAll K L H vs ds := by
  cases g with
  | nil => cases h; exact .nil
  | cons g t =>
    cases h with
    | cons a b => exact .cons (Knd.bt g _ a) (Kds.bt t _ b)
end
/-- how large a kind of this depth may be -/
def BK : Nat → Nat
  | 0 => 1
  | k + 1 => 1 + 2 * (1 + 6 * BK k)
theorem BK_pos : ∀ k, 1 ≤ BK k
  | 0 => Nat.le_refl 1
  | k + 1 => by show 1 ≤ 1 + _; omega
end K15
namespace K15
open PySem PySem.W L2 SX Cm
/-- the deck and what is left -/
structure G3 (H : Hp) (d c lf : Addr) : Prop where
  dk : Deck H d c
  left : ∃ n : Int, H lf = some (.lst [.int n])
  ne : lf ∉ [d, c]
theorem G3.sub {d c lf : Addr} : ∀ b ∈ [d, c], b ∈ [d, c, lf] := fun b h => by
  rcases List.mem_cons.mp h with h | h
  · rw [h]; exact List.mem_cons_self ..
  · rw [List.mem_singleton.mp h]; exact List.mem_cons_of_mem _ (List.mem_cons_self ..)
theorem G3.new {H : Hp} {d c lf p : Addr} {o : HO} (g : G3 H d c lf) (h : H p = none) : G3 (upd H p o) d c lf := by
  obtain ⟨n, e⟩ := g.left
  exact ⟨g.dk.new h, ⟨n, kn e h⟩, g.ne⟩
theorem G3.take {H H' : Hp} {d c lf : Addr} (g : G3 H d c lf) (k : Kp [d, c] H H') (D : Deck H' d c) : G3 H' d c lf := by
  obtain ⟨n, e⟩ := g.left
  exact ⟨D, ⟨n, k lf _ g.ne e⟩, g.ne⟩
theorem G3.nd {H : Hp} {d c lf p : Addr} (g : G3 H d c lf) (h : H p = none) : p ∉ [d, c, lf] := fun z => by
  obtain ⟨n, e⟩ := g.left
  rcases List.mem_cons.mp z with z | z
  · exact g.dk.nd h (by rw [z]; exact List.mem_cons_self ..)
  · rcases List.mem_cons.mp z with z | z
    · exact g.dk.nd h (by rw [z]; exact List.mem_cons_of_mem _ (List.mem_singleton.mpr rfl))
    · rw [List.mem_singleton.mp z, e] at h; cases h
theorem G3.put {H : Hp} {d c lf p : Addr} {o : HO} (g : G3 H d c lf) (h : p ∉ [d, c, lf]) : G3 (upd H p o) d c lf := by
  obtain ⟨n, e⟩ := g.left
  exact ⟨g.dk.put (fun z => h (G3.sub p z)), ⟨n, by rw [upd_ne (fun z => h (by rw [← z]; exact List.mem_cons_of_mem _ (List.mem_cons_of_mem _ (List.mem_singleton.mpr rfl))))]; exact e⟩, g.ne⟩
theorem G3.less {H : Hp} {d c lf : Addr} (g : G3 H d c lf) (n : Int) : G3 (upd H lf (.lst [.int n])) d c lf := ⟨g.dk.put g.ne, ⟨n, upd_same⟩, g.ne⟩
theorem G3.tks {K : Frag} {H H' : Hp} {d c lf : Addr} (g : G3 H d c lf) (k : Kp [d, c, lf] H H') : TKs K H H' := TKs.kp k fun b hb => by
  obtain ⟨n, e⟩ := g.left
  obtain ⟨_, _, e1⟩ := g.dk.at_
  obtain ⟨_, e2, _⟩ := g.dk.cells
  rcases List.mem_cons.mp hb with z | z
  · rw [z]; exact ⟨_, e1⟩
  · rcases List.mem_cons.mp z with z | z
    · rw [z]; exact ⟨_, e2⟩
    · rw [List.mem_singleton.mp z]; exact ⟨_, e⟩
theorem lfm {d c lf : Addr} : lf ∈ [d, c, lf] := List.mem_cons_of_mem _ (List.mem_cons_of_mem _ (List.mem_singleton.mpr rfl))

theorem Deck.kp {H H' : Hp} {d c p : Addr} {o : HO} (D : Deck H d c) (k : Kp [d, c] (upd H p o) H') (n : H p = none) : H' p = some o := k p o (D.nd n) upd_same
theorem int2 {α : Type} {a b : α} (t : Bool) : atI [a, b] (if t = true then (1 : Int) else 0) = some (if t = true then b else a) := by
  cases t
  · exact atI_nat (j := 0) rfl
  · exact atI_nat (j := 1) rfl
def nms0 : List Str := ["a", "b", "c", "z", "a2", "a10", "b12", "a100"]
def nms1 : List Str := ["A", "B", "", "Z", "A2", "A10", "B12", "Q900"]
theorem nms0_ok : ∀ z ∈ nms0, litB z 100 = true ∧ nmB az (TL.tl z) = true := by decide +kernel
theorem nms1_ok : ∀ z ∈ nms1, litB z 100 = true ∧ (decide (z = "") || nmB AZ (TL.tl z)) = true := by decide +kernel
section
variable {P : Program} {w : World} {K : PySem.W.Frag} {mg : Str → Option Value} {base : Heap}
def nmsOf (g : Bool) : List Str := if g then nms1 else nms0
def spName : Sp := fun vs H Q _ => ∃ (d c : Addr) (g : Bool), vs = [.ref d, .int (if g then 1 else 0)] ∧ Deck H d c ∧ ∀ (z : Str) (H' : Hp), z ∈ nmsOf g → Kp [d, c] H H' → Deck H' d c → Q (.str z) H'
abbrev NNm : List Str := ["_law_deck_here", "_law_great", "_law_some"]
theorem scName : FnScope NNm ["_law_deck_here", "_law_great"] (defScope sName) := ⟨rfl, rfl, rfl, by decide +kernel, rfl, by decide +kernel, by decide +kernel⟩
theorem ok_name {f g : Addr} {fd gd : FuncData} (F : Fun K "_law_name" "_law_name" sName f fd) (mint : mg "int" = none) (G : FnOk P w K mg base CX0 2 g gd ["_law_deck_here", "_law_most"] spTake) (bG : L2.Binds K gd ["_law_deck_here", "_law_most"] []) (kG : keepIn K (.ref g) = true) (mG : mg "_law_draw" = some (.ref g)) : FnOk P w K mg base CX0 3 f fd ["_law_deck_here", "_law_great"] spName := by
  refine F.ok scName (fun vs H Q E h => ?_) (fun cdv A outer s H vs Q E hr h => ?_)
  · obtain ⟨d, c, g, rfl, _⟩ := h
    rfl
  obtain ⟨d, c, g, rfl, D, q⟩ := h
  refine ⟨_, pss_cons (ps_set (i := 2) scName.nd rfl (.inl rfl) (pe_ix ix_list (pe_lst (pa_cons (pe_lst (pa_cons pe_str (pa_cons pe_str (pa_cons pe_str (pa_cons pe_str (pa_cons pe_str (pa_cons pe_str (pa_cons pe_str (pa_cons pe_str pa_nil))))))))) (pa_cons (pe_lst (pa_cons pe_str (pa_cons pe_str (pa_cons pe_str (pa_cons pe_str (pa_cons pe_str (pa_cons pe_str (pa_cons pe_str (pa_cons pe_str pa_nil))))))))) pa_nil))) (pv 1) (fun _ _ => rfl)))
    (pss_one (ps_ret (pe_ix ix_list (pv 2) (pe_call G hr rfl mG kG bG .nil pass0 (pa_cons (pv 0) (pa_cons (pe_ix ix_list (pe_lst (pa_cons pe_int (pa_cons pe_int pa_nil))) (pe_callTy call_int1 (by rfl) mint (by decide +kernel) (pa_cons (pe_cmpR op_eq (pe_call G hr rfl mG kG bG .nil pass0 (pa_cons (pv 0) (pa_cons pe_int pa_nil))) pe_int (nomark _)) pa_nil)) (fun _ _ => rfl)) pa_nil))) (fun _ _ => rfl)))), ?_⟩
  refine ⟨(by show 8 ≤ sizeLine; decide), fun p1 n1 => ⟨(by show 8 ≤ sizeLine; decide), fun p2 n2 => ⟨(by show 2 ≤ sizeLine; decide), fun p3 n3 => ?_⟩⟩⟩
  have D1 := ((D.new n1 (o := .lst (nms0.map V.str))).new n2 (o := .lst (nms1.map V.str))).new n3 (o := .lst [.ref p1, .ref p2])
  have e1 : upd (upd (upd H p1 (.lst (nms0.map V.str))) p2 (.lst (nms1.map V.str))) p3 (.lst [.ref p1, .ref p2]) p1 = some (.lst (nms0.map V.str)) := kn (kn upd_same n2) n3
  have e2 : upd (upd (upd H p1 (.lst (nms0.map V.str))) p2 (.lst (nms1.map V.str))) p3 (.lst [.ref p1, .ref p2]) p2 = some (.lst (nms1.map V.str)) := kn upd_same n3
  have s3 : Same H (upd (upd (upd H p1 (.lst (nms0.map V.str))) p2 (.lst (nms1.map V.str))) p3 (.lst [.ref p1, .ref p2])) := ((same_new n1 _).trans (same_new n2 _)).trans (same_new n3 _)
  have f1 : p1 ∉ [d, c] := D.nd n1
  have f2 : p2 ∉ [d, c] := (D.new n1).nd n2
  refine ⟨_, rfl, p3, _, _, _, rfl, rfl, SqL.of upd_same, int2 g, ?_⟩
  have e4 : ∃ p, (if g = true then V.ref p2 else V.ref p1) = .ref p ∧ upd (upd (upd H p1 (.lst (nms0.map V.str))) p2 (.lst (nms1.map V.str))) p3 (.lst [.ref p1, .ref p2]) p = some (.lst ((nmsOf g).map V.str)) ∧ p ∉ [d, c] := by
    cases g
    · exact ⟨p1, rfl, e1, f1⟩
    · exact ⟨p2, rfl, e2, f2⟩
  obtain ⟨p, ep, hp, fp⟩ := e4
  rw [ep]
  refine ⟨_, rfl, _, rfl, (by show 2 ≤ sizeLine; decide), fun p5 n5 => ⟨_, rfl, d, c, 3, rfl, D1.new n5, by decide, by decide, fun r H4 r0 r1 k4 D4 => ⟨rfl, .inr ⟨_, rfl, ?_⟩⟩⟩⟩
  have hp5 : H4 p5 = some (.lst [.int 3, .int 8]) := D1.kp k4 n5
  have hp4 : H4 p = some (.lst ((nmsOf g).map V.str)) := k4 p _ fp (kn hp n5)
  refine ⟨p5, _, _, _, rfl, rfl, SqL.of hp5, int2 (decide (V.int r = V.int 2)), ?_⟩
  have fin : ∀ m : Int, 0 < m → m ≤ 8 → spTake [.ref d, .int m] H4 (fun v H' => rIxL K (.ref p) v H' Q) (fun _ _ _ => False) := fun m m0 m8 => ⟨d, c, m, rfl, D4, m0, by omega, fun r5 H5 r50 r51 k5 D5 => by
    obtain ⟨v, hv, ha⟩ := pick (xs := (nmsOf g).map V.str) (n := 8) r50 (by omega) (by cases g <;> rfl)
    obtain ⟨z, hz, rfl⟩ := List.mem_map.mp hv
    exact ⟨p, _, _, _, rfl, rfl, SqL.of (k5 p _ fp hp4), ha, q z H5 hz (((Kp.of s3).trans ((Kp.refl _ _).new n5)).trans (k4.trans k5)) D5⟩⟩
  cases decide (V.int r = V.int 2)
  · exact fin 3 (by decide) (by decide)
  · exact fin 8 (by decide) (by decide)
def spKind (K : Frag) (k : Nat) : Sp := fun vs H Q _ => ∃ (d c lf : Addr), vs = [.ref d, .ref lf, .int k] ∧ G3 H d c lf ∧ ∀ (v : V) (t : PyData) (m : Nat) (H' : Hp), Tr K H' v t → Knd k m t → m ≤ BK k → Kp [d, c, lf] H H' → G3 H' d c lf → Q v H'
def spStack (K : Frag) (k : Nat) : Sp := fun vs H Q _ => ∃ (d c lf : Addr), vs = [.ref d, .ref lf, .int k] ∧ G3 H d c lf ∧ ∀ (v : V) (t : PyData) (m : Nat) (H' : Hp), Tr K H' v t → Skd k m t → m ≤ 1 + 6 * BK k → Kp [d, c, lf] H H' → G3 H' d c lf → Q v H'
abbrev A3 : List Str := ["_law_deck_here", "_law_left", "_law_deep"]
theorem scKind : FnScope ["_law_deck_here", "_law_left", "_law_deep", "_law_way", "_law_take"] A3 (defScope sKind) := ⟨rfl, rfl, rfl, by decide +kernel, rfl, by decide +kernel, by decide +kernel⟩
theorem opn {k : Nat} {z : Str} (h : z ∈ nmsOf false) : Knd k 1 (.tuple [.str "open", .str z]) := .opn (Tx.lit (nms0_ok z h).1) (nms0_ok z h).2
theorem ok_kind0 {f g gn : Addr} {fd gd gnd : FuncData} (F : Fun K "_law_kind" "_law_kind" sKind f fd) (G : FnOk P w K mg base CX0 2 g gd ["_law_deck_here", "_law_most"] spTake) (bG : L2.Binds K gd ["_law_deck_here", "_law_most"] []) (kG : keepIn K (.ref g) = true) (mG : mg "_law_draw" = some (.ref g))
    (N : FnOk P w K mg base CX0 3 gn gnd ["_law_deck_here", "_law_great"] spName) (bN : L2.Binds K gnd ["_law_deck_here", "_law_great"] []) (kN : keepIn K (.ref gn) = true) (mN : mg "_law_name" = some (.ref gn)) : FnOk P w K mg base CX0 4 f fd A3 (spKind K 0) := by
  refine F.ok scKind (fun vs H Q E h => ?_) (fun cdv A outer s H vs Q E hr h => ?_)
  · obtain ⟨d, c, lf, rfl, _⟩ := h
    rfl
  obtain ⟨d, c, lf, rfl, g0, q⟩ := h
  refine ⟨_, pss_cons (ps_asg (pe_op op_sub (pe_ix ix_list (pv 1) pe_int (fun _ _ => rfl)) pe_int) (pg_sub (pv 1) pe_int set_list))
    (pss_cons (ps_set (i := 3) scKind.nd rfl (.inl rfl) (pe_call G (hr.mono (by omega)) rfl mG kG bG .nil pass0 (pa_cons (pv 0) (pa_cons pe_int pa_nil))))
    (pss_cons (ps_if (PW.pt (pw_or (pt_cmpR op_eq (pv 2) pe_int (nomark _)) (pw_or (pt_cmpR op_lt (pe_ix ix_list (pv 1) pe_int (fun _ _ => rfl)) pe_int (nomark _)) (pw_or1 (pt_cmpR op_lt (pv 3) pe_int (nomark _))))))
      (pss_cons (ps_if (pt_cmpR op_eq (pe_op op_mod (pv 3) pe_int) pe_int (nomark _)) (pss_one (ps_ret (pe_tup (pa_cons pe_str pa_nil)))) pss_nil)
      (pss_one (ps_ret (pe_tup (pa_cons pe_str (pa_cons (pe_call N hr rfl mN kN bN .nil pass0 (pa_cons (pv 0) (pa_cons pe_int pa_nil))) pa_nil)))))) pss_nil) pss_never)), ?_⟩
  obtain ⟨ln, hlf⟩ := g0.left
  refine ⟨_, rfl, lf, _, _, _, rfl, rfl, SqL.of hlf, atI_nat (j := 0) rfl, _, _, rfl, rfl, _, rfl, lf, _, _, 0, rfl, rfl, hlf, rfl, ?_⟩
  have g1 : G3 (upd H lf (.lst [.int (ln - 1)])) d c lf := g0.less _
  have k1 : Kp [d, c, lf] H (upd H lf (.lst [.int (ln - 1)])) := (Kp.refl _ H).own lfm
  show tSeq _ _ _ _ (upd H lf (.lst [.int (ln - 1)]))
  generalize upd H lf (.lst [.int (ln - 1)]) = H1 at g1 k1
  refine ⟨_, rfl, d, c, 8, rfl, g1.dk, by decide, by decide, fun r H2 r0 r1 k2 D2 => ?_⟩
  have g2 := g1.take k2 D2
  have kk2 := k1.trans (k2.mono G3.sub)
  refine ⟨_, rfl, rfl, _, rfl, iteT (iteT ?_)⟩
  refine ⟨_, rfl, _, _, rfl, rfl, (by show (0 : Int) < 4; decide), rfl, _, rfl, ite2 (fun _ => ?_) (fun _ => ?_)⟩
  · refine ⟨(by show 1 ≤ sizeLine; decide), fun p np => ?_⟩
    exact q _ _ _ _ (.tup (SqT.of upd_same) (.cons (.str _) .nil)) .num (Nat.le_refl 1) (kk2.new np) (g2.new np)
  · refine ⟨_, rfl, d, c, false, rfl, g2.dk, fun z H3 hz k3 D3 => ⟨(by show 2 ≤ sizeLine; decide), fun p np => ?_⟩⟩
    exact q _ _ _ _ (.tup (SqT.of upd_same) (.cons (.str _) (.cons (.str _) .nil))) (opn hz) (Nat.le_refl 1) ((kk2.trans (k3.mono G3.sub)).new np) ((g2.take k3 D3).new np)
end
end K15
namespace K15
open PySem PySem.W L2 SX Cm
section
variable {P : Program} {w : World} {K : PySem.W.Frag} {mg : Str → Option Value} {base : Heap}
theorem ok_kindS {k : Nat} {f g gn gs : Addr} {fd gd gnd gsd : FuncData} (F : Fun K "_law_kind" "_law_kind" sKind f fd) (G : FnOk P w K mg base CX0 2 g gd ["_law_deck_here", "_law_most"] spTake) (bG : L2.Binds K gd ["_law_deck_here", "_law_most"] []) (kG : keepIn K (.ref g) = true) (mG : mg "_law_draw" = some (.ref g))
    (N : FnOk P w K mg base CX0 3 gn gnd ["_law_deck_here", "_law_great"] spName) (bN : L2.Binds K gnd ["_law_deck_here", "_law_great"] []) (kN : keepIn K (.ref gn) = true) (mN : mg "_law_name" = some (.ref gn))
    (I : FnOk P w K mg base CX0 (4 + 2 * k) f fd A3 (spKind K k)) (bI : L2.Binds K fd A3 []) (mI : mg "_law_kind" = some (.ref f))
    (Z : FnOk P w K mg base CX0 (5 + 2 * k) gs gsd A3 (spStack K k)) (bZ : L2.Binds K gsd A3 []) (kZ : keepIn K (.ref gs) = true) (mZ : mg "_law_stack" = some (.ref gs)) : FnOk P w K mg base CX0 (5 + 2 * k + 1) f fd A3 (spKind K (k + 1)) := by
  refine F.ok scKind (fun vs H Q E h => ?_) (fun cdv A outer s H vs Q E hr h => ?_)
  · obtain ⟨d, c, lf, rfl, _⟩ := h
    rfl
  obtain ⟨d, c, lf, rfl, g0, q⟩ := h
  refine ⟨_, pss_cons (ps_asg (pe_op op_sub (pe_ix ix_list (pv 1) pe_int (fun _ _ => rfl)) pe_int) (pg_sub (pv 1) pe_int set_list))
    (pss_cons (ps_set (i := 3) scKind.nd rfl (.inl rfl) (pe_call G (hr.mono (by omega)) rfl mG kG bG .nil pass0 (pa_cons (pv 0) (pa_cons pe_int pa_nil))))
    (pss_cons (ps_if (PW.pt (pw_or (pt_cmpR op_eq (pv 2) pe_int (nomark _)) (pw_or (pt_cmpR op_lt (pe_ix ix_list (pv 1) pe_int (fun _ _ => rfl)) pe_int (nomark _)) (pw_or1 (pt_cmpR op_lt (pv 3) pe_int (nomark _))))))
      (pss_cons (ps_if (pt_cmpR op_eq (pe_op op_mod (pv 3) pe_int) pe_int (nomark _)) (pss_one (ps_ret (pe_tup (pa_cons pe_str pa_nil)))) pss_nil)
      (pss_one (ps_ret (pe_tup (pa_cons pe_str (pa_cons (pe_call N (hr.mono (by omega)) rfl mN kN bN .nil pass0 (pa_cons (pv 0) (pa_cons pe_int pa_nil))) pa_nil)))))) pss_nil)
    (pss_cons (ps_if (pt_cmpR op_eq (pv 3) pe_int (nomark _)) (pss_one (ps_ret (pe_tup (pa_cons pe_str (pa_cons (pe_call I (hr.mono (by omega)) rfl mI F.kp bI .nil pass0 (pa_cons (pv 0) (pa_cons (pv 1) (pa_cons (pe_op op_sub (pv 2) pe_int) pa_nil)))) pa_nil))))) pss_nil)
    (pss_cons (ps_set (i := 4) scKind.nd rfl (.inl rfl) (pe_call Z hr rfl mZ kZ bZ .nil pass0 (pa_cons (pv 0) (pa_cons (pv 1) (pa_cons (pe_op op_sub (pv 2) pe_int) pa_nil)))))
    (pss_one (ps_ret (pe_tup (pa_cons pe_str (pa_cons (pv 4) (pa_cons (pe_call Z hr rfl mZ kZ bZ .nil pass0 (pa_cons (pv 0) (pa_cons (pv 1) (pa_cons (pe_op op_sub (pv 2) pe_int) pa_nil)))) pa_nil)))))))))), ?_⟩
  obtain ⟨ln, hlf⟩ := g0.left
  refine ⟨_, rfl, lf, _, _, _, rfl, rfl, SqL.of hlf, atI_nat (j := 0) rfl, _, _, rfl, rfl, _, rfl, lf, _, _, 0, rfl, rfl, hlf, rfl, ?_⟩
  have g1 : G3 (upd H lf (.lst [.int (ln - 1)])) d c lf := g0.less _
  have k1 : Kp [d, c, lf] H (upd H lf (.lst [.int (ln - 1)])) := (Kp.refl _ H).own lfm
  have dk : (((k + 1 : Nat) : Int) - 1) = (k : Int) := by omega
  have nz : decide (V.int ((k + 1 : Nat) : Int) = V.int 0) = false := decide_eq_false (fun z => by have := V.int.inj z; omega)
  show tSeq _ _ _ _ (upd H lf (.lst [.int (ln - 1)]))
  generalize upd H lf (.lst [.int (ln - 1)]) = H1 at g1 k1
  refine ⟨_, rfl, d, c, 8, rfl, g1.dk, by decide, by decide, fun r H2 r0 r1 k2 D2 => ?_⟩
  have g2 := g1.take k2 D2
  have kk2 := k1.trans (k2.mono G3.sub)
  obtain ⟨ln2, hlf2⟩ := g2.left
  have bp := BK_pos k
  have b1 : 1 ≤ BK (k + 1) := BK_pos _
  refine ⟨_, rfl, rfl, _, rfl, ?_⟩
  rw [nz]
  refine iteF ⟨_, rfl, lf, _, _, _, rfl, rfl, SqL.of hlf2, atI_nat (j := 0) rfl, _, _, rfl, rfl, _, rfl, ?_⟩
  refine ite2 (fun hh => iteT ?_) (fun hh => ?_)
  · refine ⟨_, rfl, _, _, rfl, rfl, (by show (0 : Int) < 4; decide), rfl, _, rfl, ite2 (fun _ => ?_) (fun _ => ?_)⟩
    · refine ⟨(by show 1 ≤ sizeLine; decide), fun p np => ?_⟩
      exact q _ _ _ _ (.tup (SqT.of upd_same) (.cons (.str _) .nil)) .num b1 (kk2.new np) (g2.new np)
    · refine ⟨_, rfl, d, c, false, rfl, g2.dk, fun z H3 hz k3 D3 => ⟨(by show 2 ≤ sizeLine; decide), fun p np => ?_⟩⟩
      exact q _ _ _ _ (.tup (SqT.of upd_same) (.cons (.str _) (.cons (.str _) .nil))) (opn hz) b1 ((kk2.trans (k3.mono G3.sub)).new np) ((g2.take k3 D3).new np)
  refine ⟨_, rfl, _, _, rfl, rfl, _, rfl, ite2 (fun hh => ?_) (fun hh => ?_)⟩
  · refine ⟨_, rfl, _, _, rfl, rfl, (by show (0 : Int) < 4; decide), rfl, _, rfl, ite2 (fun _ => ?_) (fun _ => ?_)⟩
    · refine ⟨(by show 1 ≤ sizeLine; decide), fun p np => ?_⟩
      exact q _ _ _ _ (.tup (SqT.of upd_same) (.cons (.str _) .nil)) .num b1 (kk2.new np) (g2.new np)
    · refine ⟨_, rfl, d, c, false, rfl, g2.dk, fun z H3 hz k3 D3 => ⟨(by show 2 ≤ sizeLine; decide), fun p np => ?_⟩⟩
      exact q _ _ _ _ (.tup (SqT.of upd_same) (.cons (.str _) (.cons (.str _) .nil))) (opn hz) b1 ((kk2.trans (k3.mono G3.sub)).new np) ((g2.take k3 D3).new np)
  refine ⟨_, rfl, rfl, _, rfl, ite2 (fun _ => ?_) (fun _ => ?_)⟩
  · refine ⟨_, rfl, _, rfl, _, rfl, _, _, rfl, rfl, d, c, lf, congrArg (fun i : Int => [V.ref d, V.ref lf, V.int i]) dk, g2, fun v t m H3 hv ht hm k3 g3 => ⟨(by show 2 ≤ sizeLine; decide), fun p np => ?_⟩⟩
    refine q _ _ _ _ (.tup (SqT.of upd_same) (.cons (.str _) (.cons (hv.mono (.of (same_new np _))) .nil))) (.lst ht (Nat.lt_succ_self k)) ?_ ((kk2.trans k3).new np) (g3.new np)
    show m + 1 ≤ 1 + 2 * (1 + 6 * BK k)
    omega
  · refine ⟨_, rfl, _, rfl, _, rfl, _, _, rfl, rfl, d, c, lf, congrArg (fun i : Int => [V.ref d, V.ref lf, V.int i]) dk, g2, fun v t m H3 hv ht hm k3 g3 => ?_⟩
    refine ⟨_, rfl, _, rfl, _, rfl, _, rfl, _, _, rfl, rfl, d, c, lf, congrArg (fun i : Int => [V.ref d, V.ref lf, V.int i]) dk, g3, fun v' t' m' H4 hv' ht' hm' k4 g4 => ⟨(by show 3 ≤ sizeLine; decide), fun p np => ?_⟩⟩
    refine q _ _ _ _ (.tup (SqT.of upd_same) (.cons (.str _) (.cons ((hv.mono (g3.tks k4)).mono (.of (same_new np _))) (.cons (hv'.mono (.of (same_new np _))) .nil)))) (.row ht ht' (Nat.lt_succ_self k)) ?_ (((kk2.trans k3).trans k4).new np) (g4.new np)
    show m + m' + 1 ≤ 1 + 2 * (1 + 6 * BK k)
    omega
abbrev NS : List Str := ["_law_deck_here", "_law_left", "_law_deep", "_law_rest", "_law_kinds", "_law_k"]
theorem scStack : FnScope NS A3 (defScope sStack) := ⟨rfl, rfl, rfl, by decide +kernel, rfl, by decide +kernel, by decide +kernel⟩
theorem ok_stack {k : Nat} {f g gn gk : Addr} {fd gd gnd gkd : FuncData} (F : Fun K "_law_stack" "_law_stack" sStack f fd) (G : FnOk P w K mg base CX0 2 g gd ["_law_deck_here", "_law_most"] spTake) (bG : L2.Binds K gd ["_law_deck_here", "_law_most"] []) (kG : keepIn K (.ref g) = true) (mG : mg "_law_draw" = some (.ref g))
    (N : FnOk P w K mg base CX0 3 gn gnd ["_law_deck_here", "_law_great"] spName) (bN : L2.Binds K gnd ["_law_deck_here", "_law_great"] []) (kN : keepIn K (.ref gn) = true) (mN : mg "_law_name" = some (.ref gn))
    (I : FnOk P w K mg base CX0 (4 + 2 * k) gk gkd A3 (spKind K k)) (bI : L2.Binds K gkd A3 []) (kI : keepIn K (.ref gk) = true) (mI : mg "_law_kind" = some (.ref gk)) (mrange : mg "range" = none) (mtup : mg "tuple" = none) : FnOk P w K mg base CX0 (4 + 2 * k + 1) f fd A3 (spStack K k) := by
  refine F.ok scStack (fun vs H Q E h => ?_) (fun cdv A outer s H vs Q E hr h => ?_)
  · obtain ⟨d, c, lf, rfl, _⟩ := h
    rfl
  obtain ⟨d, c, lf, rfl, g0, q⟩ := h
  have hr2 := hr.mono (j := 2) (by omega)
  refine ⟨_, pss_cons (ps_asg (pe_op op_sub (pe_ix ix_list (pv 1) pe_int (fun _ _ => rfl)) pe_int) (pg_sub (pv 1) pe_int set_list))
    (pss_cons (ps_set (i := 3) scStack.nd rfl (.inl rfl) (pe_call N (hr.mono (by omega)) rfl mN kN bN .nil pass0 (pa_cons (pv 0) (pa_cons pe_int pa_nil))))
    (pss_cons (ps_set (i := 4) scStack.nd rfl (.inl rfl) (pe_lst pa_nil))
    (pss_cons (ps_for PassesOwn.never rfl (pi_range1 rfl mrange (pa_cons (pe_ix ix_list (pe_lst (pa_cons pe_int (pa_cons pe_int (pa_cons pe_int (pa_cons pe_int (pa_cons pe_int (pa_cons pe_int pa_nil))))))) (pe_call G hr2 rfl mG kG bG .nil pass0 (pa_cons (pv 0) (pa_cons pe_int pa_nil))) (fun _ _ => rfl)) pa_nil)) (pg_name (i := 5) scStack.nd rfl (.inl rfl))
      (pss_one (ps_if (pt_cmpR op_gt (pe_ix ix_list (pv 1) pe_int (fun _ _ => rfl)) pe_int (nomark _))
        (pss_one (ps_expr (pe_bm PySem.F.plainAttrs_list PySem.F.slot_list_append PySem.F.type_list_append mt_append (pv 4) (pa_cons (pe_call I hr rfl mI kI bI .nil pass0 (pa_cons (pv 0) (pa_cons (pv 1) (pa_cons (pv 2) pa_nil)))) pa_nil)))) pss_nil)))
    (pss_one (ps_ret (pe_tup (pa_cons (pv 3) (pa_cons (pe_callTy call_tuple_of (by rfl) mtup (by decide +kernel) (pa_cons (pv 4) pa_nil)) pa_nil)))))))), ?_⟩
  obtain ⟨ln, hlf⟩ := g0.left
  refine ⟨_, rfl, lf, _, _, _, rfl, rfl, SqL.of hlf, atI_nat (j := 0) rfl, _, _, rfl, rfl, _, rfl, lf, _, _, 0, rfl, rfl, hlf, rfl, ?_⟩
  have g1 : G3 (upd H lf (.lst [.int (ln - 1)])) d c lf := g0.less _
  have k1 : Kp [d, c, lf] H (upd H lf (.lst [.int (ln - 1)])) := (Kp.refl _ H).own lfm
  show tSeq _ _ _ _ (upd H lf (.lst [.int (ln - 1)]))
  generalize upd H lf (.lst [.int (ln - 1)]) = H1 at g1 k1
  refine ⟨_, rfl, d, c, true, rfl, g1.dk, fun z H2 hz k2 D2 => ?_⟩
  have g2 := g1.take k2 D2
  have kk2 := k1.trans (k2.mono G3.sub)
  refine ⟨(by show 0 ≤ sizeLine; decide), fun fo nfo => ?_⟩
  have nfd := g2.nd nfo
  have g3 := g2.new nfo (o := .lst [])
  have k3 : Kp [d, c, lf] H (upd H2 fo (.lst [])) := kk2.new nfo
  have hf3 : upd H2 fo (.lst []) fo = some (.lst []) := upd_same
  have nfoH : H fo = none := kk2.free nfo nfd
  show tSeq _ _ _ _ (upd H2 fo (.lst []))
  generalize upd H2 fo (.lst []) = H3 at g3 k3 hf3
  refine ⟨(by show 6 ≤ sizeLine; decide), fun p np => ?_⟩
  refine ⟨_, rfl, d, c, 6, rfl, g3.dk.new np, by decide, by decide, fun r H4 r0 r1 k4 D4 => ?_⟩
  have hp4 : H4 p = some (.lst [.int 0, .int 1, .int 2, .int 1, .int 3, .int 6]) := g3.dk.kp k4 np
  have kk4 : Kp [d, c, lf] H H4 := (k3.new np).trans (k4.mono G3.sub)
  have g4 : G3 H4 d c lf := (g3.new np).take k4 D4
  have hf4 : H4 fo = some (.lst []) := k4 fo _ (fun z => nfd (G3.sub fo z)) (kn hf3 np)
  obtain ⟨v, hv, ha⟩ := pick (xs := [V.int 0, .int 1, .int 2, .int 1, .int 3, .int 6]) (n := 6) r0 r1 rfl
  obtain ⟨n, rfl, n0, n6⟩ : ∃ n : Int, v = .int n ∧ 0 ≤ n ∧ n ≤ 6 := by
    simp only [List.mem_cons, List.not_mem_nil, or_false] at hv
    rcases hv with rfl | rfl | rfl | rfl | rfl | rfl <;> exact ⟨_, rfl, by decide, by decide⟩
  refine ⟨p, _, _, _, rfl, rfl, SqL.of hp4, ha, ?_⟩
  refine ⟨n, rfl, by omega, by omega, for_range (lo := 0) (n := n.toNat) (fun i σ H' => ∃ (acc : List V) (ts : List PyData) (m : Nat) (x5 : Option V), σ = [some (.ref d), some (.ref lf), some (.int k), some (.str z), some (.ref fo), x5] ∧ H' fo = some (.lst acc) ∧ TrAll K H' acc ts ∧ Kds k m ts ∧ m ≤ i * BK k ∧ acc.length ≤ i ∧ Kp [d, c, lf] H H' ∧ G3 H' d c lf)
    ⟨[], [], 0, none, rfl, hf4, .nil, .nil, by omega, Nat.le_refl 0, kk4, g4⟩ ?_ ?_⟩
  · rintro i σ H5 hi ⟨acc, ts, m, x5, rfl, hf, ha, hk, hm, hl, k5, g5⟩
    obtain ⟨ln, hlf⟩ := g5.left
    have mul : (i + 1) * BK k = i * BK k + BK k := Nat.succ_mul i (BK k)
    refine ⟨_, rfl, lf, _, _, _, rfl, rfl, SqL.of hlf, atI_nat (j := 0) rfl, _, _, rfl, rfl, _, rfl, ite2 (fun _ => ?_) (fun _ => ?_)⟩
    · refine ⟨_, rfl, .inl ⟨rfl, _, SqL.of hf⟩, _, rfl, _, rfl, _, rfl, d, c, lf, rfl, g5, fun v t m2 H6 hv ht hm2 k6 g6 => ?_⟩
      have hf6 : H6 fo = some (.lst acc) := k6 fo _ nfd hf
      have tk6 := g5.tks (K := K) k6
      refine ⟨fo, acc, v, rfl, rfl, hf6, small1000 (by omega), ?_⟩
      refine ⟨acc ++ [v], ts ++ [t], m + m2, _, rfl, upd_same, ?_, hk.append (by have := Kds.cons ht Kds.nil; rw [Nat.add_zero] at this; exact this), by omega, by rw [List.length_append, List.length_singleton]; omega, (k5.trans k6).put nfoH, g6.put nfd⟩
      exact ((ha.mono tk6).append (.cons hv .nil)).mono (TKs.lst hf6)
    · exact ⟨acc, ts, m, _, rfl, hf, ha, hk, by omega, by omega, k5, g5⟩
  · rintro σ H5 ⟨acc, ts, m, x5, rfl, hf, ha, hk, hm, hl, k5, g5⟩
    refine ⟨_, rfl, _, rfl, fo, acc, rfl, .inl ⟨SqL.of hf, fun t nt => ⟨(by show 2 ≤ sizeLine; decide), fun t2 nt2 => ?_⟩⟩⟩
    have h1 : Tr K (upd H5 t (.tup acc)) (.ref t) (.tuple ts) := tupTr ha nt
    refine q _ _ (m + 1) _ (.tup (SqT.of upd_same) (.cons (.str _) (.cons (h1.mono (.of (same_new nt2 _))) .nil))) (.mk (Tx.lit (nms1_ok z hz).1) (nms1_ok z hz).2 hk) ?_ ((k5.new nt).new nt2) ((g5.new nt).new nt2)
    have : n.toNat * BK k ≤ 6 * BK k := Nat.mul_le_mul_right _ (by omega)
    omega
theorem all_kinds {f4 f5 f6 f7 : Addr} {d4 d5 d6 d7 : FuncData}
    (O4 : FnOk P w K mg base CX0 2 f4 d4 ["_law_deck_here", "_law_most"] spTake) (b4 : L2.Binds K d4 ["_law_deck_here", "_law_most"] []) (k4 : keepIn K (.ref f4) = true) (m4 : mg "_law_draw" = some (.ref f4))
    (O5 : FnOk P w K mg base CX0 3 f5 d5 ["_law_deck_here", "_law_great"] spName) (b5 : L2.Binds K d5 ["_law_deck_here", "_law_great"] []) (k5 : keepIn K (.ref f5) = true) (m5 : mg "_law_name" = some (.ref f5))
    (F6 : Fun K "_law_kind" "_law_kind" sKind f6 d6) (b6 : L2.Binds K d6 A3 []) (m6 : mg "_law_kind" = some (.ref f6))
    (F7 : Fun K "_law_stack" "_law_stack" sStack f7 d7) (b7 : L2.Binds K d7 A3 []) (m7 : mg "_law_stack" = some (.ref f7))
    (mrange : mg "range" = none) (mtup : mg "tuple" = none) :
    ∀ k : Nat, FnOk P w K mg base CX0 (4 + 2 * k) f6 d6 A3 (spKind K k) ∧ FnOk P w K mg base CX0 (5 + 2 * k) f7 d7 A3 (spStack K k) := by
  have up : ∀ k : Nat, FnOk P w K mg base CX0 (4 + 2 * k) f6 d6 A3 (spKind K k) → FnOk P w K mg base CX0 (5 + 2 * k) f7 d7 A3 (spStack K k) := fun k T =>
    (ok_stack F7 O4 b4 k4 m4 O5 b5 k5 m5 T b6 F6.kp m6 mrange mtup).mono (by omega)
  intro k
  induction k with
  | zero =>
    have T := ok_kind0 F6 O4 b4 k4 m4 O5 b5 k5 m5
    exact ⟨T, up 0 T⟩
  | succ k ih =>
    have T : FnOk P w K mg base CX0 (4 + 2 * (k + 1)) f6 d6 A3 (spKind K (k + 1)) := (ok_kindS F6 O4 b4 k4 m4 O5 b5 k5 m5 ih.1 b6 m6 ih.2 b7 F7.kp m7).mono (by omega)
    exact ⟨T, up (k + 1) T⟩
/-- a row's kind drawn: two kinds of stacks -/
def spRowKind (K : Frag) : Sp := fun vs H Q _ => ∃ (d c : Addr), vs = [.ref d] ∧ Deck H d c ∧ ∀ (p : Addr) (a b : V) (ta tb : PyData) (m m' : Nat) (H' : Hp), SqT K H' p [a, b] → Tr K H' a ta → Tr K H' b tb → Skd 3 m ta → Skd 3 m' tb → m ≤ 1 + 6 * BK 3 → m' ≤ 1 + 6 * BK 3 → Kp [d, c] H H' → Deck H' d c → Q (.ref p) H'
abbrev NRK : List Str := ["_law_deck_here", "_law_left", "_law_take"]
theorem scRowKind : FnScope NRK ["_law_deck_here"] (defScope sRowKind) := ⟨rfl, rfl, rfl, by decide +kernel, rfl, by decide +kernel, by decide +kernel⟩
theorem kp_drop {H H1 H' : Hp} {d c l : Addr} (k : Kp [d, c, l] H1 H') (s : Same H H1) (n : H l = none) : Kp [d, c] H H' := fun b o m e => k b o (fun z => by
  rcases List.mem_cons.mp z with z | z
  · exact m (by rw [z]; exact List.mem_cons_self ..)
  · rcases List.mem_cons.mp z with z | z
    · exact m (by rw [z]; exact List.mem_cons_of_mem _ (List.mem_singleton.mpr rfl))
    · rw [List.mem_singleton.mp z, n] at e; cases e) (s b o e)
theorem ok_rowKind {f gs : Addr} {fd gsd : FuncData} (F : Fun K "_law_row_kind" "_law_row_kind" sRowKind f fd) (Z : FnOk P w K mg base CX0 11 gs gsd A3 (spStack K 3)) (bZ : L2.Binds K gsd A3 []) (kZ : keepIn K (.ref gs) = true) (mZ : mg "_law_stack" = some (.ref gs)) : FnOk P w K mg base CX0 12 f fd ["_law_deck_here"] (spRowKind K) := by
  refine F.ok scRowKind (fun vs H Q E h => ?_) (fun cdv A outer s H vs Q E hr h => ?_)
  · obtain ⟨d, c, rfl, _⟩ := h
    rfl
  obtain ⟨d, c, rfl, D, q⟩ := h
  refine ⟨_, pss_cons (ps_set (i := 1) scRowKind.nd rfl (.inl rfl) (pe_lst (pa_cons pe_int pa_nil)))
    (pss_cons (ps_set (i := 2) scRowKind.nd rfl (.inl rfl) (pe_call Z hr rfl mZ kZ bZ .nil pass0 (pa_cons (pv 0) (pa_cons (pv 1) (pa_cons pe_int pa_nil)))))
    (pss_cons (ps_set (i := 1) scRowKind.nd rfl (.inl rfl) (pe_lst (pa_cons pe_int pa_nil)))
    (pss_one (ps_ret (pe_tup (pa_cons (pv 2) (pa_cons (pe_call Z hr rfl mZ kZ bZ .nil pass0 (pa_cons (pv 0) (pa_cons (pv 1) (pa_cons pe_int pa_nil)))) pa_nil))))))), ?_⟩
  refine ⟨(by show 1 ≤ sizeLine; decide), fun l1 n1 => ?_⟩
  have g1 : G3 (upd H l1 (.lst [.int 20])) d c l1 := ⟨D.new n1, ⟨20, upd_same⟩, D.nd n1⟩
  refine ⟨_, rfl, _, rfl, d, c, l1, rfl, g1, fun v t m H2 hv ht hm k2 g2 => ?_⟩
  have kk2 : Kp [d, c] H H2 := kp_drop k2 (same_new n1 _) n1
  refine ⟨(by show 1 ≤ sizeLine; decide), fun l2 n2 => ?_⟩
  have g3 : G3 (upd H2 l2 (.lst [.int 20])) d c l2 := ⟨g2.dk.new n2, ⟨20, upd_same⟩, g2.dk.nd n2⟩
  refine ⟨_, rfl, _, rfl, _, rfl, d, c, l2, rfl, g3, fun v' t' m' H4 hv' ht' hm' k4 g4 => ⟨(by show 2 ≤ sizeLine; decide), fun p np => ?_⟩⟩
  have kk4 : Kp [d, c] H2 H4 := kp_drop k4 (same_new n2 _) n2
  have t4 : TKs K H2 H4 := (TKs.of (same_new n2 (.lst [.int 20]))).trans (g3.tks k4)
  exact q p v v' t t' m m' _ (SqT.of upd_same) ((hv.mono t4).mono (.of (same_new np _))) (hv'.mono (.of (same_new np _))) ht ht' hm hm' ((kk2.trans kk4).new np) (g4.dk.new np)
end
end K15
namespace K15
open PySem PySem.W L2 SX Cm
theorem BtAll.mem {K : Frag} {L : List Addr} {H : Hp} : ∀ {vs : List V} {es : List PyData} {v : V}, BtAll K L H vs es → v ∈ vs → ∃ e, e ∈ es ∧ Bt K L H v e
  | _, _, v, .nil, h => nomatch h
  | _, _, v, .cons h t, m => by
    rcases List.mem_cons.mp m with rfl | m
    · exact ⟨_, List.mem_cons_self .., h⟩
    · obtain ⟨e, h1, h2⟩ := BtAll.mem t m
      exact ⟨e, List.mem_cons_of_mem _ h1, h2⟩
theorem ne_new {L : List Addr} {H : Hp} {p a : Addr} {o : HO} (n : H p = none) (h : a ∉ L) (e : H a = some o) : a ∉ p :: L := fun z => by
  rcases List.mem_cons.mp z with z | z
  · rw [z, n] at e; cases e
  · exact h z
mutual
theorem Bt_wide {K : Frag} {L : List Addr} {H : Hp} {p : Addr} (n : H p = none) : ∀ {v : V} {d : PyData}, Bt K L H v d → Bt K (p :: L) H v d
  | _, _, .non => .non
  | _, _, .bl b => .bl b
  | _, _, .int i => .int i
  | _, _, .str h => .str h
  | _, _, .lst h e => .lst (ne_new n h e) e
  | _, _, .dct h e => .dct (ne_new n h e) e
  | _, _, .tup h t => .tup h (BtAll_wide n t)
theorem BtAll_wide {K : Frag} {L : List Addr} {H : Hp} {p : Addr} (n : H p = none) : ∀ {v : List V} {d : List PyData}, BtAll K L H v d → BtAll K (p :: L) H v d
  | _, _, .nil => .nil
  | _, _, .cons h t => .cons (Bt_wide n h) (BtAll_wide n t)
end
mutual
theorem Bt_less {K : Frag} {L : List Addr} {H : Hp} {p : Addr} : ∀ {v : V} {d : PyData}, Bt K (p :: L) H v d → Bt K L H v d
  | _, _, .non => .non
  | _, _, .bl b => .bl b
  | _, _, .int i => .int i
  | _, _, .str h => .str h
  | _, _, .lst h e => .lst (fun z => h (List.mem_cons_of_mem _ z)) e
  | _, _, .dct h e => .dct (fun z => h (List.mem_cons_of_mem _ z)) e
  | _, _, .tup h t => .tup h (BtAll_less t)
theorem BtAll_less {K : Frag} {L : List Addr} {H : Hp} {p : Addr} : ∀ {v : List V} {d : List PyData}, BtAll K (p :: L) H v d → BtAll K L H v d
  | _, _, .nil => .nil
  | _, _, .cons h t => .cons (Bt_less h) (BtAll_less t)
end
/-- an expression that makes a value anew, of this size and depth, where slot 1 holds v1 -/
def Ge (K : Frag) (L : List Addr) (H0 : Hp) (v1 : V) (te : TE) (n m : Nat) : Prop := ∀ (σ : St) (H : Hp) (Q : VK), σ[1]? = some (some v1) → Same H0 H → (∀ (v : V) (e : PyData) (H' : Hp), Same H H' → Bt K L H' v e → sz e ≤ n → dep e ≤ m → noD e = true → Q v H') → te σ H Q
def GeA (K : Frag) (L : List Addr) (H0 : Hp) (v1 : V) (ta : TA) (n m k : Nat) : Prop := ∀ (σ : St) (H : Hp) (Q : List V → Hp → Prop), σ[1]? = some (some v1) → Same H0 H → (∀ (vs : List V) (es : List PyData) (H' : Hp), Same H H' → BtAll K L H' vs es → szs es ≤ n → deps es ≤ m → vs.length = k → noDs es = true → Q vs H') → ta σ H Q
def GeT (K : Frag) (L : List Addr) (H0 : Hp) (v1 : V) (te : TE) (n m : Nat) : Prop := ∀ (σ : St) (H : Hp) (Q : VK), σ[1]? = some (some v1) → Same H0 H → (∀ (b : Addr) (ys : List V) (es : List PyData) (H' : Hp), Same H H' → SqT K H' b ys → BtAll K L H' ys es → szs es ≤ n → deps es ≤ m → noDs es = true → Q (.ref b) H') → te σ H Q
section
variable {K : Frag} {L : List Addr} {H0 : Hp} {v1 : V}
theorem Gd.ge {te : TE} {n m : Nat} (h : Gd K L H0 te n m) : Ge K L H0 v1 te n m := fun σ H Q _ s q => h σ H Q s q
theorem GdA.ge {ta : TA} {n m k : Nat} (h : GdA K L H0 ta n m k) : GeA K L H0 v1 ta n m k := fun σ H Q _ s q => h σ H Q s q
theorem GeT.ge {te : TE} {n m : Nat} (h : GeT K L H0 v1 te n m) : Ge K L H0 v1 te (n + 1) (m + 1) := fun σ H Q e s q => h σ H Q e s fun b ys es H' s' h1 h2 z d nn => q _ (.tuple es) H' s' (.tup h1 h2) (by rw [sz_tuple]; omega) (by rw [dep_tuple]; omega) nn
theorem gea_nil : GeA K L H0 v1 tNil 0 0 0 := fun _ H Q _ _ q => q [] [] H (Same.refl H) .nil (Nat.le_refl 0) (Nat.le_refl 0) rfl rfl
theorem gea_cons {te : TE} {ta : TA} {n m n' m' k : Nat} (h : Ge K L H0 v1 te n m) (t : GeA K L H0 v1 ta n' m' k) : GeA K L H0 v1 (tCons te ta) (n + n') (max m m') (k + 1) := fun σ H Q e0 s q =>
  h σ H _ e0 s fun v e H1 s1 b1 z1 d1 n1 => t σ H1 _ e0 (s.trans s1) fun vs es H2 s2 b2 z2 d2 l2 n2 => q (v :: vs) (e :: es) H2 (s1.trans s2) (.cons (b1.mono (.of s2)) b2) (by show sz e + szs es ≤ _; omega) (by show max (dep e) (deps es) ≤ _; omega) (by rw [List.length_cons, l2]) (by show (noD e && noDs es) = true; rw [n1, n2]; rfl)
theorem get_tup {ta : TA} {n m k : Nat} (h : GeA K L H0 v1 ta n m k) (hk : k ≤ 100) : GeT K L H0 v1 (tTup ta) n m := fun σ H Q e0 s q =>
  h σ H _ e0 s fun vs es H1 s1 b1 z1 d1 l1 nn => ⟨mid (by omega), fun p np => q p vs es _ (s1.trans (same_new np _)) (SqT.of upd_same) (b1.mono (.of (same_new np _))) z1 d1 nn⟩
theorem get_var {a : Addr} {xs : List V} {ds : List PyData} (ha : SqT K H0 a xs) (hx : BtAll K L H0 xs ds) (hn : noDs ds = true) : GeT K L H0 (.ref a) (tVar 1) (szs ds) (deps ds) := fun σ H Q e0 s q =>
  ⟨_, e0, q a xs ds H (Same.refl H) (TKs.of s _ _ ha) (hx.mono (.of s)) (Nat.le_refl _) (Nat.le_refl _) hn⟩
theorem ge_list {a : Addr} {xs : List V} (hL : ∀ p, H0 p = none → p ∉ L) (ha : SqT K H0 a xs) : Ge K L H0 (.ref a) (tCB (fun xs H Q => ∃ p ys, xs = [V.ref p] ∧ (SqL K H p ys ∨ SqT K H p ys) ∧ ∀ l, H l = none → Q (.ref l) (upd H l (.lst ys))) (tCons (tVar 1) tNil)) 1 0 := fun σ H Q e0 s q =>
  ⟨_, e0, a, xs, rfl, .inr (TKs.of s _ _ ha), fun l nl => q _ (.list []) _ (same_new nl _) (.lst (hL l (s.free nl)) upd_same) (Nat.le_refl 1) (Nat.le_refl 0) rfl⟩
theorem get_sl {te : TE} {tl th : TO} {lo hi : Option Int} {n m : Nat} (h : GeT K L H0 v1 te n m) (hl : ∀ (σ : St) (H : Hp) (Q : Option Int → Hp → Prop), Q lo H → tl σ H Q) (hh : ∀ (σ : St) (H : Hp) (Q : Option Int → Hp → Prop), Q hi H → th σ H Q) : GeT K L H0 v1 (tSl (rSlA K) te tl th) n m := fun σ H Q e0 s q =>
  h σ H _ e0 s fun b ys es H1 s1 h1 h2 z d nn => hl σ H1 _ (hh σ H1 _ (slB (L := L) h1 h2 fun b' ys' es' H2 s2 h1' h2' z' d' n' => q b' ys' es' H2 (s1.trans s2) h1' h2' (by omega) (by omega) (n' nn)))
theorem get_cat {ta tb : TE} {n m n' m' : Nat} (h : GeT K L H0 v1 ta n m) (g : GeT K L H0 v1 tb n' m') (hl : n + n' ≤ 1000000) : GeT K L H0 v1 (tOp (rCatA K) ta tb) (n + n') (max m m') := fun σ H Q e0 s q =>
  h σ H _ e0 s fun b ys es H1 s1 h1 h2 z d nn => g σ H1 _ e0 (s.trans s1) fun b' ys' es' H2 s2 h1' h2' z' d' nn' => catB (L := L) (TKs.of s2 _ _ h1) (h2.mono (.of s2)) h1' h2' (by omega) fun r zs H3 s3 h3 h4 =>
    q r zs (es ++ es') H3 ((s1.trans s2).trans s3) h3 h4 (by rw [szs_append]; omega) (by rw [deps_append]; omega) (ndApp nn nn')
theorem ndRev : ∀ {ds : List PyData}, noDs ds = true → noDs ds.reverse = true
  | [], _ => rfl
  | d :: r, h => by
    have h' : (noD d && noDs r) = true := h
    rw [Bool.and_eq_true] at h'
    rw [List.reverse_cons]
    exact ndApp (ndRev h'.2) (by show (noD d && true) = true; rw [h'.1]; rfl)
theorem get_rev {te : TE} {n m : Nat} (h : GeT K L H0 v1 te n m) : GeT K L H0 v1 (tRevT K te) n m := fun σ H Q e0 s q =>
  h σ H _ e0 s fun b ys es H1 s1 h1 h2 z d nn => ⟨b, ys, rfl, h1, fun p np => q p _ es.reverse _ (s1.trans (same_new np _)) (SqT.of upd_same) ((btRev h2).mono (.of (same_new np _))) (by rw [(szRev es).1]; exact z) (by rw [(szRev es).2]; exact d) (ndRev nn)⟩
theorem at_lst {ta : TA} {n m k : Nat} {σ : St} {H : Hp} {Q : VK} (h : GeA K L H0 v1 ta n m k) (e0 : σ[1]? = some (some v1)) (hk : k ≤ 100) (s : Same H0 H)
    (q : ∀ (vs : List V) (es : List PyData) (H1 : Hp) (p : Addr), Same H H1 → BtAll K L H1 vs es → szs es ≤ n → deps es ≤ m → vs.length = k → noDs es = true → H0 p = none → H1 p = some (.lst vs) → Q (.ref p) H1) : tLst ta σ H Q :=
  h σ H _ e0 s fun vs es H1 s1 b1 z1 d1 l1 nn => ⟨mid (by omega), fun p np => q vs es _ p (s1.trans (same_new np _)) (b1.mono (.of (same_new np _))) z1 d1 l1 nn ((s.trans s1).free np) upd_same⟩
/-- a list of such values grown by another one -/
theorem grow {ta : TA} {n m k : Nat} {i : Nat} {σ : St} {H : Hp} {Q : VK} {p0 : Addr} {vs0 : List V} {es0 : List PyData} {n0 m0 k0 : Nat} (h : GeA K L H0 v1 ta n m k) (e0 : σ[1]? = some (some v1)) (hi : σ[i]? = some (some (.ref p0))) (hk : k ≤ 100) (hk0 : k0 ≤ 1000) (s : Same H0 H)
    (b0 : BtAll K L H vs0 es0) (z0 : szs es0 ≤ n0) (d0 : deps es0 ≤ m0) (l0 : vs0.length = k0) (nn0 : noDs es0 = true) (g0 : H p0 = some (.lst vs0))
    (q : ∀ (vs : List V) (es : List PyData) (H1 : Hp) (p : Addr), Same H H1 → BtAll K L H1 vs es → szs es ≤ n0 + n → deps es ≤ max m0 m → vs.length = k0 + k → noDs es = true → H0 p = none → H1 p = some (.lst vs) → Q (.ref p) H1) : tOp rCat (tVar i) (tLst ta) σ H Q := by
  refine ⟨_, hi, at_lst h e0 hk s fun us es H1 p1 s1 b1 z1 d1 l1 nn1 f1 e1 => ?_⟩
  refine ⟨p0, p1, vs0, us, rfl, rfl, s1 _ _ g0, e1, mid (by omega), fun p np => ?_⟩
  exact q _ (es0 ++ es) _ p (s1.trans (same_new np _)) (((b0.mono (.of s1)).append b1).mono (.of (same_new np _))) (by rw [szs_append]; omega) (by rw [deps_append]; omega) (by rw [List.length_append]; omega) (ndApp nn0 nn1) ((s.trans s1).free np) upd_same
/-- the same with a bound for each value -/
def GeL (K : Frag) (L : List Addr) (H0 : Hp) (v1 : V) (ta : TA) (n m k : Nat) : Prop := ∀ (σ : St) (H : Hp) (Q : List V → Hp → Prop), σ[1]? = some (some v1) → Same H0 H → (∀ (vs : List V) (es : List PyData) (H' : Hp), Same H H' → BtAll K L H' vs es → (∀ y ∈ es, sz y ≤ n ∧ dep y ≤ m) → vs.length = k → noDs es = true → Q vs H') → ta σ H Q
theorem gel_nil {n m : Nat} : GeL K L H0 v1 tNil n m 0 := fun _ H Q _ _ q => q [] [] H (Same.refl H) .nil (fun y h => nomatch h) rfl rfl
theorem gel_cons {te : TE} {ta : TA} {n m n' m' k : Nat} (h : Ge K L H0 v1 te n' m') (hn : n' ≤ n) (hm : m' ≤ m) (t : GeL K L H0 v1 ta n m k) : GeL K L H0 v1 (tCons te ta) n m (k + 1) := fun σ H Q e0 s q =>
  h σ H _ e0 s fun v e H1 s1 b1 z1 d1 n1 => t σ H1 _ e0 (s.trans s1) fun vs es H2 s2 b2 z2 l2 n2 => q (v :: vs) (e :: es) H2 (s1.trans s2) (.cons (b1.mono (.of s2)) b2) (fun y hy => by
    rcases List.mem_cons.mp hy with rfl | hy
    · omega
    · exact z2 y hy) (by rw [List.length_cons, l2]) (by show (noD e && noDs es) = true; rw [n1, n2]; rfl)
theorem growL {ta : TA} {n m k : Nat} {i : Nat} {σ : St} {H : Hp} {Q : VK} {p0 : Addr} {vs0 : List V} {es0 : List PyData} {k0 : Nat} (h : GeL K L H0 v1 ta n m k) (e0 : σ[1]? = some (some v1)) (hi : σ[i]? = some (some (.ref p0))) (hk : k ≤ 100) (hk0 : k0 ≤ 1000) (s : Same H0 H)
    (b0 : BtAll K L H vs0 es0) (z0 : ∀ y ∈ es0, sz y ≤ n ∧ dep y ≤ m) (l0 : vs0.length = k0) (nn0 : noDs es0 = true) (g0 : H p0 = some (.lst vs0))
    (q : ∀ (vs : List V) (es : List PyData) (H1 : Hp) (p : Addr), Same H H1 → BtAll K L H1 vs es → (∀ y ∈ es, sz y ≤ n ∧ dep y ≤ m) → vs.length = k0 + k → noDs es = true → H1 p = none → Q (.ref p) (upd H1 p (.lst vs))) : tOp rCat (tVar i) (tLst ta) σ H Q := by
  refine ⟨_, hi, h σ H _ e0 s fun us es H1 s1 b1 z1 l1 nn1 => ⟨mid (by omega), fun p1 n1 => ?_⟩⟩
  have s2 := s1.trans (same_new n1 (.lst us))
  refine ⟨p0, p1, vs0, us, rfl, rfl, s2 _ _ g0, upd_same, mid (by omega), fun p np => ?_⟩
  exact q _ (es0 ++ es) _ p s2 ((b0.mono (.of s2)).append (b1.mono (.of (same_new n1 _)))) (fun y hy => by
    rcases List.mem_append.mp hy with hy | hy
    · exact z0 y hy
    · exact z1 y hy) (by rw [List.length_append]; omega) (ndApp nn0 nn1) np
end
section
variable {P : Program} {w : World} {K : PySem.W.Frag} {mg : Str → Option Value} {base : Heap}
abbrev NO : List Str := ["_law_deck_here", "_law_thing", "_law_some"]
theorem scOdd : FnScope NO A2 (defScope sOdd) := ⟨rfl, rfl, rfl, by decide +kernel, rfl, by decide +kernel, by decide +kernel⟩
theorem ok_odd {n : Nat} {f g : Addr} {fd gd : FuncData} (F : Fun K "_law_odd" "_law_odd" sOdd f fd) (T : Ty4 mg) (G : FnOk P w K mg base CX0 2 g gd ["_law_deck_here", "_law_most"] spTake) (bG : L2.Binds K gd ["_law_deck_here", "_law_most"] []) (kG : keepIn K (.ref g) = true) (mG : mg "_law_draw" = some (.ref g)) (mlist : mg "list" = none) : FnOk P w K mg base CX0 3 f fd A2 (spBent K n) := by
  refine F.ok scOdd (fun vs H Q E h => ?_) (fun cdv A outer s H vs Q E hr h => ?_)
  · obtain ⟨d, c, v, e, rfl, _⟩ := h
    rfl
  obtain ⟨d, c, v, e, rfl, D, hv, ⟨hz, hn⟩, _, q⟩ := h
  refine ⟨_, pss_cons (ps_set (i := 2) scOdd.nd rfl (.inl rfl) (pe_lst (pa_cons pe_str (pa_cons pe_str (pa_cons pe_str (pa_cons pe_str (pa_cons pe_str (pa_cons pe_str (pa_cons pe_str (pa_cons pe_str (pa_cons pe_str (pa_cons pe_str (pa_cons pe_int (pa_cons pe_bl (pa_cons pe_non (pa_cons (pe_lst pa_nil) (pa_cons (pe_tup pa_nil) pa_nil)))))))))))))))))
    (pss_cons (ps_set (i := 2) scOdd.nd rfl (.inl rfl) (pe_op op_cat (pv 2) (pe_lst (pa_cons (pe_tup (pa_cons pe_str pa_nil)) (pa_cons (pe_tup (pa_cons pe_str (pa_cons pe_str pa_nil))) (pa_cons (pe_tup (pa_cons pe_str (pa_cons pe_str pa_nil))) (pa_cons (pe_tup (pa_cons pe_str (pa_cons pe_str pa_nil))) (pa_cons (pe_tup (pa_cons pe_str (pa_cons pe_int pa_nil))) (pa_cons (pe_tup (pa_cons pe_str pa_nil)) pa_nil)))))))))
    (pss_cons (ps_set (i := 2) scOdd.nd rfl (.inl rfl) (pe_op op_cat (pv 2) (pe_lst (pa_cons (pe_tup (pa_cons pe_str (pa_cons (pe_tup (pa_cons pe_str (pa_cons (pe_tup pa_nil) pa_nil))) pa_nil))) (pa_cons (pe_tup (pa_cons pe_str (pa_cons (pe_tup pa_nil) pa_nil))) (pa_cons (pe_tup (pa_cons pe_str (pa_cons (pe_tup pa_nil) pa_nil))) (pa_cons (pe_tup (pa_cons pe_str pa_nil)) pa_nil)))))))
    (C8.pss_cut (ps_if (pt_val (pe_callB call_isi (by rfl) T.isi PyProof.Rows.boot_isinstance (pa_cons (pv 1) (pa_cons (pe_bltn (v := .ty "tuple") (by rfl) T.tup (by decide +kernel) rfl) pa_nil))))
      (pss_cons (ps_set (i := 2) scOdd.nd rfl (.inl rfl) (pe_op op_cat (pv 2) (pe_lst (pa_cons (pe_callTy call_list_of (by rfl) mlist (by decide +kernel) (pa_cons (pv 1) pa_nil)) (pa_cons (pe_op op_catA (pv 1) (pe_slice sl_tupA (pv 1) (po_some (pe_un un_neg pe_int)) po_none)) (pa_cons (pe_slice sl_tupA (pv 1) po_none (po_some (pe_un un_neg pe_int))) (pa_cons (pe_revT (pv 1)) (pa_cons (pe_tup (pa_cons (pv 1) pa_nil)) pa_nil))))))))
      (pss_one (ps_expr (pe_bm PySem.F.plainAttrs_list PySem.F.slot_list_append PySem.F.type_list_append mt_append (pv 2) (pa_cons (pe_op op_catA (pe_slice sl_tupA (pv 1) po_none (po_some pe_int)) (pe_tup (pa_cons pe_str (pa_cons (pe_tup (pa_cons pe_str (pa_cons (pe_tup pa_nil) pa_nil))) pa_nil)))) pa_nil))))) pss_nil)
    (pss_one (ps_ret (pe_ix ix_list (pv 2) (pe_call G hr rfl mG kG bG .nil pass0 (pa_cons (pv 0) (pa_cons (pe_callB call_len_seq (by rfl) T.len PySem.boot_len (pa_cons (pv 2) pa_nil)) pa_nil))) (fun _ _ => rfl))))))), ?_⟩
  have hL : ∀ p, H p = none → p ∉ [d, c] := fun p np => D.nd np
  unfold tSeq tAsg
  refine at_lst (K := K) (L := [d, c]) (H0 := H) (v1 := v) ((gda_cons (gd_str (z := "A") (by decide +kernel)) (gda_cons (gd_str (z := "a") (by decide +kernel)) (gda_cons (gd_str (z := "") (by decide +kernel)) (gda_cons (gd_str (z := "a0") (by decide +kernel)) (gda_cons (gd_str (z := "A01") (by decide +kernel)) (gda_cons (gd_str (z := "number") (by decide +kernel)) (gda_cons (gd_str (z := "row") (by decide +kernel)) (gda_cons (gd_str (z := "x1y") (by decide +kernel)) (gda_cons (gd_str (z := "Ab") (by decide +kernel)) (gda_cons (gd_str (z := "-") (by decide +kernel)) (gda_cons (gd_int _) (gda_cons (gd_bl _) (gda_cons gd_non (gda_cons (gd_lst hL gda_nil (by decide)) (gda_cons (gd_tup gda_nil (by decide)) gda_nil)))))))))))))))).ge rfl (by decide) (Same.refl H) fun vs0 es0 H0 p0 s0 b0 z0 d0 l0 nn0 f0 e0 => ?_
  refine grow (K := K) (L := [d, c]) (H0 := H) (v1 := v) (i := 2) ((gda_cons (gd_tup (gda_cons (gd_str (z := "number") (by decide +kernel)) gda_nil) (by decide)) (gda_cons (gd_tup (gda_cons (gd_str (z := "open") (by decide +kernel)) (gda_cons (gd_str (z := "a") (by decide +kernel)) gda_nil)) (by decide)) (gda_cons (gd_tup (gda_cons (gd_str (z := "open") (by decide +kernel)) (gda_cons (gd_str (z := "A") (by decide +kernel)) gda_nil)) (by decide)) (gda_cons (gd_tup (gda_cons (gd_str (z := "open") (by decide +kernel)) (gda_cons (gd_str (z := "") (by decide +kernel)) gda_nil)) (by decide)) (gda_cons (gd_tup (gda_cons (gd_str (z := "number") (by decide +kernel)) (gda_cons (gd_int _) gda_nil)) (by decide)) (gda_cons (gd_tup (gda_cons (gd_str (z := "list") (by decide +kernel)) gda_nil) (by decide)) gda_nil))))))).ge rfl rfl (by decide) (by decide) s0 b0 z0 d0 l0 nn0 e0 fun vs1 es1 H1 p1 s1' b1 z1 d1 l1 nn1 f1 e1 => ?_
  have s1 := s0.trans s1'
  refine grow (K := K) (L := [d, c]) (H0 := H) (v1 := v) (i := 2) ((gda_cons (gd_tup (gda_cons (gd_str (z := "row") (by decide +kernel)) (gda_cons (gd_tup (gda_cons (gd_str (z := "A") (by decide +kernel)) (gda_cons (gd_tup gda_nil (by decide)) gda_nil)) (by decide)) gda_nil)) (by decide)) (gda_cons (gd_tup (gda_cons (gd_str (z := "") (by decide +kernel)) (gda_cons (gd_tup gda_nil (by decide)) gda_nil)) (by decide)) (gda_cons (gd_tup (gda_cons (gd_str (z := "a") (by decide +kernel)) (gda_cons (gd_tup gda_nil (by decide)) gda_nil)) (by decide)) (gda_cons (gd_tup (gda_cons (gd_str (z := "A") (by decide +kernel)) gda_nil) (by decide)) gda_nil))))).ge rfl rfl (by decide) (by decide) s1 b1 z1 d1 l1 nn1 e1 fun vs2 es2 H2 p2 s2' b2 z2 d2 l2 nn2 f2 e2 => ?_
  have s2 := s1.trans s2'
  have z2 : szs es2 ≤ 60 := Nat.le_trans z2 (by decide)
  have d2 : deps es2 ≤ 3 := Nat.le_trans d2 (by decide)
  have l2 : vs2.length = 25 := l2
  clear b0 b1 z0 z1 d0 d1 l0 l1 nn0 nn1
  obtain ⟨ty, ht, g1, _⟩ := (hv.mono (.of s2)).ty
  refine ⟨fun σ' H3 => ∃ (p : Addr) (vs : List V) (es : List PyData), σ' = [some (.ref d), some v, some (.ref p)] ∧ Same H H3 ∧ H p = none ∧ H3 p = some (.lst vs) ∧ BtAll K [d, c] H3 vs es ∧ (∀ y ∈ es, sz y ≤ 2 * sz e + 60 ∧ dep y ≤ dep e + 3) ∧ 0 < vs.length ∧ vs.length ≤ 100 ∧ noDs es = true,
    ⟨_, rfl, _, _, _, _, _, rfl, .ty _, ht, g1, _, rfl, ?_⟩, ?_⟩
  rotate_left
  · rintro σ' H3 ⟨p, vs, es, rfl, s3, fp, ep, bb, hy, l0, l1, nn⟩
    have D3 := D.same s3
    have np : p ∉ [d, c] := hL p fp
    refine ⟨_, rfl, _, rfl, _, rfl, p, vs, rfl, .inl (SqL.of ep), d, c, _, rfl, D3, by omega, by omega, fun r H5 r0 r1 k5 D5 => ?_⟩
    obtain ⟨x, hx, ha⟩ := pick (xs := vs) (n := vs.length) r0 r1 rfl
    obtain ⟨e', he, hb⟩ := BtAll.mem bb hx
    obtain ⟨h1, h2⟩ := hy e' he
    exact ⟨p, vs, _, _, rfl, rfl, SqL.of (k5 p _ np ep), ha, q x e' H5 (hb.mono (D3.bks k5)) ⟨h1, noDs_mem nn he⟩ h2 ((Kp.of s3).trans k5) D5⟩
  have small : ∀ y ∈ es2, sz y ≤ 2 * sz e + 60 ∧ dep y ≤ dep e + 3 := fun y hy => by
    have := szs_mem hy; have := deps_mem hy
    omega
  cases hT : kTupB e with
  | false =>
    exact iteF ⟨p2, vs2, es2, rfl, s2, f2, e2, b2, small, by omega, by omega, nn2⟩
  | true =>
  refine iteT ?_
  obtain ⟨ds, rfl⟩ := kTupB_of hT
  obtain ⟨a, xs, rfl, ha, hx⟩ := hv.tupD
  have hnn : noDs ds = true := hn
  rw [sz_tuple] at hz small
  rw [dep_tuple] at small
  have X := get_var (L := [d, c]) ha hx hnn
  have neg : ∀ (σ : St) (H : Hp) (Q : Option Int → Hp → Prop), Q (some (-1)) H → tPart (tUn (rU fun i => V.int (-i)) (tC (V.int 1))) σ H Q := fun σ H Q q => ⟨_, rfl, _, rfl, q⟩
  have one : ∀ (σ : St) (H : Hp) (Q : Option Int → Hp → Prop), Q (some 1) H → tPart (tC (V.int 1)) σ H Q := fun σ H Q q => ⟨_, rfl, q⟩
  have no : ∀ (σ : St) (H : Hp) (Q : Option Int → Hp → Prop), Q none H → tNoPart σ H Q := fun σ H Q q => q
  rw [sz_tuple, dep_tuple]
  have GX : GeL K [d, c] H (.ref a) _ (2 * (1 + szs ds) + 60) (1 + deps ds + 3) _ := gel_cons (ge_list hL ha) (by omega) (by omega) (gel_cons (get_cat X (get_sl X neg no) (by omega)).ge (by omega) (by omega) (gel_cons (get_sl X no neg).ge (by omega) (by omega) (gel_cons (get_rev X).ge (by omega) (by omega) (gel_cons (get_tup (gea_cons X.ge gea_nil) (by decide)).ge (by omega) (by omega) gel_nil))))
  refine growL (K := K) (L := [d, c]) (H0 := H) (v1 := .ref a) (i := 2) GX rfl rfl (by decide) (by decide) s2 b2 small l2 nn2 e2 fun vs3 es3 Hq p3 s3' b3 z3 l3 nn3 f3 => ?_
  have sq := s2.trans s3'
  have fp : H p3 = none := sq.free f3
  have e3 : upd Hq p3 (.lst vs3) p3 = some (.lst vs3) := upd_same
  have s3 : Same Hq (upd Hq p3 (.lst vs3)) := same_new f3 _
  have b3 := (BtAll_wide f3 b3).mono (.of s3)
  generalize upd Hq p3 (.lst vs3) = H3 at e3 s3 b3
  have s03 := sq.trans s3
  refine ⟨_, rfl, .inl ⟨rfl, _, SqL.of e3⟩, ?_⟩
  have X' := get_var (L := [p3, d, c]) ha (BtAll_wide fp hx) hnn
  have GY : GeT K [p3, d, c] H (.ref a) _ _ _ := get_cat (get_sl X' no one) (get_tup ((gda_cons (gd_str (z := "A") (by decide +kernel)) (gda_cons (gd_tup (gda_cons (gd_str (z := "A") (by decide +kernel)) (gda_cons (gd_tup gda_nil (by decide)) gda_nil)) (by decide)) gda_nil)).ge) (by decide)) (by omega)
  refine GY _ H3 _ rfl s03 fun b ys es H4 s4 h1 h2 hz4 hd4 hn4 => ?_
  refine ⟨p3, vs3, .ref b, rfl, rfl, s4 _ _ e3, by rw [l3]; decide, ?_⟩
  have bk : BKs K [p3, d, c] H4 (upd H4 p3 (.lst (vs3 ++ [.ref b]))) := ⟨TKs.lst (s4 _ _ e3), fun a o n' e => by rw [upd_ne (fun z => n' (by rw [z]; exact List.mem_cons_self ..))]; exact e⟩
  refine ⟨p3, _, es3 ++ [.tuple es], rfl, own_new (s03.trans s4) fp, fp, upd_same, BtAll_less (((b3.mono (.of s4)).append (.cons (.tup h1 h2) .nil)).mono bk), fun y hy => ?_, by rw [List.length_append]; show 0 < _ + 1; omega, by rw [List.length_append, l3]; show 25 + 5 + 1 ≤ 100; decide, ndApp nn3 (by show (noDs es && true) = true; rw [hn4]; rfl)⟩
  rcases List.mem_append.mp hy with hy | hy
  · exact z3 y hy
  · rw [List.mem_singleton.mp hy, sz_tuple, dep_tuple]
    omega
end
end K15
set_option maxHeartbeats 400000
namespace K15
open PySem PySem.W L2 SX Cm
theorem bk3 : BK 3 = 2199 := by decide
section
variable {P : Program} {w : World} {K : PySem.W.Frag} {mg : Str → Option Value} {base : Heap}
theorem all_looks {ft fw gx : Addr} {dt dw dx : FuncData} (Ft : Fun K "_law_is_kind" "_law_is_kind" sLKind ft dt) (bt : L2.Binds K dt ["_law_thing"] []) (mt : mg "_law_is_kind" = some (.ref ft))
    (Fw : Fun K "_law_is_stack" "_law_is_stack" sLStack fw dw) (bw : L2.Binds K dw ["_law_thing"] []) (mw : mg "_law_is_stack" = some (.ref fw)) (T : Ty4 mg)
    (X : FnOk P w K mg base CX0 2 gx dx ["_law_thing", "_law_letters"] (spLet K)) (bX : L2.Binds K dx ["_law_thing", "_law_letters"] []) (kX : keepIn K (.ref gx) = true) (mX : mg "_law_is_name" = some (.ref gx)) :
    ∀ n : Nat, FnOk P w K mg base CX0 (3 + n) ft dt ["_law_thing"] (spLS K .kd n) ∧ FnOk P w K mg base CX0 (3 + n) fw dw ["_law_thing"] (spLS K .st n) := by
  intro n
  induction n with
  | zero => exact ⟨ok_lkind0 Ft, ok_lstack0 Fw⟩
  | succ n ih => exact ⟨ok_lkind Ft T ih.1 bt Ft.kp mt ih.2 bw Fw.kp mw X bX kX mX, ok_lstack Fw T ih.1 bt Ft.kp mt X bX kX mX⟩
theorem all_bent {fb g go : Addr} {db gd god : FuncData} (F : Fun K "_law_bent" "_law_bent" sBent fb db) (bB : L2.Binds K db A2 []) (mB : mg "_law_bent" = some (.ref fb)) (T : Ty4 mg) (G : FnOk P w K mg base CX0 2 g gd ["_law_deck_here", "_law_most"] spTake) (bG : L2.Binds K gd ["_law_deck_here", "_law_most"] []) (kG : keepIn K (.ref g) = true) (mG : mg "_law_draw" = some (.ref g))
    (O : ∀ n, FnOk P w K mg base CX0 3 go god A2 (spBent K n)) (bO : L2.Binds K god A2 []) (kO : keepIn K (.ref go) = true) (mO : mg "_law_odd" = some (.ref go)) : ∀ n : Nat, FnOk P w K mg base CX0 (3 + n) fb db A2 (spBent K n) := by
  intro n
  induction n with
  | zero => exact ok_bent0 F
  | succ n ih => exact ok_bent F T G bG kG mG (O (n + 1)) bO kO mO ih bB F.kp mB
def spLaw (K : PySem.W.Frag) : Sp := fun vs H Q _ => ∃ (a : Addr) (ns : List Int), vs = [.ref a] ∧ SqL K H a (ns.map V.int) ∧ ns.length ≤ 63 ∧ ∀ H', Q (.bl true) H'
abbrev NL : List Str := ["_law_script", "_law_deck_here", "_law_turn", "_law_pair", "_law_thing", "_law_some"]
theorem scLaw : FnScope NL ["_law_script"] (defScope sLaw) := ⟨rfl, rfl, rfl, by decide +kernel, rfl, by decide +kernel, by decide +kernel⟩
theorem ok_law {f gd gr gs gb gi g1 g2 g3 gt : Addr} {fd dd rd sd bd id' d1 d2 d3 td : FuncData} (F : Fun K "law" "law" sLaw f fd)
    (DE : FnOk P w K mg base CX0 1 gd dd ["_law_script"] (spDeck K)) (bDE : L2.Binds K dd ["_law_script"] []) (kDE : keepIn K (.ref gd) = true) (mDE : mg "_law_deck" = some (.ref gd))
    (G : FnOk P w K mg base CX0 2 gt td ["_law_deck_here", "_law_most"] spTake) (bG : L2.Binds K td ["_law_deck_here", "_law_most"] []) (kG : keepIn K (.ref gt) = true) (mG : mg "_law_draw" = some (.ref gt))
    (RO : FnOk P w K mg base CX0 12 gr rd ["_law_deck_here"] (spRowKind K)) (bRO : L2.Binds K rd ["_law_deck_here"] []) (kRO : keepIn K (.ref gr) = true) (mRO : mg "_law_row_kind" = some (.ref gr))
    (KI : FnOk P w K mg base CX0 10 gs sd A3 (spKind K 3)) (bKI : L2.Binds K sd A3 []) (kKI : keepIn K (.ref gs) = true) (mKI : mg "_law_kind" = some (.ref gs))
    (B : FnOk P w K mg base CX0 18 gb bd A2 (spBent K 15)) (bB : L2.Binds K bd A2 []) (kB : keepIn K (.ref gb) = true) (mB : mg "_law_bent" = some (.ref gb))
    (R : FnOk P w K mg base CX0 22 gi id' ["_law_thing"] (spRight K 18)) (bR : L2.Binds K id' ["_law_thing"] []) (kR : keepIn K (.ref gi) = true) (mR : mg "_law_right" = some (.ref gi))
    (I1 : FnOk P w K mg base CX0 7 g1 d1 ["thing"] (spIs K .kd)) (b1 : L2.Binds K d1 ["thing"] []) (k1 : keepIn K (.ref g1) = true) (m1 : mg "is_kind" = some (.ref g1))
    (I2 : FnOk P w K mg base CX0 7 g2 d2 ["thing"] (spIs K .st)) (b2 : L2.Binds K d2 ["thing"] []) (k2 : keepIn K (.ref g2) = true) (m2 : mg "is_stack_kind" = some (.ref g2))
    (I3 : FnOk P w K mg base CX0 7 g3 d3 ["thing"] (spIs K .rw)) (b3 : L2.Binds K d3 ["thing"] []) (k3 : keepIn K (.ref g3) = true) (m3 : mg "is_row_kind" = some (.ref g3))
    (mrange : mg "range" = none) : FnOk P w K mg base CX0 23 f fd ["_law_script"] (spLaw K) := by
  refine F.ok scLaw (fun vs H Q E h => ?_) (fun cdv A outer s H vs Q E hr h => ?_)
  · obtain ⟨a, ns, rfl, _⟩ := h
    rfl
  obtain ⟨a, ns, rfl, hS, h63, q⟩ := h
  refine ⟨_, pss_cons (ps_set (i := 1) scLaw.nd rfl (.inl rfl) (pe_call DE (hr.mono (by decide)) rfl mDE kDE bDE .nil pass0 (pa_cons (pv 0) pa_nil)))
    (pss_cons (ps_for PassesOwn.never rfl (pi_range1 rfl mrange (pa_cons pe_int pa_nil)) (pg_name (i := 2) scLaw.nd rfl (.inl rfl))
      (pss_cons (ps_set (i := 3) scLaw.nd rfl (.inl rfl) (pe_call RO (hr.mono (by decide)) rfl mRO kRO bRO .nil pass0 (pa_cons (pv 1) pa_nil)))
      (pss_cons (ps_set (i := 4) scLaw.nd rfl (.inl rfl) (pe_ix ix_list (pe_lst (pa_cons (pv 3) (pa_cons (pe_ix ix_tup (pv 3) (pe_call G (hr.mono (by decide)) rfl mG kG bG .nil pass0 (pa_cons (pv 1) (pa_cons pe_int pa_nil))) (fun _ _ => rfl)) (pa_cons (pe_call KI (hr.mono (by decide)) rfl mKI kKI bKI .nil pass0 (pa_cons (pv 1) (pa_cons (pe_lst (pa_cons pe_int pa_nil)) (pa_cons pe_int pa_nil)))) pa_nil)))) (pe_call G (hr.mono (by decide)) rfl mG kG bG .nil pass0 (pa_cons (pv 1) (pa_cons pe_int pa_nil))) (fun _ _ => rfl)))
      (pss_cons (ps_if (PW.pt (pw_or (pt_not (pt_val (pe_call R hr rfl mR kR bR .nil pass0 (pa_cons (pv 4) pa_nil)))) (pw_or1 (pt_not (pt_val (pe_call R hr rfl mR kR bR .nil pass0 (pa_cons (pe_call B (hr.mono (by decide)) rfl mB kB bB .nil pass0 (pa_cons (pv 1) (pa_cons (pv 4) pa_nil))) pa_nil))))))) (pss_one (ps_ret pe_bl)) pss_nil)
      (pss_one (ps_if (pt_not (PW.pt (pw_or (pt_val (pe_call I1 (hr.mono (by decide)) rfl m1 k1 b1 .nil pass0 (pa_cons (pv 4) pa_nil))) (pw_or (pt_val (pe_call I2 (hr.mono (by decide)) rfl m2 k2 b2 .nil pass0 (pa_cons (pv 4) pa_nil))) (pw_or1 (pt_val (pe_call I3 (hr.mono (by decide)) rfl m3 k3 b3 .nil pass0 (pa_cons (pv 4) pa_nil)))))))) (pss_one (ps_ret pe_bl)) pss_nil))))))
    (pss_cons (ps_set (i := 5) scLaw.nd rfl (.inl rfl) (pe_lst (pa_cons pe_non (pa_cons pe_int (pa_cons pe_bl (pa_cons pe_str (pa_cons pe_str (pa_cons pe_str (pa_cons (pe_lst pa_nil) (pa_cons (pe_tup pa_nil) (pa_cons (pe_tup (pa_cons pe_str pa_nil)) (pa_cons (pe_lst (pa_cons pe_str pa_nil)) (pa_cons (pe_tup (pa_cons pe_int pa_nil)) (pa_cons (pe_tup (pa_cons (pe_tup pa_nil) pa_nil)) (pa_cons (pe_tup (pa_cons pe_str (pa_cons (pe_tup pa_nil) pa_nil))) pa_nil)))))))))))))))
    (pss_cons (ps_for PassesOwn.never rfl (pi_list (pe_op op_cat (pv 5) (pe_lst (pa_cons (pe_tup (pa_cons (pe_tup (pa_cons pe_str (pa_cons (pe_tup pa_nil) pa_nil))) (pa_cons (pe_tup (pa_cons pe_str (pa_cons (pe_tup pa_nil) pa_nil))) pa_nil))) pa_nil)))) (pg_name (i := 4) scLaw.nd rfl (.inl rfl))
      (pss_one (ps_if (pt_not (pt_val (pe_call R hr rfl mR kR bR .nil pass0 (pa_cons (pv 4) pa_nil)))) (pss_one (ps_ret pe_bl)) pss_nil)))
    (pss_one (ps_ret pe_bl))))), ?_⟩
  refine ⟨_, rfl, a, ns, rfl, hS, h63, fun d c H1 s1 nd nc D1 => ?_⟩
  refine ⟨8, rfl, by decide, by decide, for_range (lo := 0) (n := 8) (fun i σ H' => ∃ (x2 x3 x4 x5 : Option V), σ = [some (.ref a), some (.ref d), x2, x3, x4, x5] ∧ Deck H' d c) ⟨_, _, _, _, rfl, D1⟩ ?_ ?_⟩
  · rintro i σ H2 hi ⟨x2, x3, x4, x5, rfl, D2⟩
    refine ⟨_, rfl, d, c, rfl, D2, fun p va vb ta tb m m' H3 hp hva hvb hta htb hm hm' k3 D3 => ?_⟩
    refine ⟨_, rfl, _, rfl, _, rfl, d, c, 2, rfl, D3, by decide, by decide, fun r H4 r0 r1 k4 D4 => ?_⟩
    have tk4 : TKs K H3 H4 := (D3.bks k4).tk
    obtain ⟨y, hy, hat⟩ := pick (xs := [va, vb]) (n := 2) r0 r1 rfl
    refine ⟨p, _, _, _, rfl, rfl, tk4 _ _ hp, hat, ?_⟩
    refine ⟨_, rfl, (by show 1 ≤ sizeLine; decide), fun l nl => ?_⟩
    have g4 : G3 (upd H4 l (.lst [.int 40])) d c l := ⟨D4.new nl, ⟨40, upd_same⟩, D4.nd nl⟩
    refine ⟨d, c, l, rfl, g4, fun vk tk' mk H5 hvk htk hmk k5 g5 => ⟨(by show 3 ≤ sizeLine; decide), fun ql nql => ?_⟩⟩
    have tk5 : TKs K H3 H5 := (tk4.trans (TKs.of (same_new nl (.lst [.int 40])))).trans (g4.tks k5)
    have D5 := g5.dk
    have tk6 := tk5.trans (TKs.of (same_new nql (.lst [.ref p, y, vk])))
    have e6 : upd H5 ql (.lst [.ref p, y, vk]) ql = some (.lst [.ref p, y, vk]) := upd_same
    have n6 : ql ∉ [d, c] := D5.nd nql
    have hvk := hvk.mono (.of (same_new nql (.lst [.ref p, y, vk])))
    have D6 := D5.new nql (o := .lst [.ref p, y, vk])
    generalize upd H5 ql (.lst [.ref p, y, vk]) = H6 at tk6 e6 hvk D6
    refine ⟨_, rfl, d, c, 3, rfl, D6, by decide, by decide, fun r' H7 r0' r1' k7 D7 => ?_⟩
    have tk67 : TKs K H6 H7 := (D6.bks k7).tk
    have tk7 := tk6.trans tk67
    obtain ⟨x, hx, hat'⟩ := pick (xs := [V.ref p, y, vk]) (n := 3) r0' r1' rfl
    refine ⟨ql, _, _, _, rfl, rfl, SqL.of (k7 ql _ n6 e6), hat', ?_⟩
    have c3 := bk3
    obtain ⟨oa, za, da, na⟩ := hta.ok
    obtain ⟨ob, zb, db, nb⟩ := htb.ok
    have HY : ∃ e, Bt K [d, c] H7 y e ∧ noD e = true ∧ sz e ≤ 400000 ∧ dep e ≤ 14 ∧ (ok .kd e || (ok .st e || ok .rw e)) = true := by
      simp only [List.mem_cons, List.not_mem_nil, or_false] at hy
      rcases hy with rfl | rfl
      · exact ⟨ta, hta.bt _ (hva.mono tk7), na, by omega, by omega, by rw [oa]; cases ok .kd ta <;> rfl⟩
      · exact ⟨tb, htb.bt _ (hvb.mono tk7), nb, by omega, by omega, by rw [ob]; cases ok .kd tb <;> rfl⟩
    have HX : ∃ e, Bt K [d, c] H7 x e ∧ noD e = true ∧ sz e ≤ 400000 ∧ dep e ≤ 14 ∧ (ok .kd e || (ok .st e || ok .rw e)) = true := by
      simp only [List.mem_cons, List.not_mem_nil, or_false] at hx
      rcases hx with rfl | rfl | rfl
      · refine ⟨.tuple [ta, tb], .tup (tk7 _ _ hp) (.cons (hta.bt _ (hva.mono tk7)) (.cons (htb.bt _ (hvb.mono tk7)) .nil)), ?_, ?_, ?_, ?_⟩
        · show (noD ta && (noD tb && true)) = true
          rw [na, nb]; rfl
        · show 1 + (sz ta + (sz tb + 0)) ≤ _
          omega
        · show 1 + max (dep ta) (max (dep tb) 0) ≤ _
          omega
        · rw [ok_rw2, oa, ob]; cases ok .kd (.tuple [ta, tb]) <;> cases ok .st (.tuple [ta, tb]) <;> rfl
      · exact HY
      · obtain ⟨ok', zk, dk, nk⟩ := htk.ok
        exact ⟨tk', htk.bt _ (hvk.mono tk67), nk, by omega, by omega, by rw [ok']; rfl⟩
    obtain ⟨e, hB, hnd, hz, hd, hok⟩ := HX
    clear HY hx hy hat hat' hva hvb hta htb hvk htk oa ob za zb da db
    refine ⟨_, rfl, [d, c], x, e, rfl, hB, hnd, by omega, by omega, fun H8 s8 => ⟨_, rfl, iteF ?_⟩⟩
    have hB := hB.mono (.of s8)
    have D8 := D7.same s8
    refine ⟨_, rfl, _, rfl, d, c, x, e, rfl, D8, hB, ⟨hz, hnd⟩, by omega, fun r e' H9 hB' ⟨hz', hn'⟩ hd' k9 D9 => ?_⟩
    refine ⟨[d, c], r, e', rfl, hB', hn', by omega, by omega, fun H10 s10 => ⟨_, rfl, iteF ?_⟩⟩
    have hB := (hB.mono (D8.bks k9)).mono (.of s10)
    have D10 := D9.same s10
    refine ⟨_, rfl, [d, c], x, e, rfl, hB, by omega, fun H11 s11 => ⟨_, rfl, ?_⟩⟩
    cases ho1 : ok .kd e with
    | true => exact iteT (iteF ⟨_, _, _, _, rfl, D10.same s11⟩)
    | false =>
    rw [ho1, Bool.false_or] at hok
    refine iteF ⟨_, rfl, [d, c], x, e, rfl, hB.mono (.of s11), by omega, fun H12 s12 => ⟨_, rfl, ?_⟩⟩
    cases ho2 : ok .st e with
    | true => exact iteT (iteF ⟨_, _, _, _, rfl, D10.same (s11.trans s12)⟩)
    | false =>
    rw [ho2, Bool.false_or] at hok
    refine iteF ⟨_, rfl, [d, c], x, e, rfl, hB.mono (.of (s11.trans s12)), by omega, fun H13 s13 => ⟨_, rfl, ?_⟩⟩
    rw [hok]
    exact iteF ⟨_, _, _, _, rfl, D10.same ((s11.trans s12).trans s13)⟩
  · rintro σ H2 ⟨x2, x3, x4, x5, rfl, D2⟩
    have hL : ∀ p, H2 p = none → p ∉ [d, c] := fun p np => D2.nd np
    dsimp only
    unfold tSeq tAsg
    refine at_lst (K := K) (L := [d, c]) (H0 := H2) (v1 := .ref d) ((gda_cons gd_non (gda_cons (gd_int _) (gda_cons (gd_bl _) (gda_cons (gd_str (z := "") (by decide +kernel)) (gda_cons (gd_str (z := "number") (by decide +kernel)) (gda_cons (gd_str (z := "A") (by decide +kernel)) (gda_cons (gd_lst hL gda_nil (by decide)) (gda_cons (gd_tup gda_nil (by decide)) (gda_cons (gd_tup (gda_cons (gd_str (z := "number") (by decide +kernel)) gda_nil) (by decide)) (gda_cons (gd_lst hL (gda_cons (gd_str (z := "number") (by decide +kernel)) gda_nil) (by decide)) (gda_cons (gd_tup (gda_cons (gd_int _) gda_nil) (by decide)) (gda_cons (gd_tup (gda_cons (gd_tup gda_nil (by decide)) gda_nil) (by decide)) (gda_cons (gd_tup (gda_cons (gd_str (z := "") (by decide +kernel)) (gda_cons (gd_tup gda_nil (by decide)) gda_nil)) (by decide)) gda_nil)))))))))))))).ge rfl (by decide) (Same.refl H2) fun vs0 es0 H3 p0 s0 b0 z0 d0 l0 nn0 f0 e0 => ?_
    unfold gName
    dsimp only
    unfold tFor iList
    refine grow (K := K) (L := [d, c]) (H0 := H2) (v1 := .ref d) (i := 5) ((gda_cons (gd_tup (gda_cons (gd_tup (gda_cons (gd_str (z := "") (by decide +kernel)) (gda_cons (gd_tup gda_nil (by decide)) gda_nil)) (by decide)) (gda_cons (gd_tup (gda_cons (gd_str (z := "") (by decide +kernel)) (gda_cons (gd_tup gda_nil (by decide)) gda_nil)) (by decide)) gda_nil)) (by decide)) gda_nil)).ge rfl rfl (by decide) (by decide) s0 b0 z0 d0 l0 nn0 e0 fun vs1 es1 H4 p1 s1' b1 z1 d1 l1 nn1 f1 e1 => ?_
    refine ⟨p1, rfl, ⟨_, SqL.of e1⟩, ?_⟩
    refine for_list (K := K) (a := p1) (xs := vs1) (g := gName 4) (tb := tIfS (tNot (tB (tCall (spRight K 18) [] E0 (tCons (tVar 4) tNil)))) (tRet (tC (V.bl false))) tNext) (D := { nx := tRet (tC (V.bl true)) { nx := fun x H' => Q V.non H', rt := Q }, rt := Q }) (fun j σ H' => ∃ (x4 : Option V), σ = [some (.ref a), some (.ref d), x2, x3, x4, some (.ref p0)] ∧ Same H4 H') ⟨x4, rfl, Same.refl _⟩ (fun j σ H' _ h => ?_) ?_ ?_
    · obtain ⟨_, _, hs⟩ := h
      exact SqL.of (hs _ _ e1)
    · rintro j x σ H' hj ⟨y4, rfl, hs⟩
      obtain ⟨t, htm, ht⟩ := BtAll.mem b1 (List.mem_of_getElem? hj)
      have := szs_mem htm
      have := deps_mem htm
      have z1 : szs es1 ≤ 100 := Nat.le_trans z1 (by decide)
      have d1 : deps es1 ≤ 10 := Nat.le_trans d1 (by decide)
      exact ⟨_, rfl, [d, c], x, t, rfl, ht.mono (.of hs), noDs_mem nn1 htm, by omega, by omega, fun H5 s5 => ⟨_, rfl, iteF ⟨_, rfl, hs.trans s5⟩⟩⟩
    · rintro σ H' ⟨y4, rfl, hs⟩
      exact q H'
end
end K15
namespace K15
open PySem PySem.W L2 SX Cm
theorem all_mk {l : PySem.W.OpenLaw} {w : World} {K : PySem.W.Frag} {h : Heap} {mg : Str → Option Value} {fa f1 f2 f3 f4 f5 f6 f7 f8 f9 f10 f11 f12 f13 f14 f15 f16 f17 f18 f19 f20 f21 f22 f23 f24 f25 f26 f27 : Addr} (X : K.In h) (G : h.Ns mainGlobals mg) (hfa : mg "law" = some (.ref fa))
    {od1 an1 od2 an2 od3 an3 od4 an4 od5 an5 od6 an6 od7 an7 od8 an8 od9 an9 od10 an10 od11 an11 od12 an12 od13 an13 od14 an14 od15 an15 od16 an16 od17 an17 od18 an18 od19 an19 od20 an20 od21 an21 od22 an22 od23 an23 od24 an24 od25 an25 od26 an26 od27 an27 : Option Addr} {sl1 sl2 sl3 sl4 sl5 sl6 sl7 sl8 sl9 sl10 sl11 sl12 sl13 sl14 sl15 sl16 sl17 sl18 sl19 sl20 sl21 sl22 sl23 sl24 sl25 sl26 sl27 : Array (Option Value)} {oc1 kV1 dc1 pm1 cd1 ct1 oc2 kV2 dc2 pm2 cd2 ct2 oc3 kV3 dc3 pm3 cd3 ct3 oc4 kV4 dc4 pm4 cd4 ct4 oc5 kV5 dc5 pm5 cd5 ct5 oc6 kV6 dc6 pm6 cd6 ct6 oc7 kV7 dc7 pm7 cd7 ct7 oc8 kV8 dc8 pm8 cd8 ct8 oc9 kV9 dc9 pm9 cd9 ct9 oc10 kV10 dc10 pm10 cd10 ct10 oc11 kV11 dc11 pm11 cd11 ct11 oc12 kV12 dc12 pm12 cd12 ct12 oc13 kV13 dc13 pm13 cd13 ct13 oc14 kV14 dc14 pm14 cd14 ct14 oc15 kV15 dc15 pm15 cd15 ct15 oc16 kV16 dc16 pm16 cd16 ct16 oc17 kV17 dc17 pm17 cd17 ct17 oc18 kV18 dc18 pm18 cd18 ct18 oc19 kV19 dc19 pm19 cd19 ct19 oc20 kV20 dc20 pm20 cd20 ct20 oc21 kV21 dc21 pm21 cd21 ct21 oc22 kV22 dc22 pm22 cd22 ct22 oc23 kV23 dc23 pm23 cd23 ct23 oc24 kV24 dc24 pm24 cd24 ct24 oc25 kV25 dc25 pm25 cd25 ct25 oc26 kV26 dc26 pm26 cd26 ct26 oc27 kV27 dc27 pm27 cd27 ct27 : Value}
    (a1 : PySem.W.nsIn K mainGlobals "is_marked" = some (some (.ref f1))) (l1 : K.lookup f1 = some ⟨oc1, od1, .func (PySem.W.fnOf "is_marked" "is_marked" (defArgs sMarked) (defBody sMarked) (defScope sMarked) .none kV1 dc1 pm1 an1 cd1 ct1), sl1⟩) (c1 : PySem.W.codeIn K cd1 "is_marked" = true) (k1 : PySem.W.keepIn K (.ref f1) = true)
    (a2 : PySem.W.nsIn K mainGlobals "has_form" = some (some (.ref f2))) (l2 : K.lookup f2 = some ⟨oc2, od2, .func (PySem.W.fnOf "has_form" "has_form" (defArgs sForm) (defBody sForm) (defScope sForm) .none kV2 dc2 pm2 an2 cd2 ct2), sl2⟩) (c2 : PySem.W.codeIn K cd2 "has_form" = true) (k2 : PySem.W.keepIn K (.ref f2) = true)
    (a3 : PySem.W.nsIn K mainGlobals "is_figures" = some (some (.ref f3))) (l3 : K.lookup f3 = some ⟨oc3, od3, .func (PySem.W.fnOf "is_figures" "is_figures" (defArgs sFigures) (defBody sFigures) (defScope sFigures) .none kV3 dc3 pm3 an3 cd3 ct3), sl3⟩) (c3 : PySem.W.codeIn K cd3 "is_figures" = true) (k3 : PySem.W.keepIn K (.ref f3) = true)
    (a4 : PySem.W.nsIn K mainGlobals "is_open_thing" = some (some (.ref f4))) (l4 : K.lookup f4 = some ⟨oc4, od4, .func (PySem.W.fnOf "is_open_thing" "is_open_thing" (defArgs sOpThing) (defBody sOpThing) (defScope sOpThing) .none kV4 dc4 pm4 an4 cd4 ct4), sl4⟩) (c4 : PySem.W.codeIn K cd4 "is_open_thing" = true) (k4 : PySem.W.keepIn K (.ref f4) = true)
    (a5 : PySem.W.nsIn K mainGlobals "is_open_rest" = some (some (.ref f5))) (l5 : K.lookup f5 = some ⟨oc5, od5, .func (PySem.W.fnOf "is_open_rest" "is_open_rest" (defArgs sOpRest) (defBody sOpRest) (defScope sOpRest) .none kV5 dc5 pm5 an5 cd5 ct5), sl5⟩) (c5 : PySem.W.codeIn K cd5 "is_open_rest" = true) (k5 : PySem.W.keepIn K (.ref f5) = true)
    (a6 : PySem.W.nsIn K mainGlobals "is_lettered" = some (some (.ref f6))) (l6 : K.lookup f6 = some ⟨oc6, od6, .func (PySem.W.fnOf "is_lettered" "is_lettered" (defArgs sLettered) (defBody sLettered) (defScope sLettered) .none kV6 dc6 pm6 an6 cd6 ct6), sl6⟩) (c6 : PySem.W.codeIn K cd6 "is_lettered" = true) (k6 : PySem.W.keepIn K (.ref f6) = true)
    (a7 : PySem.W.nsIn K mainGlobals "is_kind" = some (some (.ref f7))) (l7 : K.lookup f7 = some ⟨oc7, od7, .func (PySem.W.fnOf "is_kind" "is_kind" (defArgs sIsKind) (defBody sIsKind) (defScope sIsKind) .none kV7 dc7 pm7 an7 cd7 ct7), sl7⟩) (c7 : PySem.W.codeIn K cd7 "is_kind" = true) (k7 : PySem.W.keepIn K (.ref f7) = true)
    (a8 : PySem.W.nsIn K mainGlobals "is_stack_kind" = some (some (.ref f8))) (l8 : K.lookup f8 = some ⟨oc8, od8, .func (PySem.W.fnOf "is_stack_kind" "is_stack_kind" (defArgs sIsStK) (defBody sIsStK) (defScope sIsStK) .none kV8 dc8 pm8 an8 cd8 ct8), sl8⟩) (c8 : PySem.W.codeIn K cd8 "is_stack_kind" = true) (k8 : PySem.W.keepIn K (.ref f8) = true)
    (a9 : PySem.W.nsIn K mainGlobals "is_row_kind" = some (some (.ref f9))) (l9 : K.lookup f9 = some ⟨oc9, od9, .func (PySem.W.fnOf "is_row_kind" "is_row_kind" (defArgs sIsRwK) (defBody sIsRwK) (defScope sIsRwK) .none kV9 dc9 pm9 an9 cd9 ct9), sl9⟩) (c9 : PySem.W.codeIn K cd9 "is_row_kind" = true) (k9 : PySem.W.keepIn K (.ref f9) = true)
    (a10 : PySem.W.nsIn K mainGlobals "asked_within" = some (some (.ref f10))) (l10 : K.lookup f10 = some ⟨oc10, od10, .func (PySem.W.fnOf "asked_within" "asked_within" (defArgs sAsked) (defBody sAsked) (defScope sAsked) .none kV10 dc10 pm10 an10 cd10 ct10), sl10⟩) (c10 : PySem.W.codeIn K cd10 "asked_within" = true) (k10 : PySem.W.keepIn K (.ref f10) = true)
    (a11 : PySem.W.nsIn K mainGlobals "asked_of_row" = some (some (.ref f11))) (l11 : K.lookup f11 = some ⟨oc11, od11, .func (PySem.W.fnOf "asked_of_row" "asked_of_row" (defArgs sAskedRow) (defBody sAskedRow) (defScope sAskedRow) .none kV11 dc11 pm11 an11 cd11 ct11), sl11⟩) (c11 : PySem.W.codeIn K cd11 "asked_of_row" = true) (k11 : PySem.W.keepIn K (.ref f11) = true)
    (a12 : PySem.W.nsIn K mainGlobals "asked_of_kind" = some (some (.ref f12))) (l12 : K.lookup f12 = some ⟨oc12, od12, .func (PySem.W.fnOf "asked_of_kind" "asked_of_kind" (defArgs sAskedKind) (defBody sAskedKind) (defScope sAskedKind) .none kV12 dc12 pm12 an12 cd12 ct12), sl12⟩) (c12 : PySem.W.codeIn K cd12 "asked_of_kind" = true) (k12 : PySem.W.keepIn K (.ref f12) = true)
    (a13 : PySem.W.nsIn K mainGlobals "asked_of_stack" = some (some (.ref f13))) (l13 : K.lookup f13 = some ⟨oc13, od13, .func (PySem.W.fnOf "asked_of_stack" "asked_of_stack" (defArgs sAskedStack) (defBody sAskedStack) (defScope sAskedStack) .none kV13 dc13 pm13 an13 cd13 ct13), sl13⟩) (c13 : PySem.W.codeIn K cd13 "asked_of_stack" = true) (k13 : PySem.W.keepIn K (.ref f13) = true)
    (a14 : PySem.W.nsIn K mainGlobals "_law_deck" = some (some (.ref f14))) (l14 : K.lookup f14 = some ⟨oc14, od14, .func (PySem.W.fnOf "_law_deck" "_law_deck" (defArgs sDeck) (defBody sDeck) (defScope sDeck) .none kV14 dc14 pm14 an14 cd14 ct14), sl14⟩) (c14 : PySem.W.codeIn K cd14 "_law_deck" = true) (k14 : PySem.W.keepIn K (.ref f14) = true)
    (a15 : PySem.W.nsIn K mainGlobals "_law_draw" = some (some (.ref f15))) (l15 : K.lookup f15 = some ⟨oc15, od15, .func (PySem.W.fnOf "_law_draw" "_law_draw" (defArgs sDraw) (defBody sDraw) (defScope sDraw) .none kV15 dc15 pm15 an15 cd15 ct15), sl15⟩) (c15 : PySem.W.codeIn K cd15 "_law_draw" = true) (k15 : PySem.W.keepIn K (.ref f15) = true)
    (a16 : PySem.W.nsIn K mainGlobals "_law_name" = some (some (.ref f16))) (l16 : K.lookup f16 = some ⟨oc16, od16, .func (PySem.W.fnOf "_law_name" "_law_name" (defArgs sName) (defBody sName) (defScope sName) .none kV16 dc16 pm16 an16 cd16 ct16), sl16⟩) (c16 : PySem.W.codeIn K cd16 "_law_name" = true) (k16 : PySem.W.keepIn K (.ref f16) = true)
    (a17 : PySem.W.nsIn K mainGlobals "_law_kind" = some (some (.ref f17))) (l17 : K.lookup f17 = some ⟨oc17, od17, .func (PySem.W.fnOf "_law_kind" "_law_kind" (defArgs sKind) (defBody sKind) (defScope sKind) .none kV17 dc17 pm17 an17 cd17 ct17), sl17⟩) (c17 : PySem.W.codeIn K cd17 "_law_kind" = true) (k17 : PySem.W.keepIn K (.ref f17) = true)
    (a18 : PySem.W.nsIn K mainGlobals "_law_stack" = some (some (.ref f18))) (l18 : K.lookup f18 = some ⟨oc18, od18, .func (PySem.W.fnOf "_law_stack" "_law_stack" (defArgs sStack) (defBody sStack) (defScope sStack) .none kV18 dc18 pm18 an18 cd18 ct18), sl18⟩) (c18 : PySem.W.codeIn K cd18 "_law_stack" = true) (k18 : PySem.W.keepIn K (.ref f18) = true)
    (a19 : PySem.W.nsIn K mainGlobals "_law_row_kind" = some (some (.ref f19))) (l19 : K.lookup f19 = some ⟨oc19, od19, .func (PySem.W.fnOf "_law_row_kind" "_law_row_kind" (defArgs sRowKind) (defBody sRowKind) (defScope sRowKind) .none kV19 dc19 pm19 an19 cd19 ct19), sl19⟩) (c19 : PySem.W.codeIn K cd19 "_law_row_kind" = true) (k19 : PySem.W.keepIn K (.ref f19) = true)
    (a20 : PySem.W.nsIn K mainGlobals "_law_is_name" = some (some (.ref f20))) (l20 : K.lookup f20 = some ⟨oc20, od20, .func (PySem.W.fnOf "_law_is_name" "_law_is_name" (defArgs sLName) (defBody sLName) (defScope sLName) .none kV20 dc20 pm20 an20 cd20 ct20), sl20⟩) (c20 : PySem.W.codeIn K cd20 "_law_is_name" = true) (k20 : PySem.W.keepIn K (.ref f20) = true)
    (a21 : PySem.W.nsIn K mainGlobals "_law_is_kind" = some (some (.ref f21))) (l21 : K.lookup f21 = some ⟨oc21, od21, .func (PySem.W.fnOf "_law_is_kind" "_law_is_kind" (defArgs sLKind) (defBody sLKind) (defScope sLKind) .none kV21 dc21 pm21 an21 cd21 ct21), sl21⟩) (c21 : PySem.W.codeIn K cd21 "_law_is_kind" = true) (k21 : PySem.W.keepIn K (.ref f21) = true)
    (a22 : PySem.W.nsIn K mainGlobals "_law_is_stack" = some (some (.ref f22))) (l22 : K.lookup f22 = some ⟨oc22, od22, .func (PySem.W.fnOf "_law_is_stack" "_law_is_stack" (defArgs sLStack) (defBody sLStack) (defScope sLStack) .none kV22 dc22 pm22 an22 cd22 ct22), sl22⟩) (c22 : PySem.W.codeIn K cd22 "_law_is_stack" = true) (k22 : PySem.W.keepIn K (.ref f22) = true)
    (a23 : PySem.W.nsIn K mainGlobals "_law_is_row" = some (some (.ref f23))) (l23 : K.lookup f23 = some ⟨oc23, od23, .func (PySem.W.fnOf "_law_is_row" "_law_is_row" (defArgs sLRow) (defBody sLRow) (defScope sLRow) .none kV23 dc23 pm23 an23 cd23 ct23), sl23⟩) (c23 : PySem.W.codeIn K cd23 "_law_is_row" = true) (k23 : PySem.W.keepIn K (.ref f23) = true)
    (a24 : PySem.W.nsIn K mainGlobals "_law_odd" = some (some (.ref f24))) (l24 : K.lookup f24 = some ⟨oc24, od24, .func (PySem.W.fnOf "_law_odd" "_law_odd" (defArgs sOdd) (defBody sOdd) (defScope sOdd) .none kV24 dc24 pm24 an24 cd24 ct24), sl24⟩) (c24 : PySem.W.codeIn K cd24 "_law_odd" = true) (k24 : PySem.W.keepIn K (.ref f24) = true)
    (a25 : PySem.W.nsIn K mainGlobals "_law_bent" = some (some (.ref f25))) (l25 : K.lookup f25 = some ⟨oc25, od25, .func (PySem.W.fnOf "_law_bent" "_law_bent" (defArgs sBent) (defBody sBent) (defScope sBent) .none kV25 dc25 pm25 an25 cd25 ct25), sl25⟩) (c25 : PySem.W.codeIn K cd25 "_law_bent" = true) (k25 : PySem.W.keepIn K (.ref f25) = true)
    (a26 : PySem.W.nsIn K mainGlobals "_law_right" = some (some (.ref f26))) (l26 : K.lookup f26 = some ⟨oc26, od26, .func (PySem.W.fnOf "_law_right" "_law_right" (defArgs sRight) (defBody sRight) (defScope sRight) .none kV26 dc26 pm26 an26 cd26 ct26), sl26⟩) (c26 : PySem.W.codeIn K cd26 "_law_right" = true) (k26 : PySem.W.keepIn K (.ref f26) = true)
    (a27 : PySem.W.nsIn K mainGlobals "law" = some (some (.ref f27))) (l27 : K.lookup f27 = some ⟨oc27, od27, .func (PySem.W.fnOf "law" "law" (defArgs sLaw) (defBody sLaw) (defScope sLaw) .none kV27 dc27 pm27 an27 cd27 ct27), sl27⟩) (c27 : PySem.W.codeIn K cd27 "law" = true) (k27 : PySem.W.keepIn K (.ref f27) = true)
    (z_isinstance : PySem.W.nsIn K mainGlobals "isinstance" = some none)
    (z_str : PySem.W.nsIn K mainGlobals "str" = some none)
    (z_len : PySem.W.nsIn K mainGlobals "len" = some none)
    (z_tuple : PySem.W.nsIn K mainGlobals "tuple" = some none)
    (z_int : PySem.W.nsIn K mainGlobals "int" = some none)
    (z_bool : PySem.W.nsIn K mainGlobals "bool" = some none)
    (z_all : PySem.W.nsIn K mainGlobals "all" = some none)
    (z_list : PySem.W.nsIn K mainGlobals "list" = some none)
    (z_range : PySem.W.nsIn K mainGlobals "range" = some none)
    {tS : Tok} (g_SMALL_LETTERS : PySem.W.nsIn K mainGlobals "SMALL_LETTERS" = some (some (.str "abcdefghijklmnopqrstuvwxyz" tS)))
    {tF : Tok} (g_FIGURES : PySem.W.nsIn K mainGlobals "FIGURES" = some (some (.str "0123456789" tF)))
    {tG : Tok} (g_GREAT_LETTERS : PySem.W.nsIn K mainGlobals "GREAT_LETTERS" = some (some (.str "ABCDEFGHIJKLMNOPQRSTUVWXYZ" tG)))
    : ∃ fd : FuncData, (∀ (s : Shared) (v : Value), BindsTo s fd ⟨[v], []⟩ [("_law_script", v)]) ∧ ∀ base : Heap, K.In base → base.Ns mainGlobals mg → FnOk l.prog w K mg base CX0 23 fa fd ["_law_script"] (spLaw K) := by
  have e := hfa.symm.trans (PySem.W.mg_of X G a27)
  cases e
  have F1 := fun_mk (st := sMarked) l1 c1 k1
  have b1 := F1.binds (ps := ["thing"]) fun _ _ _ _ _ _ us hl => match us, hl with | [_], _ => rfl
  have m1 := PySem.W.mg_of X G a1
  have F2 := fun_mk (st := sForm) l2 c2 k2
  have b2 := F2.binds (ps := ["sort", "thing", "asked_within"]) fun _ _ _ _ _ _ us hl => match us, hl with | [_, _, _], _ => rfl
  have m2 := PySem.W.mg_of X G a2
  have F3 := fun_mk (st := sFigures) l3 c3 k3
  have b3 := F3.binds (ps := ["text"]) fun _ _ _ _ _ _ us hl => match us, hl with | [_], _ => rfl
  have m3 := PySem.W.mg_of X G a3
  have F4 := fun_mk (st := sOpThing) l4 c4 k4
  have b4 := F4.binds (ps := ["thing"]) fun _ _ _ _ _ _ us hl => match us, hl with | [_], _ => rfl
  have m4 := PySem.W.mg_of X G a4
  have F5 := fun_mk (st := sOpRest) l5 c5 k5
  have b5 := F5.binds (ps := ["thing"]) fun _ _ _ _ _ _ us hl => match us, hl with | [_], _ => rfl
  have m5 := PySem.W.mg_of X G a5
  have F6 := fun_mk (st := sLettered) l6 c6 k6
  have b6 := F6.binds (ps := ["thing", "letters"]) fun _ _ _ _ _ _ us hl => match us, hl with | [_, _], _ => rfl
  have m6 := PySem.W.mg_of X G a6
  have F7 := fun_mk (st := sIsKind) l7 c7 k7
  have b7 := F7.binds (ps := ["thing"]) fun _ _ _ _ _ _ us hl => match us, hl with | [_], _ => rfl
  have m7 := PySem.W.mg_of X G a7
  have F8 := fun_mk (st := sIsStK) l8 c8 k8
  have b8 := F8.binds (ps := ["thing"]) fun _ _ _ _ _ _ us hl => match us, hl with | [_], _ => rfl
  have m8 := PySem.W.mg_of X G a8
  have F9 := fun_mk (st := sIsRwK) l9 c9 k9
  have b9 := F9.binds (ps := ["thing"]) fun _ _ _ _ _ _ us hl => match us, hl with | [_], _ => rfl
  have m9 := PySem.W.mg_of X G a9
  have F10 := fun_mk (st := sAsked) l10 c10 k10
  have b10 := F10.binds (ps := ["sort", "part"]) fun _ _ _ _ _ _ us hl => match us, hl with | [_, _], _ => rfl
  have m10 := PySem.W.mg_of X G a10
  have F11 := fun_mk (st := sAskedRow) l11 c11 k11
  have b11 := F11.binds (ps := ["part"]) fun _ _ _ _ _ _ us hl => match us, hl with | [_], _ => rfl
  have m11 := PySem.W.mg_of X G a11
  have F12 := fun_mk (st := sAskedKind) l12 c12 k12
  have b12 := F12.binds (ps := ["part"]) fun _ _ _ _ _ _ us hl => match us, hl with | [_], _ => rfl
  have m12 := PySem.W.mg_of X G a12
  have F13 := fun_mk (st := sAskedStack) l13 c13 k13
  have b13 := F13.binds (ps := ["part"]) fun _ _ _ _ _ _ us hl => match us, hl with | [_], _ => rfl
  have m13 := PySem.W.mg_of X G a13
  have F14 := fun_mk (st := sDeck) l14 c14 k14
  have b14 := F14.binds (ps := ["_law_script"]) fun _ _ _ _ _ _ us hl => match us, hl with | [_], _ => rfl
  have m14 := PySem.W.mg_of X G a14
  have F15 := fun_mk (st := sDraw) l15 c15 k15
  have b15 := F15.binds (ps := ["_law_deck_here", "_law_most"]) fun _ _ _ _ _ _ us hl => match us, hl with | [_, _], _ => rfl
  have m15 := PySem.W.mg_of X G a15
  have F16 := fun_mk (st := sName) l16 c16 k16
  have b16 := F16.binds (ps := ["_law_deck_here", "_law_great"]) fun _ _ _ _ _ _ us hl => match us, hl with | [_, _], _ => rfl
  have m16 := PySem.W.mg_of X G a16
  have F17 := fun_mk (st := sKind) l17 c17 k17
  have b17 := F17.binds (ps := ["_law_deck_here", "_law_left", "_law_deep"]) fun _ _ _ _ _ _ us hl => match us, hl with | [_, _, _], _ => rfl
  have m17 := PySem.W.mg_of X G a17
  have F18 := fun_mk (st := sStack) l18 c18 k18
  have b18 := F18.binds (ps := ["_law_deck_here", "_law_left", "_law_deep"]) fun _ _ _ _ _ _ us hl => match us, hl with | [_, _, _], _ => rfl
  have m18 := PySem.W.mg_of X G a18
  have F19 := fun_mk (st := sRowKind) l19 c19 k19
  have b19 := F19.binds (ps := ["_law_deck_here"]) fun _ _ _ _ _ _ us hl => match us, hl with | [_], _ => rfl
  have m19 := PySem.W.mg_of X G a19
  have F20 := fun_mk (st := sLName) l20 c20 k20
  have b20 := F20.binds (ps := ["_law_thing", "_law_letters"]) fun _ _ _ _ _ _ us hl => match us, hl with | [_, _], _ => rfl
  have m20 := PySem.W.mg_of X G a20
  have F21 := fun_mk (st := sLKind) l21 c21 k21
  have b21 := F21.binds (ps := ["_law_thing"]) fun _ _ _ _ _ _ us hl => match us, hl with | [_], _ => rfl
  have m21 := PySem.W.mg_of X G a21
  have F22 := fun_mk (st := sLStack) l22 c22 k22
  have b22 := F22.binds (ps := ["_law_thing"]) fun _ _ _ _ _ _ us hl => match us, hl with | [_], _ => rfl
  have m22 := PySem.W.mg_of X G a22
  have F23 := fun_mk (st := sLRow) l23 c23 k23
  have b23 := F23.binds (ps := ["_law_thing"]) fun _ _ _ _ _ _ us hl => match us, hl with | [_], _ => rfl
  have m23 := PySem.W.mg_of X G a23
  have F24 := fun_mk (st := sOdd) l24 c24 k24
  have b24 := F24.binds (ps := ["_law_deck_here", "_law_thing"]) fun _ _ _ _ _ _ us hl => match us, hl with | [_, _], _ => rfl
  have m24 := PySem.W.mg_of X G a24
  have F25 := fun_mk (st := sBent) l25 c25 k25
  have b25 := F25.binds (ps := ["_law_deck_here", "_law_thing"]) fun _ _ _ _ _ _ us hl => match us, hl with | [_, _], _ => rfl
  have m25 := PySem.W.mg_of X G a25
  have F26 := fun_mk (st := sRight) l26 c26 k26
  have b26 := F26.binds (ps := ["_law_thing"]) fun _ _ _ _ _ _ us hl => match us, hl with | [_], _ => rfl
  have m26 := PySem.W.mg_of X G a26
  have F27 := fun_mk (st := sLaw) l27 c27 k27
  have y_isinstance := PySem.W.mg_none_of X G z_isinstance
  have y_str := PySem.W.mg_none_of X G z_str
  have y_len := PySem.W.mg_none_of X G z_len
  have y_tuple := PySem.W.mg_none_of X G z_tuple
  have y_int := PySem.W.mg_none_of X G z_int
  have y_bool := PySem.W.mg_none_of X G z_bool
  have y_all := PySem.W.mg_none_of X G z_all
  have y_list := PySem.W.mg_none_of X G z_list
  have y_range := PySem.W.mg_none_of X G z_range
  have v_SMALL_LETTERS := PySem.W.mg_of X G g_SMALL_LETTERS
  have v_FIGURES := PySem.W.mg_of X G g_FIGURES
  have v_GREAT_LETTERS := PySem.W.mg_of X G g_GREAT_LETTERS
  refine ⟨PySem.W.fnOf "law" "law" (defArgs sLaw) (defBody sLaw) (defScope sLaw) .none kV27 dc27 pm27 an27 cd27 ct27, fun s v => .of_eq rfl, fun base _ _ => ?_⟩
  have T4 : Ty4 mg := ⟨y_isinstance, y_str, y_len, y_tuple, y_int, y_bool⟩
  have O3 : FnOk l.prog w K mg base CX0 1 f3 _ ["text"] spFig := ok_fig F3 y_all ⟨_, v_FIGURES⟩
  have O6 := ok_let F6 T4 O3 b3 k3 m3
  have O4 := ok_opT F4 ⟨_, v_SMALL_LETTERS⟩ O6 b6 k6 m6
  have O5 := ok_opR F5 ⟨_, v_GREAT_LETTERS⟩ O6 b6 k6 m6
  have OF : ∀ L, FnOk l.prog w K mg base CX0 6 f2 _ ["sort", "thing", "asked_within"] (spForm K L f10) := fun L => by
    have O1 : FnOk l.prog w K mg base CX0 1 f1 _ ["thing"] (spB K L markB) := ok_marked F1 T4
    have O11 : FnOk l.prog w K mg base CX0 1 f11 _ ["part"] (spAskX K L askRow) := ok_askR F11 T4
    have O12 := ok_askK F12 T4 O1 b1 k1 m1 O4 b4 k4 m4 O11 b11 k11 m11
    have O13 := ok_askS F13 T4 O1 b1 k1 m1 O5 b5 k5 m5
    have O10 := ok_ask F10 O12 b12 k12 m12 O13 b13 k13 m13 O11 b11 k11 m11
    exact ok_form F2 O10 b10 k10
  have O7 := ok_isKind F7 OF b2 k2 m2 m10
  have O8 := ok_isStK F8 OF b2 k2 m2 m10
  have O9 := ok_isRwK F9 OF b2 k2 m2 m10
  have O14 : FnOk l.prog w K mg base CX0 1 f14 _ ["_law_script"] (spDeck K) := ok_deck F14 y_list
  have O15 : FnOk l.prog w K mg base CX0 2 f15 _ ["_law_deck_here", "_law_most"] spTake := ok_draw F15
  have O16 := ok_name F16 y_int O15 b15 k15 m15
  have AT := all_kinds O15 b15 k15 m15 O16 b16 k16 m16 F17 b17 m17 F18 b18 m18 y_range y_tuple 3
  have O19 := ok_rowKind F19 AT.2 b18 k18 m18
  have O20 : FnOk l.prog w K mg base CX0 2 f20 _ ["_law_thing", "_law_letters"] (spLet K) := ok_lname F20 T4
  have AL := all_looks F21 b21 m21 F22 b22 m22 T4 O20 b20 k20 m20
  have O23 := ok_lrow F23 T4 (AL 17).2 b22 k22 m22
  have O24 : ∀ n, FnOk l.prog w K mg base CX0 3 f24 _ A2 (spBent K n) := fun n => ok_odd F24 T4 O15 b15 k15 m15 y_list
  have O25 := all_bent F25 b25 m25 T4 O15 b15 k15 m15 O24 b24 k24 m24 15
  have O26 := ok_right (n := 18) F26 T4 y_all (by decide) (AL 18).1 b21 k21 m21 (AL 18).2 b22 k22 m22 O23 b23 k23 m23 O7 b7 k7 m7 O8 b8 k8 m8 O9 b9 k9 m9
  exact ok_law F27 O14 b14 k14 m14 O15 b15 k15 m15 O19 b19 k19 m19 AT.1 b17 k17 m17 O25 b25 k25 m25 O26 b26 k26 m26 O7 b7 k7 m7 O8 b8 k8 m8 O9 b9 k9 m9 y_range
theorem walk {l : PySem.W.OpenLaw} {q : Program} {loose : List Str} {XP : (Str → Option Value) → Heap → Prop} {YP : World → Heap → Prop} {d : DefRec} {K : Params → PySem.W.Frag} (hn : l.most = some 63) (hdf : d.params.defaults = [])
    (hY : ∀ (w : World) (h : Heap), YP w h → (K w.params).In h)
    (F : ∀ (w : World) (mg : Str → Option Value) (fa : Addr) (h : Heap), (K w.params).In h → h.Ns mainGlobals mg → mg d.name = some (.ref fa) →
      ∃ fd : FuncData, (∀ (s : Shared) (u : Value), BindsTo s fd ⟨[u], []⟩ [("_law_script", u)]) ∧ ∀ base : Heap, (K w.params).In base → base.Ns mainGlobals mg → FnOk l.prog w (K w.params) mg base CX0 23 fa fd ["_law_script"] (spLaw (K w.params))) :
    PySem.W.WalkO q loose XP YP l.row.toRowW d [] (fun f vs => PySem.call f vs) :=
  L2.walk_of (n := 63) (k := 23) (x := "_law_script") (CX := fun _ => CX0) (sp := fun w => spLaw (K w.params)) hn (by decide) hdf ⟨rfl, by decide, by decide⟩ hY F (fun _ _ a ns hl _ hS => ⟨a, ns, rfl, hS, hl, fun _ => rfl⟩) fun _ _ _ _ _ z => z
end K15
open PySem PySem.W PyProof.Rows
set_option maxRecDepth 100000 in
set_option maxHeartbeats 0 in
theorem PySem.Challenge.cw_takeleave_k15_what_is_a_kind_holds : PySem.Challenge.rw_takeleave_k15_what_is_a_kind.Holds := by
  w_on; o_law; k_head; (case hw => w_witness2)
  k_fill
  refine K15.walk (l := PySem.Challenge.rw_takeleave_k15_what_is_a_kind) rfl rfl (fun w h Y => PySem.W.kIn_of Y) ?F
  case F =>
    intro w mg fa h KX G hmg
    refine' K15.all_mk (w := w) KX G hmg ?a1 ?l1 ?c1 ?k1 ?a2 ?l2 ?c2 ?k2 ?a3 ?l3 ?c3 ?k3 ?a4 ?l4 ?c4 ?k4 ?a5 ?l5 ?c5 ?k5 ?a6 ?l6 ?c6 ?k6 ?a7 ?l7 ?c7 ?k7 ?a8 ?l8 ?c8 ?k8 ?a9 ?l9 ?c9 ?k9 ?a10 ?l10 ?c10 ?k10 ?a11 ?l11 ?c11 ?k11 ?a12 ?l12 ?c12 ?k12 ?a13 ?l13 ?c13 ?k13 ?a14 ?l14 ?c14 ?k14 ?a15 ?l15 ?c15 ?k15 ?a16 ?l16 ?c16 ?k16 ?a17 ?l17 ?c17 ?k17 ?a18 ?l18 ?c18 ?k18 ?a19 ?l19 ?c19 ?k19 ?a20 ?l20 ?c20 ?k20 ?a21 ?l21 ?c21 ?k21 ?a22 ?l22 ?c22 ?k22 ?a23 ?l23 ?c23 ?k23 ?a24 ?l24 ?c24 ?k24 ?a25 ?l25 ?c25 ?k25 ?a26 ?l26 ?c26 ?k26 ?a27 ?l27 ?c27 ?k27 ?z_isinstance ?z_str ?z_len ?z_tuple ?z_int ?z_bool ?z_all ?z_list ?z_range ?g_SMALL_LETTERS ?g_FIGURES ?g_GREAT_LETTERS
    (case a1 => k_is)
    (case l1 => k_is)
    (case c1 => k_is)
    (case k1 => k_is)
    (case a2 => k_is)
    (case l2 => k_is)
    (case c2 => k_is)
    (case k2 => k_is)
    (case a3 => k_is)
    (case l3 => k_is)
    (case c3 => k_is)
    (case k3 => k_is)
    (case a4 => k_is)
    (case l4 => k_is)
    (case c4 => k_is)
    (case k4 => k_is)
    (case a5 => k_is)
    (case l5 => k_is)
    (case c5 => k_is)
    (case k5 => k_is)
    (case a6 => k_is)
    (case l6 => k_is)
    (case c6 => k_is)
    (case k6 => k_is)
    (case a7 => k_is)
    (case l7 => k_is)
    (case c7 => k_is)
    (case k7 => k_is)
    (case a8 => k_is)
    (case l8 => k_is)
    (case c8 => k_is)
    (case k8 => k_is)
    (case a9 => k_is)
    (case l9 => k_is)
    (case c9 => k_is)
    (case k9 => k_is)
    (case a10 => k_is)
    (case l10 => k_is)
    (case c10 => k_is)
    (case k10 => k_is)
    (case a11 => k_is)
    (case l11 => k_is)
    (case c11 => k_is)
    (case k11 => k_is)
    (case a12 => k_is)
    (case l12 => k_is)
    (case c12 => k_is)
    (case k12 => k_is)
    (case a13 => k_is)
    (case l13 => k_is)
    (case c13 => k_is)
    (case k13 => k_is)
    (case a14 => k_is)
    (case l14 => k_is)
    (case c14 => k_is)
    (case k14 => k_is)
    (case a15 => k_is)
    (case l15 => k_is)
    (case c15 => k_is)
    (case k15 => k_is)
    (case a16 => k_is)
    (case l16 => k_is)
    (case c16 => k_is)
    (case k16 => k_is)
    (case a17 => k_is)
    (case l17 => k_is)
    (case c17 => k_is)
    (case k17 => k_is)
    (case a18 => k_is)
    (case l18 => k_is)
    (case c18 => k_is)
    (case k18 => k_is)
    (case a19 => k_is)
    (case l19 => k_is)
    (case c19 => k_is)
    (case k19 => k_is)
    (case a20 => k_is)
    (case l20 => k_is)
    (case c20 => k_is)
    (case k20 => k_is)
    (case a21 => k_is)
    (case l21 => k_is)
    (case c21 => k_is)
    (case k21 => k_is)
    (case a22 => k_is)
    (case l22 => k_is)
    (case c22 => k_is)
    (case k22 => k_is)
    (case a23 => k_is)
    (case l23 => k_is)
    (case c23 => k_is)
    (case k23 => k_is)
    (case a24 => k_is)
    (case l24 => k_is)
    (case c24 => k_is)
    (case k24 => k_is)
    (case a25 => k_is)
    (case l25 => k_is)
    (case c25 => k_is)
    (case k25 => k_is)
    (case a26 => k_is)
    (case l26 => k_is)
    (case c26 => k_is)
    (case k26 => k_is)
    (case a27 => k_is)
    (case l27 => k_is)
    (case c27 => k_is)
    (case k27 => k_is)
    (case z_isinstance => k_is)
    (case z_str => k_is)
    (case z_len => k_is)
    (case z_tuple => k_is)
    (case z_int => k_is)
    (case z_bool => k_is)
    (case z_all => k_is)
    (case z_list => k_is)
    (case z_range => k_is)
    (case g_SMALL_LETTERS => k_is)
    (case g_FIGURES => k_is)
    (case g_GREAT_LETTERS => k_is)
