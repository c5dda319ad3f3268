import PyProof.Rows.All
import Wide.All
import OpenK.AllK
import Wide.FinOn
import HandS.ForMost
import HandS.Rev
import KE.KDictList
import HandS.Style
import HandS.More
import HandS.IsInst
import HandS.StrMore
import HandS.Wide
import HandS.Codes
import HandS.Walk
import HandS.NoneIn
import HandS.WordsExc
import PyProof.AutoSeq1
import HandS.TupAny
import HandS.Conv
import HandS.SetFor
import HandS.ListEq
import HandS.ForExc
import HandS.ExcIs
import HandS.ExcOwn
import HandS.TupLe
import HandS.Deep
import HandS.Strs
import HandS.WordsDict
import KE.GoesMore
import KE.GoesEnum
import KE.SortData
import HandS.RevRange
import HandS.DictComp
import HandS.Text
import HandS.Zip
import HandS.CallLocal
import KE.KDictPairs
import HandS.Flow
import PySem.Challenge.RW_takeleave_k18_no_texts_of_kinds
set_option Elab.async false
set_option linter.all false
set_option maxRecDepth 100000
set_option maxHeartbeats 4000000
namespace Cm
open PySem PySem.Spec PyProof.Rows L2 RT
section
variable {prog : Program} {w : World} {A : Around} {E : Value → Shared → Prop} {s : Shared}
/-- list.extend over a reversed list, into the empty list at T -/
theorem revExt {J l T : Addr} {vs : Array Value} {res : Value} {c : Nat} {R : Result → Shared → Prop} (hh : A.handled = none) (hJ : s.heap.IsRevIter J l ((vs.size : Int) - 1)) (hl : s.heap.IsList l vs) (nJ : l ≠ J) (hn : vs.size ≤ sizeLine)
    (nTJ : T ≠ J) (nTl : T ≠ l) (hT : s.heap.get? T = some { cls := .type "list", data := .seq #[] c })
    (hR : ∀ h' tk acc' c', (∀ b o, b ≠ T → b ≠ J → s.heap.get? b = some o → h'.get? b = some o) → h'.get? T = some { cls := .type "list", dict := none, data := .seq acc' c', slots := #[] } → ItemsOf (fun i v => vs[vs.size - 1 - i]? = some v) acc' vs.size → R (.ok (.ret res)) { s with heap := h', toks := tk }) :
    wpAny (model prog w) A.in1 (Builtin.List.listExtendWith (.ref T) (.ref J) res)
      (fun fin s' => match fin with | .done f => R (.ok f) s' | .again c' => c'.quiet = true ∧ codeAny (model prog w) A c' R s') (fun e s' => R (.error e) s') s := by
  have WS := (Walks.listRev (prog := prog) (w := w) (A := A.in1) hh J l nJ vs).toS
  have tyJ : s.TypeIs (.ref J) "list_reverseiterator" := Heap.IsRevIter.typeIs hJ
  have nf : T ∉ [J, l] := by simp only [List.mem_cons, List.not_mem_nil, or_false, not_or]; exact And.intro nTJ nTl
  have ns : Builtin.List.listSameRef (.ref T) (.ref J) = false := by simp [Builtin.List.listSameRef, nTJ]
  unfold Builtin.List.listExtendWith
  refine wpAny_bind (wpAny_typeOf tyJ ?_)
  rw [if_neg (by rw [ns]; decide)]
  refine wpAny_bind (wpAny_pyIter_revIter hJ (wpAny_bind (wpAny_holding ?_)))
  unfold Builtin.List.listLengthHint
  refine wpAny_bind (wpAny_specialOf tyJ nolen_lri ?_)
  show wpAny _ A.in1 (specialOf (Value.ref J) (Str.ofString "__length_hint__") >>= _) _ _ _
  refine wpAny_bind (wpAny_specialOf tyJ hint_lri ?_)
  generalize eid : ("list_reverseiterator.__length_hint__" : String) = idz
  wp_delta
  rw [show splitId idz = some ("list_reverseiterator", "__length_hint__") from by subst eid; decide +kernel]
  subst eid
  refine wpAny_bind (wpAny_isInstance (b := true) tyJ (by rw [isSubtype_type]; kernel_rfl) (wpAny_pure ?_))
  rw [if_neg (by decide)]
  have z0 : ((vs.size : Nat) : Int) - 1 - ((0 : Nat) : Int) = (vs.size : Int) - 1 := by omega
  refine wpAny_pure ⟨plainId_quiet F.plain_extend_loop _, codeAny_extend_loopS WS hn _ nf _ vs.size 0 _ _ _ rfl (Nat.zero_le _) ⟨Nat.zero_le _, by rw [z0]; exact hJ, hl⟩ hT (ItemsOf.nil _) fun s' acc' c' hm hS' hacc => ?_⟩
  rw [Moved.eq_with hm]
  refine hR s'.heap s'.toks acc' c' (fun b o n1 n2 e => hm.heap b o (fun q => ?_) e) hS' hacc
  rcases List.mem_cons.mp q with z | z
  · exact n1 z
  · exact n2 (List.mem_singleton.mp z)
theorem revInit {J l T : Addr} {vs : Array Value} {R : Result → Shared → Prop} (hh : A.handled = none) (hJ : s.heap.IsRevIter J l ((vs.size : Int) - 1)) (hl : s.heap.IsList l vs) (nJ : l ≠ J) (hn : vs.size ≤ sizeLine)
    (nTJ : T ≠ J) (nTl : T ≠ l) (hT : s.heap.get? T = some { cls := .type "list", data := .seq #[] })
    (hR : ∀ h' tk acc' c', (∀ b o, b ≠ T → b ≠ J → s.heap.get? b = some o → h'.get? b = some o) → h'.get? T = some { cls := .type "list", dict := none, data := .seq acc' c', slots := #[] } → ItemsOf (fun i v => vs[vs.size - 1 - i]? = some v) acc' vs.size → R (.ok (.ret .none)) { s with heap := h', toks := tk }) :
    wpAny (model prog w) A.in1 (Builtin.«list.__init__» ⟨[.ref T, .ref J], []⟩)
      (fun fin s' => match fin with | .done f => R (.ok f) s' | .again c' => c'.quiet = true ∧ codeAny (model prog w) A c' R s') (fun e s' => R (.error e) s') s := by
  show wpAny _ _ (do let old ← Builtin.List.listItems (.ref T); Builtin.List.listUpdate (.ref T) (fun _ => #[]); letGo old.toList.reverse; Builtin.List.listExtendWith (.ref T) (.ref J) .none) _ _ s
  refine wpAny_bind ?_; unfold Builtin.List.listItems
  refine wpAny_bind (wpAny_seqItems hT rfl (wpAny_pure ?_))
  show wpAny _ _ (updateSeq T (fun _ => #[]) >>= fun _ => letGo (#[] : Array Value).toList.reverse >>= fun _ => Builtin.List.listExtendWith (.ref T) (.ref J) .none) _ _ s
  refine wpAny_bind (wpAny_updateSeq hT rfl ?_)
  have hT2 := Heap.get?_update_self (Obj.mapSeq (fun _ => (#[] : Array Value))) hT rfl
  have other : ∀ b o, b ≠ T → s.heap.get? b = some o → (s.heap.update T (Obj.mapSeq (fun _ => (#[] : Array Value)))).get? b = some o :=
    fun b o hb e => (Heap.get?_update_other _ _ (Ne.symm hb)).trans e
  refine wpAny_bind (wpAny_letGo (revExt hh (hJ.at fun o e => other _ o nTJ.symm e) (hl.at fun o e => other _ o nTl.symm e) nJ hn nTJ nTl hT2 fun h' tk acc' c' hk hS' hacc => ?_))
  exact hR h' tk acc' c' (fun b o n1 n2 e => hk b o n1 n2 (other b o n1 e)) hS' hacc
theorem call_list_rev {J l : Addr} {vs : Array Value} {Q : Value → Shared → Prop} (hh : A.handled = none) (hJ : s.heap.IsRevIter J l ((vs.size : Int) - 1)) (hl : s.heap.IsList l vs) (nJ : l ≠ J) (hn : vs.size ≤ sizeLine)
    (hQ : ∀ h' tk acc' c', (∀ b o, b ≠ J → s.heap.get? b = some o → h'.get? b = some o) → h'.get? s.heap.objs.size = some { cls := .type "list", dict := none, data := .seq acc' c', slots := #[] } → ItemsOf (fun i v => vs[vs.size - 1 - i]? = some v) acc' vs.size → Q (.ref s.heap.objs.size) { s with heap := h', toks := tk }) :
    wpAny (model prog w) A (call (.type "list") [.ref J]) Q E s := by
  refine callType_codes (Q₁ := fun obj s₁ => obj = .ref s.heap.objs.size ∧ s₁ = { s with heap := s.heap.push { cls := .type "list", data := .seq #[] } }) PySem.F.called_list (PySem.F.typeCall_list_1 _) PySem.F.entry_list_init
    (code_list_new _ ⟨rfl, rfl⟩) fun obj s₁ z => ?_
  obtain ⟨rfl, rfl⟩ := z
  have hT : (s.heap.push { cls := .type "list", data := .seq #[] }).get? s.heap.objs.size = some { cls := .type "list", data := .seq #[] } := Heap.get?_push_size _ rfl
  obtain ⟨oi, hoi, _⟩ := id hJ
  obtain ⟨ol, hol, _⟩ := id hl
  refine ⟨⟨_, hT, rfl⟩, PySem.F.args_list_init_2 _ _, revInit (A := A.in1) hh (hJ.at fun o e => Heap.get?_push_of_some _ e) (hl.push _) nJ hn (Nat.ne_of_gt (Heap.lt_size hoi)) (Nat.ne_of_gt (Heap.lt_size hol)) hT (fun h' tk acc' c' hk hS' hacc => ?_)⟩
  exact ⟨rfl, hQ h' tk acc' c' (fun b o n e => hk b o (Nat.ne_of_lt (Heap.lt_size e)) n (Heap.get?_push_of_some _ e)) hS' hacc⟩
end
/-- list(reversed(x)), x a list: a new list -/
def tLstRev (K : PySem.W.Frag) (te : TE) : TE := fun σ H Q => te σ H fun v H1 => ∃ (a : Addr) (xs : List V), v = .ref a ∧ SqL K H1 a xs ∧ ∀ q, H1 q = none → Q (.ref q) (upd H1 q (.lst xs.reverse))
section
variable {X : Cx}
theorem pe_lstRev {e : Expr} {te : TE} {p p2 pos pos2 : Pos} (hc : X.calm = true) (hg : Gl X "list") (hm : X.mg "list" = none) (hg2 : Gl X "reversed") (hm2 : X.mg "reversed" = none) (he : PE X e te)
    (hs : starEach [e] X.env = (false, eval e X.env) :: starEach [] X.env := by rfl)
    (hs2 : starEach [.Call (.Name "reversed" p2) [e] [] pos2] X.env = (false, eval (.Call (.Name "reversed" p2) [e] [] pos2) X.env) :: starEach [] X.env := by rfl) :
    PE X (.Call (.Name "list" p) [.Call (.Name "reversed" p2) [e] [] pos2] [] pos) (tLstRev X.K te) := by
  refine ⟨fun pins s σ H Q I h => ?_⟩
  refine Call_ (ld_blt I hg hm (show bootBuiltins "list" = some (.type "list") by decide +kernel) (PyProof.Rows.callWith_type1 (args_cons (Call_ (ld_blt I hg2 hm2 PyProof.Rows.boot_reversed (PyProof.Rows.callWith_type1 (args_cons (thn (he.run pins s σ H _ I h) fun u s1 ⟨v, H1, I1, r1, q1⟩ => args_nil ?_) hs) hs rfl))) hs2) hs2 rfl))
  obtain ⟨a, xs, ev, hq, q⟩ := q1
  subst ev; obtain rfl : u = Value.ref a := r1
  obtain ⟨its, rv, p', hz⟩ := I1.list hq
  refine call_reversed_list p'.isList (args_nil ?_)
  have k0 : ∀ b o, s1.heap.get? b = some o → (s1.heap.push (revObj a ((its.toArray.size : Int) - 1))).get? b = some o := fun b o e' => Heap.get?_push_of_some _ e'
  have I2 : Inv X pins σ H1 { s1 with heap := s1.heap.push (revObj a ((its.toArray.size : Int) - 1)) } := I1.kept (t' := s1.toks) k0
  obtain ⟨f0, f1, f2, f3, f4, f5⟩ := I1.fpOk (H' := H1) (b := s1.heap.objs.size) (Nat.le_refl _) (I1.hok.fresh (Nat.le_refl _))
  have isl := p'.isList
  obtain ⟨ol, hol, _⟩ := id isl
  have hne : a ≠ s1.heap.objs.size := Nat.ne_of_lt (Heap.lt_size hol)
  have hn : its.toArray.size ≤ sizeLine := by rw [List.size_toArray, ← rv.length]; exact hz
  refine call_list_rev (s := { s1 with heap := s1.heap.push (revObj a ((its.toArray.size : Int) - 1)) }) (I1.ok.hd hc) ⟨_, Heap.get?_push_size _ rfl, rfl, rfl⟩ (isl.push _) hne hn fun h' tk acc c' hk hT hi => ?_
  have hk' : ∀ b o, s1.heap.get? b = some o → h'.get? b = some o := fun b o e' => hk b o (Nat.ne_of_lt (Heap.lt_size e')) (k0 b o e')
  have sz : s1.heap.objs.size ≤ (s1.heap.push (revObj a ((its.toArray.size : Int) - 1))).objs.size := by
    rw [Heap.size_push]; exact Nat.le_succ _
  refine ⟨.ref _, upd H1 _ (.lst xs.reverse), I1.laid (t' := tk) hk' sz (show ObjOk X.prog X.w _ _ _ (.lst xs.reverse) from ⟨by rw [List.length_reverse]; exact hz, acc.toList, c', vals_rev rv hi, ?_⟩), rfl, q _ (I1.hok.fresh sz)⟩
  rw [Array.toArray_toList]
  exact hT
end
end Cm
namespace Cm
open PySem PySem.W L2 SX
theorem same_new {H : Hp} {p : Addr} (h : H p = none) (o : HO) : Same H (upd H p o) := fun b u q => by rw [upd_ne (ne_of_none q h)]; exact q
theorem own_new {H H' : Hp} {p : Addr} {o : HO} (s : Same H H') (h : H p = none) : Same H (upd H' p o) := fun b u q => by rw [upd_ne (ne_of_none q h)]; exact s _ _ q
theorem cut_map {α : Type} (f : α → V) (xs : List α) (lo hi : Option Int) : ∃ ys : List α, cutV (xs.map f) lo hi = ys.map f ∧ ys.length ≤ xs.length := by
  unfold cutV
  refine ⟨(xs.drop (HT.sIx (xs.map f).length 0 lo)).take (HT.sIx (xs.map f).length (xs.map f).length hi - HT.sIx (xs.map f).length 0 lo), ?_, ?_⟩
  · rw [List.map_take, List.map_drop]
  · rw [List.length_take, List.length_drop]; omega
theorem dp_ints {K : PySem.W.Frag} {H : Hp} : ∀ ns : List Int, DpAll K H (ns.map V.int) (ns.map PyData.int)
  | [] => .nil
  | n :: r => .cons (.int n) (dp_ints r)
theorem lay_ints : ∀ ns : List Int, PyData.canLayAll0 (ns.map PyData.int) = true
  | [] => rfl
  | n :: r => by
    show (PyData.canLay0 (PyData.int n) && PyData.canLayAll0 (r.map PyData.int)) = true
    rw [lay_ints r]; rfl
theorem deep_ints : ∀ ns : List Int, PyData.depthAll (ns.map PyData.int) = 0
  | [] => rfl
  | n :: r => by
    show max (PyData.depth (PyData.int n)) (PyData.depthAll (r.map PyData.int)) = 0
    rw [deep_ints r]; rfl
theorem shaped_ints (ns : List Int) : SeqAt.shaped (.list (ns.map PyData.int)) = true := by
  show (PyData.canLayAll0 (ns.map PyData.int) && decide (PyData.depthAll (ns.map PyData.int) + 1 ≤ 64)) = true
  rw [lay_ints, deep_ints]; rfl
theorem kn {H : Hp} {a t : Addr} {o o' : HO} (h : H a = some o) (n : H t = none) : upd H t o' a = some o := by rw [upd_ne (ne_of_none h n)]; exact h
/-- all but what stands at the places L is kept -/
def Kp (L : List Addr) (H H' : Hp) : Prop := ∀ b o, b ∉ L → H b = some o → H' b = some o
theorem Kp.refl (L : List Addr) (H : Hp) : Kp L H H := fun _ _ _ h => h
theorem Kp.trans {L : List Addr} {H H1 H2 : Hp} (a : Kp L H H1) (b : Kp L H1 H2) : Kp L H H2 := fun c o n h => b c o n (a c o n h)
theorem Kp.of {L : List Addr} {H H' : Hp} (s : Same H H') : Kp L H H' := fun b o _ h => s b o h
theorem Kp.new {L : List Addr} {p : Addr} {H H' : Hp} {o : HO} (a : Kp L H H') (h : H' p = none) : Kp L H (upd H' p o) := a.trans (.of (same_new h o))
theorem Kp.own {L : List Addr} {d : Addr} {H H' : Hp} {o : HO} (a : Kp L H H') (m : d ∈ L) : Kp L H (upd H' d o) := fun b u n h => by rw [upd_ne (show b ≠ d from fun z => n (by rw [z]; exact m))]; exact a b u n h
theorem Kp.mono {L M : List Addr} {H H' : Hp} (a : Kp L H H') (h : ∀ b ∈ L, b ∈ M) : Kp M H H' := fun b o n e => a b o (fun z => n (h b z)) e
theorem Kp.free {L : List Addr} {p : Addr} {H H' : Hp} (k : Kp L H H') (n : H' p = none) (m : p ∉ L) : H p = none := by
  cases e : H p with
  | none => rfl
  | some o => rw [k p o m e] at n; cases n
theorem Kp.put {L : List Addr} {p : Addr} {H H' : Hp} {o : HO} (k : Kp L H H') (n : H p = none) : Kp L H (upd H' p o) := fun b u m e => by rw [upd_ne (ne_of_none e n)]; exact k b u m e
theorem Kp.same {L : List Addr} {H0 H H' : Hp} (a : Kp L H H') (s : Same H0 H) (h : ∀ b ∈ L, H0 b = none) : Same H0 H' := fun b o e => a b o (fun z => by rw [h b z] at e; cases e) (s b o e)
theorem cutS_to {a : List Nat} {i : Int} (h : 0 ≤ i) : cutS (S a) none (some i) = S (a.take i.toNat) := by
  obtain ⟨n, rfl⟩ := Int.eq_ofNat_of_zero_le h
  unfold cutS
  rw [HT.sIx_none, HT.sIx_nat, S_len]
  show S (List.take (min n a.length - 0) (List.drop 0 a)) = S (a.take n)
  rw [List.drop_zero, Nat.sub_zero]
  by_cases h : n ≤ a.length
  · rw [Nat.min_eq_left h]
  · rw [Nat.min_eq_right (by omega), List.take_of_length_le (Nat.le_refl a.length), List.take_of_length_le (show a.length ≤ n by omega)]
/-- a comprehension over a text's signs, whose element is a plain value -/
theorem lc_txt {z : List Nat} (f : Nat → V) {g : TG} {te : TE} {vs : List Nat} {σ : St} {H1 : Hp} {D : Addr} {Qd : Hp → Prop} (hl : z.length ≤ 1000)
    (hs : ∀ c H (R : V → Hp → Prop), c ∈ z → R (f c) H → g (.str ⟨#[c]⟩) (wipe σ vs) H fun σ2 H2 => wipe σ2 vs = wipe σ vs ∧ te σ2 H2 R) (hd : Qd (upd H1 D (.lst (z.map f)))) :
    ∃ W : Nat → Nat → Hp → Prop, (∃ m, W 0 m (upd H1 D (.lst []))) ∧ ∀ i m H, W i m H →
      ((Its (S z)).stop i H ∧ Qd H) ∨ ((Its (S z)).go i H ∧ ∃ Nx : Hp → Prop, (∀ H', Nx H' → ∃ m', m' < m ∧ W (i + 1) m' H') ∧ ∀ x H', (Its (S z)).yld i H x H' → g x (wipe σ vs) H' fun σ2 H2 => wipe σ2 vs = wipe σ vs ∧ tYes σ2 H2 fun b H3 =>
        if b = true then te σ2 H3 fun y H4 => ∃ acc, H4 D = some (.lst acc) ∧ acc.length < sizeLine ∧ Nx (upd H4 D (.lst (acc ++ [y]))) else Nx H3) := by
  refine lc_it (walk_str (z := S z)) (fun i H => H = upd H1 D (.lst ((z.take i).map f))) rfl (fun _ _ _ _ => trivial) ?_ ?_
  · rintro i x H H' hi rfl ⟨rfl, c, hc, rfl⟩
    have hc' : z[i]? = some c := by
      rw [← hc]; show z[i]? = (z.toArray)[i]?; rw [List.getElem?_toArray]
    refine hs c _ (fun y H4 => ∃ acc, H4 D = some (.lst acc) ∧ acc.length < sizeLine ∧ upd H4 D (.lst (acc ++ [y])) = upd H1 D (.lst ((z.take (i + 1)).map f))) (List.mem_of_getElem? hc') ⟨_, upd_same, ?_, ?_⟩
    · rw [List.length_map, List.length_take]; exact small1000 (by omega)
    · rw [upd_upd, List.take_add_one, hc', List.map_append]; rfl
  · rintro H rfl
    have e : (S z).cps.size = z.length := by show z.toArray.size = _; rw [List.size_toArray]
    rw [e, List.take_length]
    exact hd
theorem starts_S (x y : List Nat) : Txt.startswith (S x) (S y) = decide (x.take y.length = y) := by
  unfold Txt.startswith PySem.Builtin.Str.subAt
  rw [S_len, S_len]
  show (decide (0 + y.length ≤ x.length) && ((x.toArray.extract 0 (0 + (S y).length)) == y.toArray)) = _
  rw [S_len, Nat.zero_add, List.extract_toArray]
  have e : (List.extract x 0 y.length) = x.take y.length := by unfold List.extract; rw [List.drop_zero, Nat.sub_zero]
  rw [e]
  by_cases h : x.take y.length = y
  · have hl : y.length ≤ x.length := by
      have := congrArg List.length h
      rw [List.length_take] at this; omega
    rw [decide_eq_true h, decide_eq_true hl, h, beq_self_eq_true]; rfl
  · rw [decide_eq_false h]
    have : ((x.take y.length).toArray == y.toArray) = false := by
      rw [beq_eq_false_iff_ne]; intro z; exact h (by have := congrArg Array.toList z; exact this)
    rw [this, Bool.and_false]
theorem par_len : ∀ (x acc t l : List Nat), TL.par [45] acc x = some (t, l) → l.length ≤ x.length
  | [], _, _, _, h => by cases h
  | c :: r, acc, t, l, h => by
    have h' : (if TL.pre [45] (c :: r) = true then some (acc, (c :: r).drop 1) else TL.par [45] (acc ++ [c]) r) = some (t, l) := h
    by_cases hp : TL.pre [45] (c :: r) = true
    · rw [if_pos hp] at h'
      cases h'
      show r.length ≤ r.length + 1
      omega
    · rw [if_neg hp] at h'
      have := par_len r _ _ _ h'
      show l.length ≤ r.length + 1
      omega
/-- the letters a to h -/
def abc8 : List Nat := [97, 98, 99, 100, 101, 102, 103, 104]
/-- whether signs are a shuffle's -/
def shufB (x : List Nat) : Bool := match TL.par [45] [] x with
  | none => false
  | some (t, l) => decide (abc8.take t.length = t) && (decide (l.length ≤ 12) && (l.map fun c => decide (c ∈ t)).all id)
def kStr : Value → Option Str
  | .str x _ => some x
  | _ => none
def absAll : List Value → Option (List V)
  | [] => some []
  | u :: r => match absV u, absAll r with
    | some x, some t => some (x :: t)
    | _, _ => none
def kTup (K : Frag) (t : Addr) : Option (List V) := match K.lookup t with
  | some ⟨.type c, _, .seq its _, _⟩ => if c = "tuple" ∧ its.size ≤ 1000 then absAll its.toList else none
  | _ => none
def kEnt (K : Frag) (e : DictEntry) : Option (Str × List V) := match e.val, kStr e.key with
  | .ref t, some k => (kTup K t).map fun xs => (k, xs)
  | _, _ => none
/-- the entries es: keys, each with what its tuple holds -/
def kTab (K : Frag) : List DictEntry → Option (List (Str × List V))
  | [] => some []
  | e :: r => match kEnt K e, kTab K r with
    | some x, some t => some (x :: t)
    | _, _ => none
theorem abs_rel {u : Value} {x : V} (h : absV u = some x) : RelV x u := by
  cases u <;> simp only [absV] at h <;> first | (cases h; done) | (cases h; first | exact rfl | exact ⟨_, rfl⟩) | cases h
theorem abs_all : ∀ {us : List Value} {xs : List V}, absAll us = some xs → Vals xs us
  | [], xs, h => by cases h; exact .nil
  | u :: r, xs, h => by
    unfold absAll at h
    cases e1 : absV u with
    | none => rw [e1] at h; cases h
    | some x =>
      cases e2 : absAll r with
      | none => rw [e1, e2] at h; cases h
      | some t =>
        rw [e1, e2] at h
        cases h
        exact .cons (abs_rel e1) (abs_all e2)
theorem kTup_ok {K : Frag} {t : Addr} {xs : List V} (h : kTup K t = some xs) (H : Hp) : SqT K H t xs := by
  unfold kTup at h
  cases e : K.lookup t with
  | none => rw [e] at h; cases h
  | some o =>
    rw [e] at h
    obtain ⟨oc, od, dt, sl⟩ := o
    cases oc with
    | type c =>
      cases dt with
      | seq its n =>
        have h' : (if c = "tuple" ∧ its.size ≤ 1000 then absAll its.toList else none) = some xs := h
        by_cases hc : c = "tuple" ∧ its.size ≤ 1000
        · rw [if_pos hc] at h'
          obtain ⟨rfl, hz⟩ := hc
          exact .inr ⟨_, its, n, e, rfl, rfl, Nat.le_of_lt (small1000 hz), abs_all h'⟩
        · rw [if_neg hc] at h'; cases h'
      | _ => cases h
    | _ => cases h
/-- what the table tells of a text -/
theorem tab_look {K : Frag} (z : Str) : ∀ {es : List DictEntry} {T : List (Str × List V)}, kTab K es = some T →
    (∀ xs, T.lookup z = some xs → ∃ e t, es.find? (·.key.isStr z) = some e ∧ e.val = .ref t ∧ kTup K t = some xs) ∧ (T.lookup z = none → es.find? (·.key.isStr z) = none) ∧ es.any (·.refKey) = false
  | [], T, h => by cases h; exact ⟨(fun xs q => by cases q), (fun _ => rfl), rfl⟩
  | e :: r, T, h => by
    unfold kTab at h
    cases e1 : kEnt K e with
    | none => rw [e1] at h; cases h
    | some x =>
      cases e2 : kTab K r with
      | none => rw [e1, e2] at h; cases h
      | some t =>
        rw [e1, e2] at h
        cases h
        obtain ⟨ih1, ih2, ih3⟩ := tab_look z e2
        obtain ⟨k, ys⟩ := x
        obtain ⟨a, hv, hk, ht⟩ : ∃ a, e.val = .ref a ∧ kStr e.key = some k ∧ kTup K a = some ys := by
          unfold kEnt at e1
          cases hv : e.val with
          | ref a =>
            cases hk : kStr e.key with
            | none => rw [hv, hk] at e1; cases e1
            | some k' =>
              rw [hv, hk] at e1
              have e1' : (kTup K a).map (fun xs => (k', xs)) = some (k, ys) := e1
              cases ht : kTup K a with
              | none => rw [ht] at e1'; cases e1'
              | some zs => rw [ht] at e1'; cases e1'; exact ⟨a, rfl, rfl, ht⟩
          | _ => rw [hv] at e1; cases e1
        obtain ⟨tk, hkey⟩ : ∃ tk, e.key = .str k tk := by
          unfold kStr at hk
          cases q : e.key with
          | str x' t' => rw [q] at hk; cases hk; exact ⟨_, rfl⟩
          | _ => rw [q] at hk; cases hk
        have hst : e.key.isStr z = (k == z) := by rw [hkey]; rfl
        have hrf : e.refKey = false := by unfold DictEntry.refKey; rw [hkey]
        refine ⟨fun xs q => ?_, fun q => ?_, ?_⟩
        · rw [List.lookup_cons] at q
          by_cases hz : z = k
          · subst hz
            rw [beq_self_eq_true] at q
            cases q
            exact ⟨e, a, by rw [List.find?_cons_of_pos (by rw [hst]; exact beq_self_eq_true z)], hv, ht⟩
          · rw [show (z == k) = false from beq_eq_false_iff_ne.mpr hz] at q
            obtain ⟨e', t', h1, h2, h3⟩ := ih1 xs q
            exact ⟨e', t', by rw [List.find?_cons_of_neg (by rw [hst]; intro y; exact hz (beq_iff_eq.mp y).symm)]; exact h1, h2, h3⟩
        · rw [List.lookup_cons] at q
          by_cases hz : z = k
          · subst hz
            rw [beq_self_eq_true] at q
            cases q
          · rw [show (z == k) = false from beq_eq_false_iff_ne.mpr hz] at q
            rw [List.find?_cons_of_neg (by rw [hst]; intro y; exact hz (beq_iff_eq.mp y).symm)]
            exact ih2 q
        · rw [List.any_cons, hrf, ih3]; rfl
def nn : List V := [V.str "number", V.str "number"]
def table : List (Str × List V) := [((("plus" : Str)), nn), ("minus", nn), ("times", nn), ("less", nn), ("same", nn), ("do", [V.str "row"]), ("dip", [V.str "any", V.str "row"]), ("if", [V.str "number", V.str "row", V.str "row"]), ("while", [V.str "row", V.str "row"]), ("repeat", [V.str "number", V.str "row"]), ("join", [V.str "row", V.str "row"]), ("wrap", [V.str "any"]), ("put", [V.str "list", V.str "any"]), ("part", [V.str "list", V.str "row", V.str "row"]), ("each", [V.str "list", V.str "row"])]
/-- the basic words' table stands at d -/
structure Tab (K : Frag) (w : World) (mg : Str → Option Value) (d : Addr) (es : Array DictEntry) (n : Nat) : Prop where
  kd : KDict K w d es n
  tab : kTab K es.toList = some table
  mg_ : mg "SORTS_TAKEN" = some (.ref d)
theorem Tab.ns {w : World} {K : PySem.W.Frag} {mg : Str → Option Value} {d : Addr} {es : Array DictEntry} {n : Nat} (T : Tab K w mg d es n) (z : Str) : (table.lookup z = none → nsIn K d z = some none) ∧ ∀ xs, table.lookup z = some xs → ∃ t, nsIn K d z = some (some (.ref t)) ∧ kTup K t = some xs := by
  obtain ⟨h1, h2, h3⟩ := tab_look z T.tab
  constructor
  · intro q
    unfold nsIn
    rw [T.kd.at_]
    show (match es.toList.find? (·.key.isStr z) with | some e => some (some e.val) | none => if es.toList.any (·.refKey) then none else some none) = some none
    rw [h2 q]
    show (if es.toList.any (·.refKey) = true then none else some none) = some none
    rw [h3]; rfl
  · intro xs q
    obtain ⟨e, t, e1, e2, e3⟩ := h1 xs q
    refine ⟨t, ?_, e3⟩
    unfold nsIn
    rw [T.kd.at_]
    show (match es.toList.find? (·.key.isStr z) with | some e => some (some e.val) | none => if es.toList.any (·.refKey) then none else some none) = some (some (.ref t))
    rw [e1]
    show some (some e.val) = _
    rw [e2]
theorem lookup_mem {z : Str} {xs : List V} : ∀ {T : List (Str × List V)}, T.lookup z = some xs → (z, xs) ∈ T
  | (k, ys) :: r, h => by
    rw [List.lookup_cons] at h
    by_cases hz : z = k
    · subst hz; rw [beq_self_eq_true] at h; cases h; exact List.mem_cons_self ..
    · rw [show (z == k) = false from beq_eq_false_iff_ne.mpr hz] at h
      exact List.mem_cons_of_mem _ (lookup_mem h)
end Cm
namespace Cm
open PySem PySem.W L2 SX
/-- a comprehension over a text's signs with a test -/
theorem lc_txtIf {z : List Nat} (p : Nat → Bool) (f : Nat → V) {g : TG} {tt : TT} {te : TE} {vs : List Nat} {σ : St} {H1 : Hp} {D : Addr} {Qd : Hp → Prop} (hl : z.length ≤ 1000)
    (hs : ∀ c H (R : V → Hp → Prop) (R0 : Hp → Prop), c ∈ z → (p c = true → R (f c) H) → (p c = false → R0 H) → g (.str ⟨#[c]⟩) (wipe σ vs) H fun σ2 H2 => wipe σ2 vs = wipe σ vs ∧ tt σ2 H2 fun b H3 => if b = true then te σ2 H3 R else R0 H3) (hd : Qd (upd H1 D (.lst ((z.filter p).map f)))) :
    ∃ W : Nat → Nat → Hp → Prop, (∃ m, W 0 m (upd H1 D (.lst []))) ∧ ∀ i m H, W i m H →
      ((Its (S z)).stop i H ∧ Qd H) ∨ ((Its (S z)).go i H ∧ ∃ Nx : Hp → Prop, (∀ H', Nx H' → ∃ m', m' < m ∧ W (i + 1) m' H') ∧ ∀ x H', (Its (S z)).yld i H x H' → g x (wipe σ vs) H' fun σ2 H2 => wipe σ2 vs = wipe σ vs ∧ tt σ2 H2 fun b H3 =>
        if b = true then te σ2 H3 fun y H4 => ∃ acc, H4 D = some (.lst acc) ∧ acc.length < sizeLine ∧ Nx (upd H4 D (.lst (acc ++ [y]))) else Nx H3) := by
  refine lc_it (walk_str (z := S z)) (fun i H => H = upd H1 D (.lst (((z.take i).filter p).map f))) rfl (fun _ _ _ _ => trivial) ?_ ?_
  · rintro i x H H' hi rfl ⟨rfl, c, hc, rfl⟩
    have hc' : z[i]? = some c := by
      rw [← hc]; show z[i]? = (z.toArray)[i]?; rw [List.getElem?_toArray]
    refine hs c _ (fun y H4 => ∃ acc, H4 D = some (.lst acc) ∧ acc.length < sizeLine ∧ upd H4 D (.lst (acc ++ [y])) = upd H1 D (.lst (((z.take (i + 1)).filter p).map f))) (fun H4 => H4 = upd H1 D (.lst (((z.take (i + 1)).filter p).map f))) (List.mem_of_getElem? hc') (fun hp => ⟨_, upd_same, ?_, ?_⟩) (fun hp => ?_)
    · have h1 := List.length_filter_le p (z.take i)
      rw [List.length_take] at h1
      rw [List.length_map]; exact small1000 (by omega)
    · rw [upd_upd, List.take_add_one, hc', List.filter_append, List.map_append]
      show _ = upd H1 D (HO.lst (List.map f (List.filter p (List.take i z)) ++ List.map f (List.filter p [c])))
      rw [List.filter_cons_of_pos hp]; rfl
    · show _ = _
      rw [List.take_add_one, hc', List.filter_append]
      show _ = upd H1 D (HO.lst (List.map f (List.filter p (List.take i z) ++ List.filter p [c])))
      rw [List.filter_cons_of_neg (by rw [hp]; decide), List.filter_nil, List.append_nil]
  · rintro H rfl
    have e : (S z).cps.size = z.length := by show z.toArray.size = _; rw [List.size_toArray]
    rw [e, List.take_length]
    exact hd
/-- a text, or something else that the law hands in -/
def Vl (H : Hp) (v : V) : Option (List Nat) → Prop
  | some x => v = .str (S x) ∧ x.length ≤ 1000
  | none => (v = .non ∨ (∃ b, v = .bl b) ∨ (∃ i, v = .int i) ∨ (∃ a xs, v = .ref a ∧ H a = some (.lst xs)) ∨ (∃ a kvs, v = .ref a ∧ H a = some (.dK kvs))) ∨ (∃ a xs, v = .ref a ∧ H a = some (.tup xs) ∧ (xs = [] ∨ ∃ z, xs = [.str z]))
theorem Vl.same {H H' : Hp} {v : V} {o : Option (List Nat)} (h : Vl H v o) (s : Same H H') : Vl H' v o := by
  cases o with
  | some x => exact h
  | none =>
    rcases h with (h | h | h | ⟨a, xs, e, h⟩ | ⟨a, xs, e, h⟩) | ⟨a, xs, e, h, g⟩
    · exact .inl (.inl h)
    · exact .inl (.inr (.inl h))
    · exact .inl (.inr (.inr (.inl h)))
    · exact .inl (.inr (.inr (.inr (.inl ⟨a, xs, e, s _ _ h⟩))))
    · exact .inl (.inr (.inr (.inr (.inr ⟨a, xs, e, s _ _ h⟩))))
    · exact .inr ⟨a, xs, e, s _ _ h, g⟩
theorem Vl.isStr {K : Frag} {H : Hp} {v : V} {o : Option (List Nat)} (h : Vl H v o) : ∃ t, TyX K H v t ∧ kitOne K t (.type "str") = some o.isSome := by
  cases o with
  | some x => exact ⟨_, by rw [h.1]; exact .base (.str _), kit_ty (r := true) (by decide +kernel)⟩
  | none =>
    rcases h with (h | ⟨b, h⟩ | ⟨i, h⟩ | ⟨a, xs, e, h⟩ | ⟨a, xs, e, h⟩) | ⟨a, xs, e, h, g⟩
    · exact ⟨_, by rw [h]; exact .base .non, kit_ty (r := false) (by decide +kernel)⟩
    · exact ⟨_, by rw [h]; exact .base (.bl _), kit_ty (r := false) (by decide +kernel)⟩
    · exact ⟨_, by rw [h]; exact .base (.int _), kit_ty (r := false) (by decide +kernel)⟩
    · exact ⟨_, by rw [e]; exact .base (.lst h), kit_ty (r := false) (by decide +kernel)⟩
    · exact ⟨_, by rw [e]; exact .base (.dK h), kit_ty (r := false) (by decide +kernel)⟩
    · exact ⟨_, by rw [e]; exact .base (.tup h), kit_ty (r := false) (by decide +kernel)⟩
/-- no tuple, or one without, or with one part -/
theorem Vl.isTup {K : Frag} {H : Hp} {v : V} (h : Vl H v none) : (∃ t, TyX K H v t ∧ kitOne K t (.type "tuple") = some false) ∨ (∃ a xs t, v = .ref a ∧ H a = some (.tup xs) ∧ (xs = [] ∨ ∃ z, xs = [.str z]) ∧ TyX K H v t ∧ kitOne K t (.type "tuple") = some true) := by
  rcases h with (h | ⟨b, h⟩ | ⟨i, h⟩ | ⟨a, xs, e, h⟩ | ⟨a, xs, e, h⟩) | ⟨a, xs, e, h, g⟩
  · exact .inl ⟨_, by rw [h]; exact .base .non, kit_ty (r := false) (by decide +kernel)⟩
  · exact .inl ⟨_, by rw [h]; exact .base (.bl _), kit_ty (r := false) (by decide +kernel)⟩
  · exact .inl ⟨_, by rw [h]; exact .base (.int _), kit_ty (r := false) (by decide +kernel)⟩
  · exact .inl ⟨_, by rw [e]; exact .base (.lst h), kit_ty (r := false) (by decide +kernel)⟩
  · exact .inl ⟨_, by rw [e]; exact .base (.dK h), kit_ty (r := false) (by decide +kernel)⟩
  · exact .inr ⟨a, xs, _, e, h, g, by rw [e]; exact .base (.tup h), kit_ty (r := true) (by decide +kernel)⟩
/-- the small letters -/
def az : List Nat := [97, 98, 99, 100, 101, 102, 103, 104, 105, 106, 107, 108, 109, 110, 111, 112, 113, 114, 115, 116, 117, 118, 119, 120, 121, 122]
/-- whether signs are a told word's name -/
def nameB (x : List Nat) : Bool := (decide (1 ≤ x.length) && decide (x.length ≤ 8)) && ((x.map fun c => decide (c ∈ az)).all id && !(table.lookup (S x)).isSome)
/-- whether signs are a word -/
def wordB (x : List Nat) : Bool := (table.lookup (S x)).isSome || (shufB x || nameB x)
def onT (f : List Nat → Bool) : Option (List Nat) → Bool
  | some x => f x
  | none => false
theorem par_spec : ∀ (x acc t l : List Nat), TL.par [45] acc x = some (t, l) → ∃ p, t = acc ++ p ∧ x = p ++ 45 :: l ∧ 45 ∉ p
  | [], _, _, _, h => by cases h
  | c :: r, acc, t, l, h => by
    have h' : (if TL.pre [45] (c :: r) = true then some (acc, (c :: r).drop 1) else TL.par [45] (acc ++ [c]) r) = some (t, l) := h
    by_cases hp : TL.pre [45] (c :: r) = true
    · rw [if_pos hp] at h'
      cases h'
      have hc : c = 45 := by
        have := eq_of_beq hp
        exact List.head_eq_of_cons_eq this
      exact ⟨[], by simp, by rw [hc]; rfl, by simp⟩
    · rw [if_neg hp] at h'
      obtain ⟨p, e1, e2, e3⟩ := par_spec r _ _ _ h'
      refine ⟨c :: p, by rw [e1]; simp, by rw [e2]; rfl, ?_⟩
      intro z
      rcases List.mem_cons.mp z with z | z
      · exact hp (by rw [← z]; rfl)
      · exact e3 z
theorem par_no : ∀ (x acc : List Nat), TL.par [45] acc x = none → 45 ∉ x
  | [], _, _ => by simp
  | c :: r, acc, h => by
    have h' : (if TL.pre [45] (c :: r) = true then some (acc, (c :: r).drop 1) else TL.par [45] (acc ++ [c]) r) = none := h
    by_cases hp : TL.pre [45] (c :: r) = true
    · rw [if_pos hp] at h'; cases h'
    · rw [if_neg hp] at h'
      intro z
      rcases List.mem_cons.mp z with z | z
      · exact hp (by rw [← z]; rfl)
      · exact par_no r _ h' z
theorem cnt_len (x : List Nat) : PyProof.Rows.cnt 45 x = (x.count 45 : Nat) := by
  induction x with
  | nil => rfl
  | cons n r ih =>
    rw [PyProof.Rows.cnt_cons, ih, List.count_cons]
    by_cases h : n = 45
    · rw [if_pos h, h]; simp; omega
    · rw [if_neg h]; simp [h]
/-- the first stroke -/
theorem index_dash {x p q : List Nat} (hx : x = p ++ 45 :: q) (hp : 45 ∉ p) (hq : 45 ∉ q) : Txt.index0 (S x) (S [45]) = some p.length := by
  obtain ⟨f, hc⟩ := PySem.StrLaws.occ_chain (S x) (S [45]) 1
  have hm : (!(Builtin.Str.occurrences (S x) (S [45]) 0 (S x).length 1).isEmpty) = decide (45 ∈ x) := in_one x 45
  have hx' : (45 : Nat) ∈ x := by rw [hx]; exact List.mem_append.mpr (.inr (List.mem_cons_self ..))
  rw [decide_eq_true hx'] at hm
  unfold Txt.index0
  cases ho : Builtin.Str.occurrences (S x) (S [45]) 0 (S x).length 1 with
  | nil => rw [ho] at hm; cases hm
  | cons i r =>
    rw [ho] at hc
    have h2 := (TL.at_iff (x := S x) (y := S [45]) (List.cons_ne_nil _ _) i).mp hc.2.1
    have h3 : (x.drop i).take 1 = [45] := eq_of_beq h2
    show some i = some p.length
    congr 1
    have h4 : x[i]? = some 45 := by
      have := congrArg (fun l => l[0]?) h3
      simp only [List.getElem?_take, List.getElem?_drop] at this
      simpa using this
    rw [hx] at h4
    by_cases h5 : i < p.length
    · rw [List.getElem?_append_left h5] at h4
      exact absurd (List.mem_of_getElem? h4) hp
    · rw [List.getElem?_append_right (by omega)] at h4
      by_cases h6 : i - p.length = 0
      · omega
      · obtain ⟨j, hj⟩ : ∃ j, i - p.length = j + 1 := ⟨i - p.length - 1, by omega⟩
        rw [hj, List.getElem?_cons_succ] at h4
        exact absurd (List.mem_of_getElem? h4) hq
end Cm
namespace Cm
open PySem PySem.W L2 SX
/-- a text of at most n signs that a text may have -/
structure Tx (z : Str) (n : Nat) : Prop where
  len : z.length ≤ n
  ch : ∀ c ∈ z.cps.toList, c < 1114112
theorem Tx.add {a b : Str} {m n : Nat} (h : Tx a m) (g : Tx b n) : Tx (a ++ b) (m + n) := by
  refine ⟨?_, fun c hc => ?_⟩
  · have e : (a ++ b).length = a.length + b.length := by
      rw [TL.len_tl, TL.tl_append, List.length_append, ← TL.len_tl, ← TL.len_tl]
    have := h.len; have := g.len; omega
  · have e : c ∈ TL.tl a ++ TL.tl b := by rw [← TL.tl_append]; exact hc
    rcases List.mem_append.mp e with e | e
    · exact h.ch c e
    · exact g.ch c e
theorem Tx.mono {a : Str} {m n : Nat} (h : Tx a m) (l : m ≤ n) : Tx a n := ⟨Nat.le_trans h.len l, h.ch⟩
theorem Tx.cut {z : Str} {n : Nat} (h : Tx z n) (lo hi : Option Int) : Tx (cutS z lo hi) n := by
  refine ⟨Nat.le_trans (cutS_length z lo hi) h.len, fun c hc => h.ch c ?_⟩
  have e : c ∈ (z.cps.toList.drop (HT.sIx z.length 0 lo)).take (HT.sIx z.length z.length hi - HT.sIx z.length 0 lo) := hc
  exact List.mem_of_mem_drop (List.mem_of_mem_take e)
theorem Tx.at_ {z : Str} {n : Nat} (h : Tx z n) {i : Int} {c : Nat} (e : atI z.cps.toList i = some c) : Tx ⟨#[c]⟩ 1 := by
  refine ⟨Nat.le_refl 1, fun d hd => ?_⟩
  have hd' : d ∈ [c] := hd
  rw [List.mem_singleton.mp hd']
  refine h.ch c ?_
  unfold atI at e
  cases q : ixN z.cps.toList.length i with
  | none => rw [q] at e; cases e
  | some j => rw [q] at e; exact List.mem_of_getElem? e
theorem Tx.sz {z : Str} {n : Nat} (h : Tx z n) (l : n ≤ 1000 := by decide) : z.length ≤ sizeLine := Nat.le_of_lt (small1000 (Nat.le_trans h.len l))
theorem Tx.sz2 {y z : Str} {m n : Nat} (h : Tx y m) (g : Tx z n) (l : m + n ≤ 1000 := by decide) : y.length + z.length ≤ sizeLine := by
  have := h.len; have := g.len
  exact Nat.le_of_lt (small1000 (by omega))
/-- a written text -/
def litB (z : Str) (n : Nat) : Bool := decide (z.length ≤ n) && z.cps.toList.all fun c => decide (c < 1114112)
theorem Tx.lit {z : Str} {n : Nat} (h : litB z n = true) : Tx z n := by
  unfold litB at h
  rw [Bool.and_eq_true] at h
  exact ⟨of_decide_eq_true h.1, fun c hc => of_decide_eq_true (List.all_eq_true.mp h.2 c hc)⟩
theorem joinL_nil : ∀ l : List (List Nat), TL.joinL [] l = l.flatten
  | [] => rfl
  | [x] => by show x = [x].flatten; simp
  | x :: y :: r => by
    have ih := joinL_nil (y :: r)
    show x ++ ([] ++ TL.joinL [] (y :: r)) = (x :: y :: r).flatten
    rw [ih]; simp
theorem Tx.join {ys : List Str} (h : ∀ y ∈ ys, Tx y 1) : Tx (Txt.join ("" : Str) ys) ys.length := by
  have e0 : ("" : Str) = S [] := by decide +kernel
  have e1 : ys = (ys.map TL.tl).map S := by
    rw [List.map_map]
    conv => lhs; rw [← List.map_id ys]
    exact List.map_congr_left fun y _ => (S_tl y).symm
  have e2 : Txt.join ("" : Str) ys = S ((ys.map TL.tl).flatten) := by
    rw [e0]; conv => lhs; rw [e1]
    rw [join_S, joinL_nil]
  rw [e2]
  refine ⟨?_, fun c hc => ?_⟩
  · rw [S_len, List.length_flatten]
    have : ∀ l : List Str, (∀ y ∈ l, Tx y 1) → ((l.map TL.tl).map List.length).sum ≤ l.length := by
      intro l
      induction l with
      | nil => intro _; exact Nat.le_refl 0
      | cons y r ih =>
        intro hh
        have h1 := (hh y (List.mem_cons_self ..)).len
        rw [TL.len_tl] at h1
        have h2 := ih fun z hz => hh z (List.mem_cons_of_mem _ hz)
        rw [List.map_cons, List.map_cons, List.sum_cons, List.length_cons]
        omega
    exact this ys h
  · have hc' : c ∈ (ys.map TL.tl).flatten := hc
    obtain ⟨l, hl, hcl⟩ := List.mem_flatten.mp hc'
    obtain ⟨y, hy, rfl⟩ := List.mem_map.mp hl
    exact (h y hy).ch c hcl
theorem sum_one {ys : List Str} (h : ∀ y ∈ ys, Tx y 1) (l : ys.length ≤ 1000) : (ys.map (·.length)).sum + ys.length * ("" : Str).length ≤ 16777216 := by
  have e0 : ("" : Str).length = 0 := by decide +kernel
  rw [e0, Nat.mul_zero, Nat.add_zero]
  have : ∀ l : List Str, (∀ y ∈ l, Tx y 1) → (l.map (·.length)).sum ≤ l.length := by
    intro l
    induction l with
    | nil => intro _; exact Nat.le_refl 0
    | cons y r ih =>
      intro hh
      have h1 := (hh y (List.mem_cons_self ..)).len
      have h2 := ih fun z hz => hh z (List.mem_cons_of_mem _ hz)
      rw [List.map_cons, List.sum_cons, List.length_cons]
      omega
  have := this ys h
  omega
end Cm
namespace Cm
open PySem PySem.Spec PyProof.Rows L2
theorem ext_tup (l : Addr) (its : Array Value) (n : Nat) (b : Addr) (js : Array Value) (m : Nat) (dd : Option Addr) (sl : Array (Option Value)) (h0 : ¬(!its.isEmpty && Builtin.List.listTooLong (its.size + js.size)) = true) (h1 : its.size ≤ sizeLine) (h2 : its.size + js.size ≤ sizeLine + 1) :
    Meets (Builtin.«list.extend» ⟨[.ref l, .ref b], []⟩) (fun _ R s => s.heap.get? l = some { cls := .type "list", dict := none, data := .seq its n, slots := #[] } ∧ s.heap.get? b = some { cls := .type "tuple", dict := dd, data := .seq js m, slots := sl } ∧ R (.ok (.ret Value.none)) { s with heap := s.heap.update l (Obj.mapSeq fun x => x ++ js), toks := s.toks }) :=
  .of_wp fun prog w A R s h => by
    obtain ⟨hp, g, d, tk, os⟩ := s
    obtain ⟨hl, hb, h⟩ := h
    have f2 := sub_tuple_tuple; have f3 := sub_list_list; have f4 := sub_tuple_list; have f5 := sub_list_tuple; have f1 := AutoSeq1.idx_int
    have hz : (its ++ js).size ≤ sizeLine + 1 := by rw [Array.size_append]; exact h2
    wp_walk using (wpAny_updateSeq hl rfl (hz := h1) (_hz' := hz)), wpAny_loadPart' hl, wpAny_loadPart' hb
    exact ⟨_, rfl, h⟩
def rExtT (K : PySem.W.Frag) : V → List V → Hp → VK → Prop := fun x vs H Q => ∃ l b xs zs, x = .ref l ∧ vs = [.ref b] ∧ H l = some (.lst xs) ∧ SqT K H b zs ∧ xs.length + zs.length ≤ sizeLine ∧ Q .non (upd H l (.lst (xs ++ zs)))
/-- xs.extend(t), t a tuple -/
theorem mt_extT {X : Cx} : MtM X "list.extend" (rExtT X.K) := by
  intro pins s σ H x vs v us Q I rx rv h
  obtain ⟨l, b, xs, zs, rfl, rfl, hH, hB, hz, q⟩ := h
  cases rx
  obtain ⟨u, rfl, ru⟩ := rv.one
  cases ru
  obtain ⟨z, its, n, r, hl, e⟩ := I.lstM hH
  obtain ⟨js, r2, ⟨ob, e2, c2, m, d2⟩, z2⟩ := I.tuple hB
  obtain ⟨oc, od, dt, sl⟩ := ob
  cases (show oc = .type "tuple" from c2)
  cases (show dt = .seq js.toArray m from d2)
  have l2 := r2.length
  have hsz : its.toArray.size + js.toArray.size ≤ sizeLine := by rw [List.size_toArray, List.size_toArray]; omega
  have hlong : ¬ (!its.toArray.isEmpty && Builtin.List.listTooLong (its.toArray.size + js.toArray.size)) = true := by
    rw [notLongL hsz, Bool.and_false]; exact Bool.false_ne_true
  refine call_meets F.slot_list_extend ⟨_, e, rfl⟩ F.entry_list_extend (F.args_list_extend_2 _ _)
    (ext_tup l its.toArray n b js.toArray m od sl hlong (by rw [List.size_toArray]; omega) (by omega)) ⟨e, e2, ?_⟩
  refine ⟨.non, _, I.lset (its' := its ++ js) hH e (by simp) (r.append r2) ?_, rfl, q⟩
  rw [List.length_append]; omega
end Cm
namespace Cm
open PySem PySem.W L2 SX
/-! ### data of tuples, texts and numbers as it lies in the heap -/
mutual
inductive Tr (K : Frag) (H : Hp) : V → PyData → Prop
  | int (i : Int) : Tr K H (.int i) (.int i)
  | str (x : Str) : Tr K H (.str x) (.str x)
  | tup {a : Addr} {xs : List V} {ds : List PyData} : SqT K H a xs → TrAll K H xs ds → Tr K H (.ref a) (.tuple ds)
inductive TrAll (K : Frag) (H : Hp) : List V → List PyData → Prop
  | nil : TrAll K H [] []
  | cons {v : V} {vs : List V} {d : PyData} {ds : List PyData} : Tr K H v d → TrAll K H vs ds → TrAll K H (v :: vs) (d :: ds)
end
/-- tuples are kept -/
def TKs (K : Frag) (H H' : Hp) : Prop := ∀ a xs, SqT K H a xs → SqT K H' a xs
theorem TKs.refl {K : Frag} (H : Hp) : TKs K H H := fun _ _ h => h
theorem TKs.trans {K : Frag} {H H1 H2 : Hp} (a : TKs K H H1) (b : TKs K H1 H2) : TKs K H H2 := fun c x h => b c x (a c x h)
theorem TKs.of {K : Frag} {H H' : Hp} (s : Same H H') : TKs K H H' := fun a xs h => by
  rcases h with (h | ⟨o, h⟩) | h
  · exact .inl (.inl (s _ _ h))
  · exact .inl (.inr ⟨o, s _ _ h⟩)
  · exact .inr h
theorem TKs.kp {K : Frag} {L : List Addr} {H H' : Hp} (k : Kp L H H') (hl : ∀ b ∈ L, ∃ xs, H b = some (.lst xs)) : TKs K H H' := fun a xs h => by
  have nm : ∀ o, H a = some o → (∀ ys, o ≠ .lst ys) → a ∉ L := fun o e n z => by
    obtain ⟨ys, ey⟩ := hl a z
    rw [ey] at e
    exact n ys (Option.some.inj e).symm
  rcases h with (h | ⟨o, h⟩) | h
  · exact .inl (.inl (k _ _ (nm _ h (fun _ z => by cases z)) h))
  · exact .inl (.inr ⟨o, k _ _ (nm _ h (fun _ z => by cases z)) h⟩)
  · exact .inr h
theorem TKs.lst {K : Frag} {H : Hp} {d : Addr} {xs ys : List V} (h : H d = some (.lst xs)) : TKs K H (upd H d (.lst ys)) :=
  TKs.kp (L := [d]) (fun b o m e => by rw [upd_ne (fun z => m (List.mem_singleton.mpr z))]; exact e) (fun b hb => by rw [List.mem_singleton.mp hb]; exact ⟨xs, h⟩)
mutual
theorem Tr.mono {K : Frag} {H H' : Hp} (k : TKs K H H') : ∀ {v : V} {d : PyData}, Tr K H v d → Tr K H' v d
  | _, _, .int i => .int i
  | _, _, .str x => .str x
  | _, _, .tup h t => .tup (k _ _ h) (TrAll.mono k t)
theorem TrAll.mono {K : Frag} {H H' : Hp} (k : TKs K H H') : ∀ {v : List V} {d : List PyData}, TrAll K H v d → TrAll K H' v d
  | _, _, .nil => .nil
  | _, _, .cons h t => .cons (Tr.mono k h) (TrAll.mono k t)
end
mutual
theorem Tr.dp {K : Frag} {H : Hp} : ∀ {v : V} {d : PyData}, Tr K H v d → Dp K H v d
  | _, _, .int i => .int i
  | _, _, .str x => .str x
  | _, _, .tup h t => .tup h (TrAll.dp t)
theorem TrAll.dp {K : Frag} {H : Hp} : ∀ {v : List V} {d : List PyData}, TrAll K H v d → DpAll K H v d
  | _, _, .nil => .nil
  | _, _, .cons h t => .cons (Tr.dp h) (TrAll.dp t)
end
theorem TrAll.len {K : Frag} {H : Hp} : ∀ {v : List V} {d : List PyData}, TrAll K H v d → v.length = d.length
  | _, _, .nil => rfl
  | _, _, .cons _ t => congrArg (· + 1) (TrAll.len t)
theorem TrAll.append {K : Frag} {H : Hp} : ∀ {v v' : List V} {d d' : List PyData}, TrAll K H v d → TrAll K H v' d' → TrAll K H (v ++ v') (d ++ d')
  | _, _, _, _, .nil, h => h
  | _, _, _, _, .cons h t, h' => .cons h (TrAll.append t h')
theorem TrAll.get {K : Frag} {H : Hp} : ∀ {v : List V} {d : List PyData} {i : Nat} {x : V}, TrAll K H v d → v[i]? = some x → ∃ y, d[i]? = some y ∧ Tr K H x y
  | _, _, i, x, .nil, h => by simp at h
  | _, _, 0, x, .cons h t, e => ⟨_, rfl, by cases e; exact h⟩
  | _, _, i + 1, x, .cons h t, e => by
    rw [List.getElem?_cons_succ] at e ⊢
    exact TrAll.get t e
theorem TrAll.snoc {K : Frag} {H : Hp} {v : List V} {d : List PyData} {x : V} (h : TrAll K H (v ++ [x]) d) : ∃ d' y, d = d' ++ [y] ∧ TrAll K H v d' ∧ Tr K H x y := by
  induction v generalizing d with
  | nil =>
    cases h with
    | cons a b => cases b; exact ⟨[], _, rfl, .nil, a⟩
  | cons u r ih =>
    cases h with
    | cons a b =>
      obtain ⟨d', y, rfl, h1, h2⟩ := ih b
      exact ⟨_ :: d', y, rfl, .cons a h1, h2⟩
/-! ### things, rows, stacks: depth, words in all, size -/
mutual
inductive Thg : Nat → Nat → Nat → PyData → Prop
  | num {k : Nat} (n : Int) (h0 : 0 ≤ n) (h1 : n < 10 ^ 12) : Thg k 0 1 (.tuple [.str "number", .int n])
  | row {k k' w m : Nat} {ws : List PyData} : Rw k w m ws → k < k' → Thg k' w (m + 1) (.tuple [.str "row", .tuple ws])
  | lst {k k' w m : Nat} {ts : List PyData} : Stk k w m ts → k < k' → Thg k' w (m + 1) (.tuple [.str "list", .tuple ts])
inductive Rw : Nat → Nat → Nat → List PyData → Prop
  | nil {k : Nat} : Rw k 0 0 []
  | txt {k w m : Nat} {z : Str} {ws : List PyData} : Tx z 100 → Rw k w m ws → Rw k (w + 1) (m + 1) (.str z :: ws)
  | push {k w m w' m' : Nat} {t : PyData} {ws : List PyData} : Thg k w m t → Rw k w' m' ws → Rw k (w + w' + 1) (m + m' + 1) (.tuple [.str "push", t] :: ws)
inductive Stk : Nat → Nat → Nat → List PyData → Prop
  | nil {k : Nat} : Stk k 0 0 []
  | cons {k w m w' m' : Nat} {t : PyData} {ts : List PyData} : Thg k w m t → Stk k w' m' ts → Stk k (w + w') (m + m') (t :: ts)
end
theorem Thg.up {k k' w m : Nat} {t : PyData} (h : Thg k w m t) (l : k ≤ k') : Thg k' w m t := by
  cases h with
  | num n h0 h1 => exact .num n h0 h1
  | row h q => exact .row h (Nat.lt_of_lt_of_le q l)
  | lst h q => exact .lst h (Nat.lt_of_lt_of_le q l)
theorem Rw.up {k k' : Nat} (l : k ≤ k') : ∀ {ws : List PyData} {w m : Nat}, Rw k w m ws → Rw k' w m ws
  | _, _, _, .nil => .nil
  | _, _, _, .txt h t => .txt h (Rw.up l t)
  | _, _, _, .push h t => .push (h.up l) (Rw.up l t)
theorem Stk.up {k k' : Nat} (l : k ≤ k') : ∀ {ws : List PyData} {w m : Nat}, Stk k w m ws → Stk k' w m ws
  | _, _, _, .nil => .nil
  | _, _, _, .cons h t => .cons (h.up l) (Stk.up l t)
theorem Rw.append {k : Nat} : ∀ {a b : List PyData} {w m w' m' : Nat}, Rw k w m a → Rw k w' m' b → Rw k (w + w') (m + m') (a ++ b)
  | _, _, _, _, _, _, .nil, h => by rw [Nat.zero_add, Nat.zero_add]; exact h
  | _, _, _, _, w', m', .txt (w := w) (m := m) h t, h' => by
    have := Rw.txt h (Rw.append t h')
    rw [show w + 1 + w' = w + w' + 1 by omega, show m + 1 + m' = m + m' + 1 by omega]
    exact this
  | _, _, _, _, w', m', .push (w := w) (m := m) (w' := x) (m' := y) h t, h' => by
    have := Rw.push h (Rw.append t h')
    rw [show w + x + 1 + w' = w + (x + w') + 1 by omega, show m + y + 1 + m' = m + (y + m') + 1 by omega]
    exact this
theorem Stk.append {k : Nat} : ∀ {a b : List PyData} {w m w' m' : Nat}, Stk k w m a → Stk k w' m' b → Stk k (w + w') (m + m') (a ++ b)
  | _, _, _, _, _, _, .nil, h => by rw [Nat.zero_add, Nat.zero_add]; exact h
  | _, _, _, _, _, _, .cons h t, h' => by
    rw [Nat.add_assoc, Nat.add_assoc]; exact .cons h (Stk.append t h')
theorem Stk.snoc {k : Nat} : ∀ {a : List PyData} {t : PyData} {w m : Nat}, Stk k w m (a ++ [t]) → ∃ w1 m1 w2 m2, Stk k w1 m1 a ∧ Thg k w2 m2 t ∧ w = w1 + w2 ∧ m = m1 + m2
  | [], t, w, m, h => by
    have h' : Stk k w m [t] := h
    cases h' with
    | cons a b => cases b; exact ⟨0, 0, _, _, .nil, a, by omega, by omega⟩
  | x :: r, t, w, m, h => by
    have h' : Stk k w m (x :: (r ++ [t])) := h
    cases h' with
    | cons a q =>
      obtain ⟨w1, m1, w2, m2, a', b, rfl, rfl⟩ := Stk.snoc q
      exact ⟨_, _, w2, m2, .cons a a', b, by omega, by omega⟩
theorem Thg.pos {k w m : Nat} {t : PyData} (h : Thg k w m t) : 1 ≤ m := by
  cases h <;> omega
theorem Stk.len {k : Nat} : ∀ {a : List PyData} {w m : Nat}, Stk k w m a → a.length ≤ m
  | _, _, _, .nil => Nat.le_refl 0
  | _, _, _, .cons h t => by
    have h1 := Stk.len t
    have h2 := h.pos
    rw [List.length_cons]; omega
theorem Rw.len {k : Nat} : ∀ {a : List PyData} {w m : Nat}, Rw k w m a → a.length ≤ m
  | _, _, _, .nil => Nat.le_refl 0
  | _, _, _, .txt h t => by have := Rw.len t; rw [List.length_cons]; omega
  | _, _, _, .push h t => by have := Rw.len t; rw [List.length_cons]; omega
/-- what a word pushes -/
def psh : PyData → Option PyData
  | .tuple [_, t] => some t
  | _ => none
theorem Rw.psh {k : Nat} : ∀ {ws : List PyData} {w m : Nat}, Rw k w m ws → ∃ w' m', Stk k w' m' (ws.filterMap psh) ∧ w = ws.length + w' ∧ m' ≤ m
  | _, _, _, .nil => ⟨0, 0, .nil, rfl, Nat.le_refl 0⟩
  | _, _, _, .txt h t => by
    obtain ⟨w', m', a, b, c⟩ := Rw.psh t
    exact ⟨w', m', a, by rw [List.length_cons]; omega, by omega⟩
  | _, _, _, .push h t => by
    obtain ⟨w', m', a, b, c⟩ := Rw.psh t
    exact ⟨_, _, .cons h a, by rw [List.length_cons]; omega, by omega⟩
theorem Rw.at_ {k : Nat} : ∀ {ws : List PyData} {w m i : Nat} {d : PyData}, Rw k w m ws → ws[i]? = some d → (∃ z, d = .str z) ∨ (∃ t, d = .tuple [.str "push", t])
  | _, _, _, i, d, .nil, h => by simp at h
  | _, _, _, 0, d, .txt (z := z) h t, e => .inl ⟨z, by cases e; rfl⟩
  | _, _, _, 0, d, .push (t := t) h _, e => .inr ⟨t, by cases e; rfl⟩
  | _, _, _, i + 1, d, .txt h t, e => Rw.at_ t e
  | _, _, _, i + 1, d, .push h t, e => Rw.at_ t e
theorem mid {n : Nat} (h : n ≤ 1000000) : n ≤ sizeLine := Nat.le_trans h (by decide)
theorem midlt {n : Nat} (h : n < 1000000) : n < sizeLine := Nat.lt_of_lt_of_le h (by decide)
theorem tyTup {K : Frag} {H : Hp} {a : Addr} {xs : List V} (h : SqT K H a xs) : TyX K H (.ref a) (.type "tuple") := by
  rcases h with (h | ⟨o, h⟩) | ⟨o, _, _, e, c, _⟩
  · exact .base (.tup h)
  · exact .fTuple h
  · exact .kTuple e c
mutual
theorem Thg.lay : ∀ {k w m : Nat} {t : PyData}, Thg k w m t → PyData.canLay0 t = true ∧ PyData.depth t ≤ 3 * k + 1
  | k, _, _, _, .num n h0 h1 => ⟨by show (PyData.canLay0 (.str "number") && (true && true)) = true; decide +kernel, Nat.le_add_left 1 _⟩
  | k', _, _, _, .row (k := k) (ws := ws) h l => by
    obtain ⟨a, b⟩ := Rw.lay h
    refine ⟨?_, ?_⟩
    · show (PyData.canLay0 (.str "row") && (PyData.canLayAll0 ws && true)) = true
      rw [a]; decide +kernel
    · show max 0 (max (PyData.depthAll ws + 1) 0) + 1 ≤ _
      omega
  | k', _, _, _, .lst (k := k) (ts := ts) h l => by
    obtain ⟨a, b⟩ := Stk.lay h
    refine ⟨?_, ?_⟩
    · show (PyData.canLay0 (.str "list") && (PyData.canLayAll0 ts && true)) = true
      rw [a]; decide +kernel
    · show max 0 (max (PyData.depthAll ts + 1) 0) + 1 ≤ _
      omega
theorem Rw.lay : ∀ {k w m : Nat} {ws : List PyData}, Rw k w m ws → PyData.canLayAll0 ws = true ∧ PyData.depthAll ws ≤ 3 * k + 2
  | k, _, _, _, .nil => ⟨rfl, Nat.zero_le _⟩
  | k, _, _, _, .txt (z := z) (ws := ws) h t => by
    obtain ⟨a, b⟩ := Rw.lay t
    refine ⟨?_, ?_⟩
    · show (z.cps.all (· < 0x110000) && PyData.canLayAll0 ws) = true
      rw [a, Bool.and_true, ← Array.all_toList, List.all_eq_true]
      intro c hc
      exact decide_eq_true (h.ch c hc)
    · show max 0 (PyData.depthAll ws) ≤ _
      omega
  | k, _, _, _, .push (t := t) (ws := ws) h r => by
    obtain ⟨a, b⟩ := Rw.lay r
    obtain ⟨a', b'⟩ := Thg.lay h
    refine ⟨?_, ?_⟩
    · show ((PyData.canLay0 (.str "push") && (PyData.canLay0 t && true)) && PyData.canLayAll0 ws) = true
      rw [a, a']; decide +kernel
    · show max (max 0 (max (PyData.depth t) 0) + 1) (PyData.depthAll ws) ≤ _
      omega
theorem Stk.lay : ∀ {k w m : Nat} {ts : List PyData}, Stk k w m ts → PyData.canLayAll0 ts = true ∧ PyData.depthAll ts ≤ 3 * k + 1
  | k, _, _, _, .nil => ⟨rfl, Nat.zero_le _⟩
  | k, _, _, _, .cons (t := t) (ts := ts) h r => by
    obtain ⟨a, b⟩ := Stk.lay r
    obtain ⟨a', b'⟩ := Thg.lay h
    refine ⟨?_, ?_⟩
    · show (PyData.canLay0 t && PyData.canLayAll0 ts) = true
      rw [a, a']; rfl
    · show max (PyData.depth t) (PyData.depthAll ts) ≤ _
      omega
end
theorem Stk.shaped {k w m : Nat} {ts : List PyData} (h : Stk k w m ts) (l : k ≤ 20) : SeqAt.shaped (.list ts) = true := by
  obtain ⟨a, b⟩ := h.lay
  show (PyData.canLayAll0 ts && decide (PyData.depthAll ts + 1 ≤ 64)) = true
  rw [a, Bool.true_and]; exact decide_eq_true (by omega)
end Cm
namespace Cm
open PySem PySem.W L2 SX
theorem Tr.tupD {K : Frag} {H : Hp} {v : V} {ds : List PyData} (h : Tr K H v (.tuple ds)) : ∃ a xs, v = .ref a ∧ SqT K H a xs ∧ TrAll K H xs ds := by
  cases h with
  | tup h t => exact ⟨_, _, rfl, h, t⟩
/-- two tuples' sum, as trees -/
theorem catTr {K : Frag} {H : Hp} {u v : V} {ps qs : List PyData} {Q : VK} (hu : Tr K H u (.tuple ps)) (hv : Tr K H v (.tuple qs)) (hl : ps.length + qs.length ≤ 1000000)
    (q : ∀ (r : V) (H' : Hp), Same H H' → Tr K H' r (.tuple (ps ++ qs)) → Q r H') : rCatA K u v H Q := by
  obtain ⟨a, xs, rfl, ha, hx⟩ := hu.tupD
  obtain ⟨b, ys, rfl, hb, hy⟩ := hv.tupD
  have lx := hx.len
  have ly := hy.len
  refine ⟨a, b, xs, ys, rfl, rfl, ha, hb, mid (by omega), fun e => ?_, fun _ e => ?_, fun _ _ p np => ?_⟩
  · subst e
    cases hx
    exact q _ H (fun _ _ h => h) (.tup hb hy)
  · subst e
    cases hy
    rw [List.append_nil] at q
    exact q _ H (fun _ _ h => h) (.tup ha hx)
  · exact q _ _ (same_new np _) (.tup (SqT.of upd_same) ((hx.append hy).mono (.of (same_new np _))))
/-- all but the first of a tuple, as trees -/
theorem restTr {K : Frag} {H : Hp} {u : V} {d : PyData} {ds : List PyData} {Q : VK} (hu : Tr K H u (.tuple (d :: ds)))
    (q : ∀ (r : V) (H' : Hp), Same H H' → Tr K H' r (.tuple ds) → Q r H') : rSlA K u (some 1) none H Q := by
  obtain ⟨a, xs, rfl, ha, hx⟩ := hu.tupD
  cases hx with
  | cons hd ht =>
    rename_i x xr
    refine ⟨a, _, rfl, ha, fun c => ?_, fun _ p np => ?_⟩
    · have c1 := c.1
      rw [show (1 : Int) = ((1 : Nat) : Int) from rfl, HT.sIx_nat, List.length_cons] at c1
      omega
    · have e : cutV (x :: xr) (some 1) none = xr := by
        unfold cutV
        rw [show (1 : Int) = ((1 : Nat) : Int) from rfl, HT.sIx_nat, HT.sIx_none, List.length_cons, Nat.min_eq_left (by omega)]
        show List.take (xr.length + 1 - 1) xr = xr
        rw [Nat.add_sub_cancel, List.take_length]
      rw [e]
      exact q _ _ (same_new np _) (.tup (SqT.of upd_same) (ht.mono (.of (same_new np _))))
/-- a made tuple, as a tree -/
theorem tupTr {K : Frag} {H : Hp} {xs : List V} {ds : List PyData} (h : TrAll K H xs ds) {p : Addr} (np : H p = none) : Tr K (upd H p (.tup xs)) (.ref p) (.tuple ds) := .tup (SqT.of upd_same) (h.mono (.of (same_new np _)))
end Cm
namespace Cm
open PySem PySem.W L2 SX
/-! ### maps: what stays lowest -/
/-- the thing c stays where it is and stands nowhere behind -/
def Stays (ps : List Int) (c : Nat) : Prop := ps[c]? = some (c : Int) ∧ (c : Int) ∉ ps.drop (c + 1)
/-- as many as c may be cut -/
def IsCut (ps : List Int) (c : Nat) : Prop := (∀ j, j < c → Stays ps j) ∧ ¬ Stays ps c
def cutM (c : Nat) (ps : List Int) : List Int := (ps.drop c).map fun p => p - (c : Int)
theorem IsCut.uniq {ps : List Int} {c d : Nat} (a : IsCut ps c) (b : IsCut ps d) : c = d := by
  rcases Nat.lt_trichotomy c d with h | h | h
  · exact absurd (b.1 c h) a.2
  · exact h
  · exact absurd (a.1 d h) b.2
theorem Stays.lt {ps : List Int} {c : Nat} (h : Stays ps c) : c < ps.length := by
  have := h.1
  exact (List.getElem?_eq_some_iff.mp this).1
theorem cutM_zero (ps : List Int) : cutM 0 ps = ps := by
  unfold cutM
  rw [List.drop_zero]
  have : (fun p : Int => p - ((0 : Nat) : Int)) = id := by funext p; show p - 0 = p; omega
  rw [this, List.map_id]
theorem cutM_length (c : Nat) (ps : List Int) : (cutM c ps).length ≤ ps.length := by
  unfold cutM
  rw [List.length_map, List.length_drop]; omega
theorem mem_cutM {c : Nat} {ps : List Int} {x : Int} : x ∈ cutM c ps ↔ x + c ∈ ps.drop c := by
  unfold cutM
  rw [List.mem_map]
  constructor
  · rintro ⟨y, hy, rfl⟩
    rw [show y - (c : Int) + (c : Int) = y by omega]; exact hy
  · intro h
    exact ⟨_, h, by omega⟩
theorem IsCut.least {ps : List Int} {c : Nat} (h : IsCut ps c) : IsCut (cutM c ps) 0 := by
  refine ⟨fun j hj => absurd hj (Nat.not_lt_zero j), fun s => h.2 ?_⟩
  obtain ⟨s1, s2⟩ := s
  have e1 : (cutM c ps)[0]? = (ps[c]?).map fun p => p - (c : Int) := by
    unfold cutM
    rw [List.getElem?_map, List.getElem?_drop, Nat.add_zero]
  rw [e1] at s1
  constructor
  · cases e : ps[c]? with
    | none => rw [e] at s1; cases s1
    | some p =>
      rw [e] at s1
      have s1' : p - (c : Int) = ((0 : Nat) : Int) := Option.some.inj s1
      congr 1
      omega
  · intro m
    refine s2 ?_
    have e2 : (cutM c ps).drop (0 + 1) = (ps.drop (c + 1)).map fun p => p - (c : Int) := by
      unfold cutM
      rw [← List.map_drop, List.drop_drop]
    rw [e2, List.mem_map]
    exact ⟨_, m, by omega⟩
/-- the numbers from 0 on -/
def nums (m : Nat) : List Int := (List.range m).map fun i => ((i : Nat) : Int)
theorem nums_length (m : Nat) : (nums m).length = m := by unfold nums; rw [List.length_map, List.length_range]
theorem nums_get {m i : Nat} (h : i < m) : (nums m)[i]? = some (i : Int) := by
  unfold nums
  rw [List.getElem?_map, List.getElem?_range h]; rfl
theorem mem_nums {m : Nat} {x : Int} : x ∈ nums m ↔ 0 ≤ x ∧ x < m := by
  unfold nums
  rw [List.mem_map]
  constructor
  · rintro ⟨i, hi, rfl⟩
    have := List.mem_range.mp hi
    omega
  · rintro ⟨h1, h2⟩
    exact ⟨x.toNat, List.mem_range.mpr (by omega), by omega⟩
theorem mem_drop_nums {m c : Nat} {x : Int} (h : x ∈ (nums m).drop c) : (c : Int) ≤ x := by
  obtain ⟨i, hi⟩ := List.mem_iff_getElem?.mp h
  rw [List.getElem?_drop] at hi
  have hl := (List.getElem?_eq_some_iff.mp hi).1
  rw [nums_length] at hl
  rw [nums_get hl] at hi
  have := Option.some.inj hi
  omega
def moreM (m : Nat) (ps : List Int) : List Int := nums m ++ ps.map fun p => p + (m : Int)
theorem stays_more {m c : Nat} {ps : List Int} : Stays (moreM m ps) (m + c) ↔ Stays ps c := by
  unfold Stays moreM
  have e1 : (nums m ++ ps.map fun p => p + (m : Int))[m + c]? = (ps[c]?).map fun p => p + (m : Int) := by
    rw [List.getElem?_append_right (by rw [nums_length]; omega), nums_length, Nat.add_sub_cancel_left, List.getElem?_map]
  have e2 : (nums m ++ ps.map fun p => p + (m : Int)).drop (m + c + 1) = (ps.drop (c + 1)).map fun p => p + (m : Int) := by
    rw [List.drop_append, nums_length, List.drop_of_length_le (by rw [nums_length]; omega), List.nil_append, List.map_drop]
    congr 1; omega
  rw [e1, e2]
  constructor
  · rintro ⟨h1, h2⟩
    constructor
    · cases e : ps[c]? with
      | none => rw [e] at h1; cases h1
      | some p =>
        rw [e] at h1
        have h1' : p + (m : Int) = ((m + c : Nat) : Int) := Option.some.inj h1
        congr 1; omega
    · intro z
      exact h2 (List.mem_map.mpr ⟨_, z, by omega⟩)
  · rintro ⟨h1, h2⟩
    constructor
    · rw [h1]
      show some ((c : Int) + (m : Int)) = _
      congr 1; omega
    · intro z
      obtain ⟨y, hy, e⟩ := List.mem_map.mp z
      exact h2 (by rw [show (c : Int) = y by omega]; exact hy)
theorem IsCut.more {m c : Nat} {ps : List Int} (h : IsCut ps c) (h0 : ∀ p ∈ ps, (0 : Int) ≤ p) : IsCut (moreM m ps) (m + c) := by
  refine ⟨fun j hj => ?_, fun s => h.2 (stays_more.mp s)⟩
  by_cases hm : j < m
  · constructor
    · unfold moreM
      rw [List.getElem?_append_left (by rw [nums_length]; exact hm), nums_get hm]
    · unfold moreM
      rw [List.drop_append]
      intro z
      rcases List.mem_append.mp z with z | z
      · have := mem_drop_nums z; omega
      · obtain ⟨y, hy, e⟩ := List.mem_map.mp (List.mem_of_mem_drop z)
        have := h0 y hy
        omega
  · have : j = m + (j - m) := by omega
    rw [this]
    exact stays_more.mpr (h.1 _ (by omega))
theorem cutM_more (m c : Nat) (ps : List Int) : cutM (m + c) (moreM m ps) = cutM c ps := by
  unfold cutM moreM
  rw [List.drop_append, nums_length, List.drop_of_length_le (by rw [nums_length]; omega), List.nil_append, ← List.map_drop, List.map_map, Nat.add_sub_cancel_left]
  congr 1
  funext p
  show p + (m : Int) - ((m + c : Nat) : Int) = p - (c : Int)
  omega
theorem count_stays {ps : List Int} {c : Nat} (h : ∀ j, j < c → Stays ps j) (hc : ps[c]? = some (c : Int)) : ps.count (c : Int) = 1 ↔ (c : Int) ∉ ps.drop (c + 1) := by
  have e : ps = ps.take c ++ ((c : Int) :: ps.drop (c + 1)) := by
    obtain ⟨h1, h2⟩ := List.getElem?_eq_some_iff.mp hc
    rw [← h2, List.getElem_cons_drop, List.take_append_drop]
  have e0 : (ps.take c).count (c : Int) = 0 := by
    rw [List.count_eq_zero]
    intro z
    obtain ⟨i, hi⟩ := List.mem_iff_getElem?.mp z
    rw [List.getElem?_take] at hi
    by_cases hl : i < c
    · rw [if_pos hl, (h i hl).1] at hi
      have := Option.some.inj hi
      omega
    · rw [if_neg hl] at hi; cases hi
  have : ps.count (c : Int) = (ps.drop (c + 1)).count (c : Int) + 1 := by
    conv => lhs; rw [e]
    rw [List.count_append, e0, List.count_cons_self]; omega
  rw [this]
  constructor
  · intro q
    exact List.count_eq_zero.mp (by omega)
  · intro q
    rw [List.count_eq_zero.mpr q]
theorem in_ints (c : Int) : ∀ ns : List Int, inV (.int c) (ns.map V.int) = decide (c ∈ ns)
  | [] => rfl
  | n :: r => by
    have ih : ((r.map V.int).any fun y => eqV y (.int c)) = decide (c ∈ r) := in_ints c r
    show ((n == c) || (r.map V.int).any fun y => eqV y (.int c)) = _
    rw [ih]
    by_cases h : n = c
    · subst h
      rw [beq_self_eq_true, Bool.true_or, decide_eq_true (List.mem_cons_self ..)]
    · rw [show (n == c) = false from beq_eq_false_iff_ne.mpr h, Bool.false_or]
      congr 1
      refine propext ⟨fun m => List.mem_cons_of_mem _ m, fun m => ?_⟩
      rcases List.mem_cons.mp m with z | z
      · exact absurd z.symm h
      · exact z
theorem flat_ints : ∀ ns : List Int, (ns.map V.int).all flatV = true
  | [] => rfl
  | n :: r => by
    show (true && (r.map V.int).all flatV) = true
    rw [flat_ints r]; rfl
/-- a map as data: a number and a tuple of numbers -/
def mapD (n : Int) (ps : List Int) : PyData := .tuple [.int n, .tuple (ps.map PyData.int)]
theorem mapD_lay (n : Int) (ps : List Int) : PyData.canLay0 (mapD n ps) = true := by
  show (PyData.canLay0 (PyData.int n) && (PyData.canLayAll0 (ps.map PyData.int) && true)) = true
  rw [lay_ints]; rfl
theorem mapD_shaped (n : Int) (ps : List Int) : SeqAt.shaped (mapD n ps) = true := by
  show (PyData.canLay0 (mapD n ps) && decide (PyData.depth (mapD n ps) ≤ 64)) = true
  rw [mapD_lay]
  have : PyData.depth (mapD n ps) = 2 := by
    show max 0 (max (PyData.depthAll (ps.map PyData.int) + 1) 0) + 1 = 2
    rw [deep_ints]; rfl
  rw [this]; rfl
/-- a map stands at p -/
def MapAt (K : Frag) (H : Hp) (p : Addr) (n : Int) (ps : List Int) : Prop := ∃ t, SqT K H p [.int n, .ref t] ∧ SqT K H t (ps.map V.int)
/-! ### rules -/
theorem Same.seqT {K : PySem.W.Frag} {H H' : Hp} {a : Addr} {xs : List V} (e : Same H H') (h : SqT K H a xs) : SqT K H' a xs := by
  rcases h with (h | ⟨o, h⟩) | h
  · exact .inl (.inl (e _ _ h))
  · exact .inl (.inr ⟨o, e _ _ h⟩)
  · exact .inr h
theorem MapAt.same {K : Frag} {H H' : Hp} {p : Addr} {n : Int} {ps : List Int} (h : MapAt K H p n ps) (s : Same H H') : MapAt K H' p n ps := by
  obtain ⟨t, h1, h2⟩ := h
  exact ⟨t, Same.seqT s h1, Same.seqT s h2⟩
theorem MapAt.dp {K : Frag} {H : Hp} {p : Addr} {n : Int} {ps : List Int} (h : MapAt K H p n ps) : Dp K H (.ref p) (mapD n ps) := by
  obtain ⟨t, h1, h2⟩ := h
  exact .tup h1 (.cons (.int _) (.cons (.tup h2 (dp_ints ps)) .nil))
section
variable {X : Cx}
def rCntT (K : PySem.W.Frag) : V → List V → Hp → VK → Prop := fun x xs H Q => ∃ (p : Addr) (ns : List Int) (k : Int), x = .ref p ∧ xs = [.int k] ∧ SqT K H p (ns.map V.int) ∧ Q (.int (ns.count k : Nat)) H
theorem mt_tcount : MtR X "tuple.count" (rCntT X.K) := by
  intro pins s σ H x xs v us Q I rx rxs h
  obtain ⟨p, ns, k, rfl, rfl, hs, q⟩ := h
  cases rx
  obtain ⟨u, rfl, ru⟩ := rxs.one
  obtain ⟨t, rfl⟩ := ru
  obtain ⟨its, rv, ⟨⟨cls, dd, data, sl⟩, ho, hc, n, hd⟩, hlen⟩ := I.tuple hs
  simp only at hc hd
  subst hc hd
  have hi := ints_of_vals rv
  refine call_meets PySem.F.slot_tuple_count ⟨_, ho, rfl⟩ PySem.F.entry_tuple_count (PySem.F.args_tuple_count_2 _ _)
    (SeqAt.tuple_countAt p its.toArray n dd sl (.int k t) (eqk k)) ⟨ho, fun y hy => (eqk_gives hi y (by simpa using hy)).at _ _, ?_⟩
  have ec : its.toArray.toList.countP (eqk k) = ns.count k := eqk_count hi
  refine ⟨.int (ns.count k : Nat), H, I.tok _, ⟨s.toks, ?_⟩, q⟩
  show Value.int ((its.toArray.toList.countP (eqk k) : Nat) : Int) s.toks = Value.int ((ns.count k : Nat) : Int) s.toks
  rw [ec]
end
/-! ### a tuple's method: the tuple is kept as the object that was made, which has no dict -/
/-- a tuple of xs stands at p, as an object without a dict -/
def TupO (H : Hp) (p : Addr) (xs : List V) : Prop := ∃ o : Obj, o.dict = none ∧ H p = some (.frz o (.tup xs))
theorem TupO.sq {K : Frag} {H : Hp} {p : Addr} {xs : List V} (h : TupO H p xs) : SqT K H p xs := by
  obtain ⟨o, _, h⟩ := h
  exact .inl (.inr ⟨o, h⟩)
theorem TupO.same {H H' : Hp} {p : Addr} {xs : List V} (h : TupO H p xs) (s : Same H H') : TupO H' p xs := by
  obtain ⟨o, d, h⟩ := h
  exact ⟨o, d, s _ _ h⟩
theorem TupO.kp {H H' : Hp} {d p : Addr} {xs ys : List V} (h : TupO H p xs) (hd : H d = some (.lst ys)) (s : Kp [d] H H') : TupO H' p xs := by
  obtain ⟨o, e, h⟩ := h
  exact ⟨o, e, s p _ (fun z => by rw [List.mem_singleton.mp z, hd] at h; cases h) h⟩
section
open PySem.Spec PyProof.Rows
variable {X : Cx}
theorem call_tuple_ofD : CallR X (.type "tuple") (fun xs H Q => ∃ p ys, xs = [.ref p] ∧ SqL X.K H p ys ∧ ∀ (l : Addr) (o : Obj), H l = none → o.dict = none → Q (.ref l) (upd H l (.frz o (.tup ys)))) := by
  intro pins s σ H xs us Q I r h
  obtain ⟨p, ys, rfl, hq, q⟩ := h
  obtain ⟨u, rfl, rx⟩ := r.one
  cases rx
  obtain ⟨its, r', pl, hz⟩ := I.list hq
  have hlen := r'.length
  refine call_tuple_list pl.isList (fun h' kp => ?_) (by simp only [List.size_toArray] <;> omega)
  have I1 : Inv X pins σ H { s with heap := h' } := I.kept (t' := s.toks) kp
  have I2 : Inv X pins σ (upd H h'.objs.size (.frz { cls := .type "tuple", data := .seq its.toArray } (.tup ys))) { s with heap := h'.push { cls := .type "tuple", data := .seq its.toArray } } :=
    I1.laid (t' := s.toks) (fun b o e => Heap.get?_push_of_some _ e) (Nat.le_refl _) (show ObjOk X.prog X.w _ _ _ (.frz { cls := .type "tuple", data := .seq its.toArray } (.tup ys)) from ⟨Heap.get?_push_size _ rfl, hz, its, r', IsTup.new _ _⟩)
  exact ⟨.ref h'.objs.size, _, I2, rfl, q _ _ (I1.hok.fresh (Nat.le_refl _)) rfl⟩
def tBMT (r : V → List V → Hp → VK → Prop) (to : TE) (t : TA) : TE := fun σ H Q => to σ H fun x H1 => (∃ p ys, x = .ref p ∧ TupO H1 p ys) ∧ t σ H1 fun xs H2 => r x xs H2 Q
variable {o e : Expr} {es : List Expr} {to : TE} {t : TA} {name : Str} {apos cpos : Pos} {id : String} {r : V → List V → Hp → VK → Prop}
theorem pe_bmT (slot : Slot "tuple" name id) (hty : typeOf (.builtin id) = pure (.type "method_descriptor")) (hm : MtR X id r) (ho : PE X o to) (ha : PA X (e :: es) t)
    (hbase : attributeBase o name X.env (eval o X.env) = eval o X.env := by rfl)
    (hfew : ((backTo cpos (starEach (e :: es) X.env)).all (fun x => !x.1) && (backToKw cpos (keywordEach [] X.env)).all (fun x => x.1.isSome)
      && decide ((e :: es).length + ([] : List Keyword).length + (if ([] : List Keyword).isEmpty then 0 else 1) < 30)) = true := by rfl)
    (hline : (apos.endLine == cpos.line) = true := by rfl) (hs : starEach (e :: es) X.env = (false, eval e X.env) :: starEach es X.env := by rfl) (hplain : (backTo cpos (starEach es X.env)).any (·.1) = false := by rfl) :
    PE X (.Call (.Attribute o name apos) (e :: es) [] cpos) (tBMT r to t) := by
  refine ⟨fun pins s σ H Q I h => ?_⟩
  refine wpAny_Call_method_late hbase hfew hline rfl (thn (ho.run pins s σ H _ I h) fun v s1 ⟨x, H1, I1, r1, ty, q1⟩ => ?_)
  obtain ⟨p, ys, ex, ob, hd, hp⟩ := ty
  subst ex
  obtain rfl : v = Value.ref p := r1
  obtain ⟨hg, ho2⟩ := I1.hok p _ hp
  obtain ⟨_, its, rv, ob', hg', hc, _⟩ := ho2
  have e1 : ob = ob' := Option.some.inj (hg.symm.trans hg')
  subst e1
  refine ⟨"tuple", id, PySem.F.plainAttrs_tuple, slot, hty, ⟨ob, hg, hc⟩, fun a e => ?_, ?_⟩
  · cases e
    exact ⟨ob, hg, hd⟩
  have hA := ha.run cpos pins s1 σ H1 _ I1 q1
  rw [hs] at hA ⊢
  refine Calls.callWith_builtin (by show (false || (backTo cpos (starEach es X.env)).any (·.1)) = false; rw [hplain] <;> rfl) (Calls.evalArgs_plain ?_)
  exact thn hA fun us s2 ⟨vs, H2, I2, r2, q2⟩ => hm pins s2 σ H2 (.ref p) vs (.ref p) us Q I2 rfl r2 q2
end
/-- a comprehension over a tuple, each element a plain value, none left out -/
theorem lc_mapT {K : Frag} {a : Addr} {xs : List V} (f : V → V) {g : TG} {te : TE} {vs : List Nat} {σ : St} {H1 : Hp} {D : Addr} {Qd : Hp → Prop} (ha : SqT K H1 a xs) (hD : H1 D = none) (hl : xs.length ≤ 1000000)
    (hs : ∀ x H (R : V → Hp → Prop), x ∈ xs → Same H1 H → R (f x) H → g x (wipe σ vs) H fun σ2 H2 => wipe σ2 vs = wipe σ vs ∧ te σ2 H2 R) (hd : Qd (upd H1 D (.lst (xs.map f)))) :
    ∃ W : Nat → Nat → Hp → Prop, (∃ m, W 0 m (upd H1 D (.lst []))) ∧ ∀ i m H, W i m H →
      ((Itt K a).stop i H ∧ Qd H) ∨ ((Itt K a).go i H ∧ ∃ Nx : Hp → Prop, (∀ H', Nx H' → ∃ m', m' < m ∧ W (i + 1) m' H') ∧ ∀ x H', (Itt K a).yld i H x H' → g x (wipe σ vs) H' fun σ2 H2 => wipe σ2 vs = wipe σ vs ∧ tYes σ2 H2 fun b H3 =>
        if b = true then te σ2 H3 fun y H4 => ∃ acc, H4 D = some (.lst acc) ∧ acc.length < sizeLine ∧ Nx (upd H4 D (.lst (acc ++ [y]))) else Nx H3) := by
  refine lc_tup (K := K) (a := a) (xs := xs) (fun i H => H = upd H1 D (.lst ((xs.take i).map f))) rfl (fun i H _ e => ?_) ?_ ?_
  · rw [e]; exact Same.seqT (same_new hD _) ha
  · rintro i x H hx rfl
    refine hs x _ (fun y H4 => ∃ acc, H4 D = some (.lst acc) ∧ acc.length < sizeLine ∧ upd H4 D (.lst (acc ++ [y])) = upd H1 D (.lst ((xs.take (i + 1)).map f))) (List.mem_of_getElem? hx) (same_new hD _) ⟨_, upd_same, ?_, ?_⟩
    · rw [List.length_map, List.length_take]; rw [sizeLine_eq]; omega
    · rw [upd_upd, List.take_add_one, hx, List.map_append]; rfl
  · rintro H rfl
    rw [List.take_length]
    exact hd
/-- and over a list -/
theorem lc_mapL {K : Frag} {a : Addr} {xs : List V} (f : V → V) {g : TG} {te : TE} {vs : List Nat} {σ : St} {H1 : Hp} {D : Addr} {Qd : Hp → Prop} (ha : SqL K H1 a xs) (hD : H1 D = none) (hl : xs.length ≤ 1000000)
    (hs : ∀ x H (R : V → Hp → Prop), x ∈ xs → Same H1 H → R (f x) H → g x (wipe σ vs) H fun σ2 H2 => wipe σ2 vs = wipe σ vs ∧ te σ2 H2 R) (hd : Qd (upd H1 D (.lst (xs.map f)))) :
    ∃ W : Nat → Nat → Hp → Prop, (∃ m, W 0 m (upd H1 D (.lst []))) ∧ ∀ i m H, W i m H →
      ((Itl K a).stop i H ∧ Qd H) ∨ ((Itl K a).go i H ∧ ∃ Nx : Hp → Prop, (∀ H', Nx H' → ∃ m', m' < m ∧ W (i + 1) m' H') ∧ ∀ x H', (Itl K a).yld i H x H' → g x (wipe σ vs) H' fun σ2 H2 => wipe σ2 vs = wipe σ vs ∧ tYes σ2 H2 fun b H3 =>
        if b = true then te σ2 H3 fun y H4 => ∃ acc, H4 D = some (.lst acc) ∧ acc.length < sizeLine ∧ Nx (upd H4 D (.lst (acc ++ [y]))) else Nx H3) := by
  refine lc_list (K := K) (a := a) (xs := xs) (fun i H => H = upd H1 D (.lst ((xs.take i).map f))) rfl (fun i H _ e => ?_) ?_ ?_
  · rw [e]; exact Same.seq (same_new hD _) ha
  · rintro i x H hx rfl
    refine hs x _ (fun y H4 => ∃ acc, H4 D = some (.lst acc) ∧ acc.length < sizeLine ∧ upd H4 D (.lst (acc ++ [y])) = upd H1 D (.lst ((xs.take (i + 1)).map f))) (List.mem_of_getElem? hx) (same_new hD _) ⟨_, upd_same, ?_, ?_⟩
    · rw [List.length_map, List.length_take]; rw [sizeLine_eq]; omega
    · rw [upd_upd, List.take_add_one, hx, List.map_append]; rfl
  · rintro H rfl
    rw [List.take_length]
    exact hd
theorem cut_from {α : Type} (f : α → V) (xs : List α) (i : Nat) : cutV (xs.map f) (some (i : Int)) none = (xs.drop i).map f := by
  unfold cutV
  rw [HT.sIx_nat, HT.sIx_none, List.length_map, ← List.map_drop, ← List.map_take]
  congr 1
  by_cases h : i ≤ xs.length
  · rw [Nat.min_eq_left h, List.take_of_length_le (by rw [List.length_drop]; omega)]
  · rw [Nat.min_eq_right (by omega), List.drop_of_length_le (Nat.le_refl _), List.drop_of_length_le (by omega), List.take_nil]
theorem cut_upto {α : Type} (f : α → V) (xs : List α) (i : Nat) : cutV (xs.map f) none (some (i : Int)) = (xs.take i).map f := by
  unfold cutV
  rw [HT.sIx_nat, HT.sIx_none, List.length_map, ← List.map_drop, ← List.map_take, List.drop_zero, Nat.sub_zero]
  congr 1
  by_cases h : i ≤ xs.length
  · rw [Nat.min_eq_left h]
  · rw [Nat.min_eq_right (by omega), List.take_of_length_le (Nat.le_refl _), List.take_of_length_le (by omega)]
/-- a tuple's slice t[i:], as what it holds -/
theorem slT_from {K : Frag} {H : Hp} {a : Addr} {α : Type} {f : α → V} {xs : List α} {i : Nat} {Q : VK} (ha : SqT K H a (xs.map f)) (q : ∀ p H', Same H H' → SqT K H' p ((xs.drop i).map f) → Q (.ref p) H') : rSlA K (.ref a) (some (i : Int)) none H Q := by
  refine ⟨a, _, rfl, ha, fun c => ?_, fun _ p np => ?_⟩
  · have c1 := c.1
    rw [HT.sIx_nat, List.length_map] at c1
    have : xs.drop i = xs := by
      rcases Nat.eq_zero_or_pos i with h | h
      · rw [h, List.drop_zero]
      · have : xs.length = 0 := by omega
        rw [List.length_eq_zero_iff.mp this, List.drop_nil]
    refine q a H (Same.refl H) ?_
    rw [this]; exact ha
  · rw [cut_from]
    exact q p _ (same_new np _) (SqT.of upd_same)
theorem slT_fromP {K : Frag} {H : Hp} {a : Addr} {α : Type} {f : α → V} {xs : List α} {i : Nat} {Q : VK} {σ : St} (ha : SqT K H a (xs.map f)) (q : ∀ p H', Same H H' → SqT K H' p ((xs.drop i).map f) → Q (.ref p) H') : tNoPart σ H fun u H3 => rSlA K (.ref a) (some (i : Int)) u H3 Q := slT_from ha q
theorem slT_upto {K : Frag} {H : Hp} {a : Addr} {α : Type} {f : α → V} {xs : List α} {i : Nat} {Q : VK} (ha : SqT K H a (xs.map f)) (q : ∀ p H', Same H H' → SqT K H' p ((xs.take i).map f) → Q (.ref p) H') : rSlA K (.ref a) none (some (i : Int)) H Q := by
  refine ⟨a, _, rfl, ha, fun c => ?_, fun _ p np => ?_⟩
  · have c1 := c.2
    rw [HT.sIx_nat, List.length_map] at c1
    refine q a H (Same.refl H) ?_
    rw [List.take_of_length_le (by omega)]; exact ha
  · rw [cut_upto]
    exact q p _ (same_new np _) (SqT.of upd_same)
/-- two tuples' sum, by what they hold -/
theorem catT_map {K : Frag} {H : Hp} {a b : Addr} {xs ys : List V} {Q : VK} (ha : SqT K H a xs) (hb : SqT K H b ys) (hl : xs.length + ys.length ≤ 1000000)
    (q : ∀ p H', Same H H' → SqT K H' p (xs ++ ys) → Q (.ref p) H') : rCatA K (.ref a) (.ref b) H Q := by
  refine ⟨a, b, xs, ys, rfl, rfl, ha, hb, by rw [sizeLine_eq]; omega, fun e => ?_, fun _ e => ?_, fun _ _ p np => ?_⟩
  · subst e; exact q b H (Same.refl H) hb
  · subst e; exact q a H (Same.refl H) (by rw [List.append_nil]; exact ha)
  · exact q p _ (same_new np _) (SqT.of upd_same)
end Cm
/-! xs == [] of any list, and t[::-1] of a tuple -/
namespace PySem.SeqAt
open AutoSeq1 (wpAny_loadPart')
open MeetsSeq MeetsSeq2 MeetsSeq3 SeqRoads2
section
variable {prog : Program} {w : World}
theorem cm_list_neIn (l b : Addr) (items items2 : Array Value) (n n2 : Nat) (dd dd2 : Option Addr) (sl sl2 : Array (Option Value)) (hsz : items.size ≠ items2.size) :
    MeetsIn prog w (Builtin.«list.__eq__» ⟨[.ref l, .ref b], []⟩)
      (fun A R s => s.heap.get? l = some { cls := .type "list", dict := dd, data := .seq items n, slots := sl } ∧ s.heap.get? b = some { cls := .type "list", dict := dd2, data := .seq items2 n2, slots := sl2 } ∧
        R (.ok (.ret (.bool false))) s) := by
  intro A R s h
  obtain ⟨hp, g, d, tk, os⟩ := s; obtain ⟨hl, hb, h⟩ := h
  have f3 := AutoSeq1.sub_list_list
  have hne : (items.size != items2.size) = true := by simp [hsz]
  wp_walk using wpAny_loadPart' hl, wpAny_loadPart' hb
  exact h
theorem cm_rcP_ne {A : Around} {s : Shared} {l b : Addr} {items items2 : Array Value} (hl : s.heap.IsList l items) (hb : s.heap.IsList b items2) (hsz : items.size ≠ items2.size) (hu : A.units < cLine)
    (E Q : Value → Shared → Prop) (h : Q (.bool false) s) : wpAny (model prog w) A (richCompare .Eq (.ref l) (.ref b)) Q E s := by
  obtain ⟨⟨cls, dd, data, sl⟩, ho, hc, n, hd⟩ := id hl
  obtain ⟨⟨cls2, dd2, data2, sl2⟩, ho2, hc2, n2, hd2⟩ := id hb
  simp only at hc hd hc2 hd2
  subst hc hd hc2 hd2
  have ta : s.TypeIs (.ref l) "list" := ⟨_, ho, rfl⟩
  have tb : s.TypeIs (.ref b) "list" := ⟨_, ho2, rfl⟩
  exact wpAny_richCompare_same_room (op := .Eq) ta tb F.slot_list_eq (call_meetsIn F.slot_list_eq ta F.entry_list_eq (F.args_list_eq_2 _ _) (cm_list_neIn l b items items2 n n2 dd dd2 sl sl2 hsz)
    ⟨ho, ho2, show Value.bool false ≠ Value.notImplemented ∧ Q (.bool false) s from ⟨(fun x => nomatch x), h⟩⟩) hu
end
end PySem.SeqAt
namespace Cm
open PySem PySem.Spec PyProof.Rows PySem.W L2 SX
section
variable {X : Cx}
/-- xs == [] -/
def rEqNil (K : Frag) : R2 := fun x y H Q => ∃ a b xs, x = .ref a ∧ y = .ref b ∧ SqL K H a xs ∧ SqL K H b [] ∧ Q (.bl xs.isEmpty) H
theorem op_eqNil (hu : X.A.units + 64 < cLine) : OpR X (compareOp .Eq) (rEqNil X.K) := by
  intro pins s σ H x y v u Q I rx ry h
  obtain ⟨a, b, xs, rfl, rfl, ha, hb, q⟩ := h
  cases rx
  cases ry
  obtain ⟨us, r1, p1, _⟩ := I.list ha
  obtain ⟨ws, r2, p2, _⟩ := I.list hb
  cases r2
  cases r1 with
  | nil =>
    refine SeqAt.rcP_lists (e := fun _ => true) p1.isList p2.isList rfl (by omega) (fun j h1 h2 => ?_) _ _ ⟨.bl true, H, I, rfl, q⟩
    exact absurd h1 (Nat.not_lt_zero j)
  | cons h t =>
    refine SeqAt.cm_rcP_ne p1.isList p2.isList (by simp) (by omega) _ _ ⟨.bl false, H, I, rfl, q⟩
end
end Cm
namespace HT
open PySem PyProof.Rows
section
variable {prog : Program} {w : World} {A : Around} {E : Value → Shared → Prop} {s : Shared}
theorem cm_adjust (n : Nat) : Builtin.Slice.sliceAdjust none none (-1) (n : Int) = ((n : Int) - 1, -1) := rfl
theorem cm_places (n : Nat) : Builtin.Slice.slicePlaces ((n : Int) - 1) (-1) (-1) = n := by
  unfold Builtin.Slice.slicePlaces
  rw [if_neg (show ¬ ((-1 : Int) > 0) by omega)]
  cases n with
  | zero => rfl
  | succ n =>
    rw [if_pos (show ((n + 1 : Nat) : Int) - 1 > -1 by omega)]
    show ((((n + 1 : Nat) : Int) - 1 - -1 - 1) / 1 + 1).toNat = n + 1
    rw [Int.ediv_one]; omega
theorem cm_applied {sl : Addr} {vl vu vs : Value} {n : Nat} {Q : Int × Int × Nat → Shared → Prop} (hs : s.heap.IsSliceOf sl vl vu vs) (pl : IsPart vl none) (pu : IsPart vu none) (ps : IsPart vs (some (-1)))
    (h : Q ((n : Int) - 1, -1, n) s) : wpAny (model prog w) A (Builtin.Slice.sliceApplied (.ref sl) (pure (n : Int))) Q E s := by
  obtain ⟨os, hos, hcs, hds⟩ := id hs
  unfold Builtin.Slice.sliceApplied Builtin.Slice.sliceFields
  refine wpAny_bind (wpAny_bind (wpAny_field hos hds (x := vl) rfl (wpAny_bind (wpAny_field hos hds (x := vu) rfl (wpAny_bind (wpAny_field hos hds (x := vs) rfl (wpAny_pure ?_)))))))
  refine wpAny_bind (slicePart_ ps ?_)
  show wpAny _ _ (if ((-1 : Int) == 0) = true then _ else _) _ _ s
  rw [if_neg (by decide)]
  refine wpAny_bind (slicePart_ pl (wpAny_bind (slicePart_ pu (wpAny_bind (wpAny_pure ?_)))))
  show wpAny _ _ (match Builtin.Slice.sliceAdjust none none (-1) (n : Int) with | (lo, hi) => pure (lo, (-1 : Int), Builtin.Slice.slicePlaces lo hi (-1))) _ _ s
  rw [cm_adjust n]
  show wpAny _ _ (pure ((n : Int) - 1, (-1 : Int), Builtin.Slice.slicePlaces ((n : Int) - 1) (-1) (-1))) _ _ s
  rw [cm_places]
  exact wpAny_pure h
theorem cm_pick (xs : List Value) : ((List.range xs.length).filterMap fun (m : Nat) => xs.toArray[((xs.length : Int) - 1 + (m : Int) * -1).toNat]?).toArray = xs.reverse.toArray := by
  congr 1
  have e : ∀ m ∈ List.range xs.length, xs.toArray[((xs.length : Int) - 1 + (m : Int) * -1).toNat]? = xs.reverse[m]? := by
    intro m hm
    have hm := List.mem_range.mp hm
    rw [List.getElem?_reverse hm, show ((xs.length : Int) - 1 + (m : Int) * -1).toNat = xs.length - 1 - m by omega]
    simp
  have e2 : ∀ (l : List Nat), (∀ m ∈ l, m ∈ List.range xs.length) → (l.filterMap fun (m : Nat) => xs.toArray[((xs.length : Int) - 1 + (m : Int) * -1).toNat]?) = l.filterMap fun m => xs.reverse[m]? := by
    intro l
    induction l with
    | nil => intro _; rfl
    | cons a r ih =>
      intro h
      rw [List.filterMap_cons, List.filterMap_cons, e a (h a (List.mem_cons_self ..)), ih (fun m hm => h m (List.mem_cons_of_mem _ hm))]
  rw [e2 _ (fun _ h => h), ← List.length_reverse (as := xs)]
  generalize xs.reverse = ys
  induction ys with
  | nil => rfl
  | cons y r ih =>
    rw [List.length_cons, List.range_succ_eq_map, List.filterMap_cons]
    show y :: List.filterMap _ _ = _
    rw [List.filterMap_map]
    exact congrArg (y :: ·) ih
theorem cm_tuple_rev {t sl : Addr} {items : List Value} {vl vu vs : Value} {Q : Value → Shared → Prop} (ht : IsTup s.heap t items.toArray) (hs : s.heap.IsSliceOf sl vl vu vs) (pl : IsPart vl none) (pu : IsPart vu none) (ps : IsPart vs (some (-1)))
    (h : Q (.ref s.heap.objs.size) { s with heap := s.heap.push { cls := .type "tuple", data := .seq items.reverse.toArray } })
    (hsz : items.length ≤ sizeLine) : wpAny (model prog w) A (getItem (.ref t) (.ref sl)) Q E s := by
  have htake : sizeOk (.seq items.reverse.toArray) := by
    show items.reverse.toArray.size ≤ sizeLine
    rw [List.size_toArray, List.length_reverse]; exact hsz
  obtain ⟨os, hos, hcs, hds⟩ := id hs
  have hTs : s.TypeIs (.ref sl) "slice" := ⟨os, hos, hcs⟩
  unfold getItem
  try with_reducible refine wpAny_holding ?_
  first | refine wpAny_bind (wpAny_pure ?_) | skip
  refine wpAny_bind (wpAny_sequenceKey ht.typeIs (by decide) ?_)
  refine wpAny_bind (wpAny_callSpecial?_slot (name := Str.ofString "__getitem__") ht.typeIs PyProof.Rows.slot_tuple_getitem
    (wpAny_call_entry PyProof.Rows.slot_tuple_getitem ht.typeIs entry_tuple_getitem ?_ (args_tuple_getitem _ _)))
  show wpAny _ _ (Builtin.Tuple.tupleItemsOf (.ref t) >>= _) _ _ s
  refine wpAny_bind (tupleItemsOf_ ht ?_)
  refine wpAny_bind (wpAny_typeOf hTs ?_)
  rw [if_pos (by decide)]
  refine wpAny_bind (cm_applied (n := items.length) hs pl pu ps ?_)
  have hno : ¬ ((((items.length : Int) - 1) == 0 && (-1 : Int) == 1 && items.length == items.toArray.size) = true) := by
    intro q
    rw [Bool.and_eq_true, Bool.and_eq_true] at q
    exact absurd q.1.2 (by decide)
  show wpAny _ _ (if (((items.length : Int) - 1) == 0 && (-1 : Int) == 1 && items.length == items.toArray.size) = true then _ else _) _ _ s
  rw [if_neg hno, cm_pick]
  first
    | exact wpAny_bind (m := Builtin.Tuple.tupleExact _) (wpAny_newObj_type (wpAny_pure ⟨_, rfl, wpAny_pure h⟩) htake)
    | exact wpAny_bind (m := Builtin.Tuple.tupleExact _) (wpAny_newObj_type (wpAny_bind (wpAny_pure (wpAny_pure ⟨_, rfl, wpAny_pure h⟩))) htake)
    | exact wpAny_bind (wpAny_bind (m := Builtin.Tuple.tupleExact _) (wpAny_newObj_type (wpAny_pure (wpAny_pure ⟨_, rfl, wpAny_pure h⟩)) htake))
    | exact wpAny_bind (wpAny_bind (m := Builtin.Tuple.tupleExact _) (wpAny_newObj_type (wpAny_pure ⟨_, rfl, wpAny_pure h⟩) htake))
end
end HT
namespace Cm
open PySem PySem.Spec PyProof.Rows PySem.W L2 SX
section
variable {X : Cx}
/-- t[::-1] -/
def tRevT (K : Frag) (te : TE) : TE := fun σ H Q => te σ H fun x H1 => ∃ a xs, x = .ref a ∧ SqT K H1 a xs ∧ ∀ p, H1 p = none → Q (.ref p) (upd H1 p (.tup xs.reverse))
theorem pe_revT {e : Expr} {te : TE} {k : Nat} {p1 p2 p3 pos : Pos} (he : PE X e te) : PE X (.Subscript e (.Slice none none (some (.UnaryOp .USub (.Constant (.int 1) k p1) p2)) p3) pos) (tRevT X.K te) := by
  refine ⟨fun pins s σ H Q I h => ?_⟩
  refine Subscript_ (thn (he.run pins s σ H _ I h) fun v s1 ⟨x, H1, I1, r1, q1⟩ => ?_)
  obtain ⟨a, xs, ex, hx, q⟩ := q1
  subst ex
  cases r1
  have hst : PO X (some (.UnaryOp .USub (.Constant (.int 1) k p1) p2)) (tPart (tUn (rU fun i => .int (-i)) (tC (.int 1)))) := po_some (pe_un un_neg pe_int)
  refine wpAny_Slice (thn (po_none.run pins s1 σ H1 (fun o H2 => o = none ∧ H2 = H1) I1 ⟨rfl, rfl⟩) fun vl s2 ⟨l, H2, I2, pl, el, e2⟩ => ?_)
  subst el e2
  refine thn (po_none.run pins s2 σ H2 (fun o H3 => o = none ∧ H3 = H2) I2 ⟨rfl, rfl⟩) fun vu s3 ⟨u, H3, I3, pu, eu, e3⟩ => ?_
  subst eu e3
  refine thn (hst.run pins s3 σ H3 (fun o H4 => o = some (-1) ∧ H4 = H3) I3 ⟨1, rfl, -1, rfl, rfl, rfl⟩) fun vs s4 ⟨o, H4, I4, ps, eo, e4⟩ => ?_
  subst eo e4
  have I5 : Inv X pins σ H4 { s4 with heap := s4.heap.push { cls := .type "slice", data := .fields #[vl, vu, vs] } } := I4.kept (t' := s4.toks) fun b ob q => Heap.get?_push_of_some _ q
  obtain ⟨its, r, ht, hz⟩ := I5.tuple hx
  have hlen := r.length
  show wpAny (model X.prog X.w) X.A (subscriptTail e (.Slice none none (some (.UnaryOp .USub (.Constant (.int 1) k p1) p2)) p3) (.ref a) (.ref s4.heap.objs.size)) (EP X pins σ Q) X.xe { s4 with heap := s4.heap.push { cls := .type "slice", data := .fields #[vl, vu, vs] } }
  refine tail_any (ops := [.ref a, .ref s4.heap.objs.size]) ht.typeIs (PyProof.Rows.slot_tuple_getitem.lookup) ?_ (by with_unfolding_all rfl)
  refine HT.cm_tuple_rev ht (Heap.IsSliceOf.new _ vl vu vs) pl pu ps ?_ (by omega)
  refine ⟨.ref _, _, I5.laid (t' := s4.toks) (o := .tup xs.reverse) (fun b ob q => Heap.get?_push_of_some _ q) (Nat.le_refl _) ?_, rfl, q _ (I5.hok.fresh (Nat.le_refl _))⟩
  exact ⟨by rw [List.length_reverse]; exact hz, _, r.reverse, IsTup.new _ _⟩
end
end Cm
namespace Cm
open PySem PySem.Spec PyProof.Rows PySem.W L2 SX
section
variable {X : Cx}
/-- t == () -/
def rEqNilT (K : Frag) : R2 := fun x y H Q => ∃ a b xs, x = .ref a ∧ y = .ref b ∧ SqT K H a xs ∧ SqT K H b [] ∧ Q (.bl xs.isEmpty) H
theorem op_eqNilT (hu : X.A.units + 64 < cLine) : OpR X (compareOp .Eq) (rEqNilT X.K) := by
  intro pins s σ H x y v u Q I rx ry h
  obtain ⟨a, b, xs, rfl, rfl, ha, hb, q⟩ := h
  cases rx
  cases ry
  obtain ⟨us, r1, p1, _⟩ := I.tuple ha
  obtain ⟨ws, r2, p2, _⟩ := I.tuple hb
  cases r2
  have e : xs.isEmpty = ((List.range (min us.toArray.size (#[] : Array Value).size)).all (fun _ => true) && us.toArray.size == (#[] : Array Value).size) := by
    cases r1 with
    | nil => rfl
    | cons h t => rw [List.size_toArray]; rfl
  rw [e] at q
  obtain ⟨⟨cls, dd, data, sl⟩, ho, hc, n, hd⟩ := id p1
  obtain ⟨⟨cls2, dd2, data2, sl2⟩, ho2, hc2, n2, hd2⟩ := id p2
  simp only at hc hd hc2 hd2
  subst hc hd hc2 hd2
  refine richCompare_meets_room (op := .Eq) ⟨_, ho, rfl⟩ ⟨_, ho2, rfl⟩ F.slot_tuple_eq F.entry_tuple_eq (F.args_tuple_eq_2 _ _) (SeqAt.tuple_eqAt a b us.toArray #[] n n2 dd dd2 sl sl2 (fun _ => true)) ?_ (by omega)
  exact ⟨ho, ho2, (fun j h1 h2 => absurd h2 (Nat.not_lt_zero j)), (fun z => nomatch z), ⟨.bl _, H, I, rfl, q⟩⟩
end
end Cm
namespace Cm
open PySem PySem.W L2 SX
/-! ### isinstance of a caught error, its class and dict told by the reading -/
def rIsEc (K : PySem.W.Frag) (D a : Addr) (cls : Value) (d : Option Addr) : List V → Hp → VK → Prop := fun xs H Q => cls = .ref D ∧ d = none ∧ rIsE K D a xs H Q
/-- isinstance(e, (c1, ..)) -/
def rIsEt (K : PySem.W.Frag) (D a : Addr) (cls : Value) (d : Option Addr) : List V → Hp → VK → Prop := fun xs H Q => cls = .ref D ∧ d = none ∧
  ∃ (tp : Addr) (cs : List V) (us : List Value) (b : Bool), xs = [.ref a, .ref tp] ∧ H tp = some (.tup cs) ∧ Paired ClsV cs us ∧ PySem.W.kitAny K (.ref D) us = some b ∧ Q (.bl b) H
section
open PySem.Spec PyProof.Rows
variable {X : Cx} {a D : Addr} {oe : Obj} {cls : Value} {d : Option Addr} {pn : List (Addr × Obj)}
theorem call_isEc (C : ExcC X.K D) (hz : Zc cls d oe) (hf : ∃ vs, oe.data = .fields vs) : CallR (X.suite a ((a, oe) :: pn)) (.builtin "isinstance") (rIsEc X.K D a cls d) := by
  intro pins s σ H xs us Q I r h
  obtain ⟨rfl, rfl, h⟩ := h
  exact call_isE C hz hf pins s σ H xs us Q I r h
theorem call_isEt (C : ExcC X.K D) (hz : Zc cls d oe) (hf : ∃ vs, oe.data = .fields vs) : CallR (X.suite a ((a, oe) :: pn)) (.builtin "isinstance") (rIsEt X.K D a cls d) := by
  intro pins s σ H xs us Q I r h
  obtain ⟨rfl, rfl, tp, cs, ws, b, rfl, hT, k, e, q⟩ := h
  obtain ⟨u1, u2, rfl, r1, r2⟩ := r.two
  cases r1
  cases (show u2 = Value.ref tp from r2)
  obtain ⟨hget, _⟩ := I.pin (a, oe) (List.mem_append.mpr (.inl List.mem_cons_self))
  obtain ⟨vs, hv⟩ := hf
  have J : PySem.W.InstAt s.heap a oe D none := by
    obtain ⟨oc, od, oda, osl⟩ := oe
    obtain ⟨h1, h2⟩ := hz
    dsimp only at h1 h2 hv
    subst h1 h2 hv
    exact ⟨hget, rfl, rfl, trivial⟩
  obtain ⟨_, its, rv, o, h1, h2, n, h3⟩ := (show ObjOk X.prog X.w H s.heap tp (.tup cs) from I.hok tp _ hT)
  have e3 := ClsV.all k rv
  subst e3
  obtain ⟨oc, od, dt, sl⟩ := o
  simp only at h2 h3
  subst h2 h3
  exact PySem.W.kia_tup (PySem.W.handS_kitx_exc C.hg C.hk C.hs C.hd C.ha C.hn C.ht C.hm) I.kIn J h1 e (fun z => nomatch z) fun tk => ⟨.bl b, H, I.kept (t' := tk) fun _ _ z => z, rfl, q⟩
end
end Cm
/-! an error that is caught and held beyond its suite: behind the suite its place is told by what its object is -/
namespace Cm
open PySem PySem.W L2 SX
/-- an error of the class cls, with the dict d, stands at a -/
def ExcAt (a : Addr) (cls : Value) (d : Option Addr) : Heap → Prop := fun h => ∃ oe vs, h.get? a = some oe ∧ Zc cls d oe ∧ oe.data = .fields vs
def eOb (a : Addr) (cls : Value) (d : Option Addr) : HO := .ext (ExcAt a cls d)
theorem eOb_ok {P : Program} {w : World} {H : Hp} {h : Heap} {a : Addr} {cls : Value} {d : Option Addr} {oe : Obj} {vs : Array Value} (e : h.get? a = some oe) (z : Zc cls d oe) (f : oe.data = .fields vs) : ObjOk P w H h a (eOb a cls d) :=
  ⟨⟨oe, vs, e, z, f⟩, ⟨oe, e⟩, fun h1 h2 ⟨o1, v1, e1, z1, f1⟩ k => ⟨o1, v1, k _ e1, z1, f1⟩⟩
section
open PySem.Spec PyProof.Rows
variable {X : Cx} {pins : List (Addr × Obj)} {σ : L2.St} {H : Hp} {s : Shared}
/-- what was not told is told from now on -/
theorem track {a : Addr} {o : HO} (I : Inv X pins σ H s) (na : H a = none) (h0 : ∀ u, X.s_0.heap.get? a = some u → a ∈ X.ex) (nL : a ≠ X.env.locals) (nC : ∀ x c, X.env.cells.lookup x = some c → c ≠ a) (np : ∀ p ∈ X.pn ++ pins, p.1 ≠ a)
    (new : ObjOk X.prog X.w (upd H a o) s.heap a o) : Inv X pins σ (upd H a o) s where
  ok := I.ok
  os := I.os
  bare := I.bare
  base :=
    { keep := I.base.keep
      slot := I.base.slot
      free := fun b u e n hx => by
        by_cases hb : b = a
        · subst hb; exact absurd (h0 u e) hx
        · rw [upd_ne hb]; exact I.base.free b u e n hx
      there := I.base.there
      tups := fun b xs q => by rw [upd_ne (ne_of_none (I.base.tups b xs q) na)]; exact I.base.tups b xs q
      frzs := fun b u x q => by rw [upd_ne (ne_of_none (I.base.frzs b u x q) na)]; exact I.base.frzs b u x q
      tbls := fun b ps q => by
        obtain ⟨more, hm⟩ := I.base.tbls b ps q
        exact ⟨more, by rw [upd_ne (ne_of_none hm na)]; exact hm⟩ }
  loc := I.loc
  cell := I.cell
  free := by rw [upd_ne nL.symm]; exact I.free
  freeC := fun x c e => by rw [upd_ne (nC x c e)]; exact I.freeC x c e
  pin := fun p hp => by
    obtain ⟨h1, h2, h3⟩ := I.pin p hp
    exact ⟨h1, by rw [upd_ne (np p hp)]; exact h2, h3⟩
  hok := fun b u e => by
    by_cases hb : b = a
    · subst hb; rw [upd_same] at e; cases e; exact new
    · rw [upd_ne hb] at e
      exact (I.hok b u e).stay (fun _ _ _ q => q) (fun c q => by rw [upd_ne (ne_of_none q na)]; exact q) fun c xs q => by rw [upd_ne (ne_of_none q na)]; exact q
  len := I.len
/-- what the clause wishes of an error of the body: as in wAs, and behind the suite the error stays told -/
def wHold (K : PySem.W.Frag) (c : Value) (i : Nat) (ts : Addr → Value → Option Addr → TS) (Wout : WX) (D : Ends) : WX := fun cls d σ H =>
  ∃ b, PySem.W.exmOne K cls c = some b ∧ (b = true → ∀ a, H a = none → ts a cls d { nx := fun σ' H' => H' a = none → D.nx (σ'.set i none) (upd H' a (eOb a cls d)), rt := D.rt, bk := fun σ' H' => D.bk (σ'.set i none) H', ct := fun σ' H' => D.ct (σ'.set i none) H' } (σ.set i (some (.ref a))) H) ∧ (b = false → Wout cls d σ H)
variable {x n : Str} {c : Value} {i : Nat} {body suite : List Stmt} {b₀ : Stmt} {np pos pos' : Pos} {tb : WX → TS} {ts : Addr → Value → Option Addr → TS} {Wout : WX}
theorem ps_try_hold (hs : X.stack = X.env :: X.outer) (hf : X.env.frame = some X.env.locals) (hN : X.N.Nodup) (hi : X.N[i]? = some n) (hln : X.env.kindOf n = some .local) (hc : Names X x c) (tk : Takes X Wout)
    (hb : ∀ (W : WX) (pn : List (Addr × Obj)) (xe : Value → Shared → Prop), Takes (X.tr pn xe) W → PassesOwn (model X.prog X.w) X.A X.env xe → PSs (X.tr pn xe) body (tb W)) (hsu : ∀ (a : Addr) (oe : Obj) (cls : Value) (d : Option Addr) (pn : List (Addr × Obj)), Zc cls d oe → (∃ vs, oe.data = .fields vs) → PSs (X.suite a ((a, oe) :: pn)) (b₀ :: suite) (ts a cls d)) :
    PS X (.Try body [.ExceptHandler (some (.Name x np)) (some n) (b₀ :: suite) pos'] [] [] pos) (fun D σ H => tb (wHold X.K c i ts Wout D) D σ H) := by
  refine ⟨fun pins s σ H D I h => ?_⟩
  have ok := I.ok
  have frm : X.A.frames = some (X.env :: X.outer) := by rw [ok.frames, hs]
  refine wpAny_Try_except (wpAny_mono ((hb (wHold X.K c i ts Wout D) (X.pn ++ pins) (fun e s₁ => wpAny (model X.prog X.w) X.A (noteFrame e X.env) (fun _ s₂ => wpAny (model X.prog X.w) X.A (setFlight e none) (fun _ s₃ => wpAny (model X.prog X.w) X.A (handleBy e X.env [.ExceptHandler (some (.Name x np)) (some n) (b₀ :: suite) pos']) (SP X pins D) X.xe s₃) X.xe s₂) X.xe s₁) (fun u s' xx => ?_) PassesOwn.looking).run [] s σ H D (I.toTry _) h) (fun f s1 hsp => ?_) (fun e s1 he => he))
  · obtain ⟨a, B, sI, pins', σ', H', cls, d, rfl, JT, nb, up, sky, na, os, ag, b, hb1, hyes, hno⟩ := xx
    have J : Inv X pins σ' H' sI := JT.ofTry ok
    have sk : Sky B (X.env :: X.outer) a (Zc cls d) X.env.locals s'.heap := by rw [← hs]; exact sky
    show wpAny (model X.prog X.w) X.A (noteFrame (.ref a) X.env) _ _ _
    refine Sky.land Zc.steady frm hf sk fun h3 fl3 up3 => ?_
    have J3 : Inv X pins σ' H' { s' with heap := h3 } := J.landed nb fl3.1 (up.trans up3) os ag
    obtain ⟨oe3, vs3, he3, hz3, hd3⟩ := fl3.there
    have nfr : a ∉ frs (X.env :: X.outer) := fun hm => by
      obtain ⟨_, o', e', hnf⟩ := fl3.2.2.1.mem hm
      rw [he3] at e'; cases e'; exact hnf _ hd3
    have nL : a ≠ X.env.locals := fun z => nfr (List.mem_filterMap.mpr ⟨X.env, List.mem_cons_self, by rw [hf, z]⟩)
    have nF : a ∉ X.fs := fun hm => by
      obtain ⟨e, he, q⟩ := List.mem_filterMap.mp hm; exact nfr (List.mem_filterMap.mpr ⟨e, List.mem_cons_of_mem _ he, q⟩)
    have nI : ∀ u, sI.heap.get? a = some u → False := fun u e => by
      have q := nb a u e (by rw [hs]; exact nfr)
      rw [fl3.2.1] at q; cases q
    have h0 : ∀ u, X.s_0.heap.get? a = some u → a ∈ X.ex := fun u e => Classical.byContradiction fun hx => by
      obtain ⟨o', e'⟩ := J.base.there a u e hx; exact nI _ e'
    have nC : ∀ x c, X.env.cells.lookup x = some c → c ≠ a := fun x c e z => by
      obtain ⟨v, o, e', _⟩ := J.cell x c e; rw [z] at e'; exact nI _ e'
    have nP : ∀ p ∈ X.pn ++ pins, p.1 ≠ a := fun p hp z => by
      have e' := (J.pin p hp).1; rw [z] at e'; exact nI _ e'
    have S3 := J3.suite he3 hd3 na nL nF
    refine wpAny_handleBy_cons (codeAny_handlers_test ?_) (by intro q; cases q)
    have LT : PySem.W.Looks (model X.prog X.w) h3 (typeOf (.ref a)) cls := fun A Q E s k q => wpAny_typeOf_ref (k _ _ he3) (by rw [hz3.1]; exact q)
    have LM := PySem.W.exm_one (M := model X.prog X.w) (J3.kIn) LT hb1
    have test : ∀ {Q : Value → Shared → Prop} {E : Value → Shared → Prop}, Q c { s' with heap := h3 } → wpAny (model X.prog X.w) (X.A.mark (some (.ref a))) (eval (.Name x np) X.env) Q E { s' with heap := h3 } := fun {Q E} q => by
      obtain ⟨hg, hdbg, hm | ⟨hm, hv, hnn⟩⟩ := hc
      · exact ld_glob (X := X.suite a ((a, oe3) :: (X.pn ++ pins))) S3 hg hm q hdbg
      · exact ld_blt (X := X.suite a ((a, oe3) :: (X.pn ++ pins))) S3 hg hm hv q hnn hdbg
    refine test (LM.here ?_)
    cases b with
    | true =>
      refine codeAny_handlers_suite_as (HandSPX.lands_againZ fl3 fun h4 fl4 up4 => ?_)
      have J4 : Inv X pins σ' H' { s' with heap := h4 } := J.landed nb fl4.1 ((up.trans up3).trans up4) os ag
      obtain ⟨oe4, vs4, he4, hz4, hd4⟩ := fl4.there
      refine store_ok (X := X.suite a ((a, oe4) :: (X.pn ++ pins))) (v := .ref a) (J4.suite he4 hd4 na nL nF) hN hi (.inl hln) rfl (fun s5 S5 => ?_) (.inr hln)
      refine wpAny_mono ((hsu a oe4 cls d (X.pn ++ pins) hz4 ⟨_, hd4⟩).run [] s5 _ H' _ S5 (hyes rfl a na)) (fun f s6 hsp => ?_) (fun _ _ z => False.elim z)
      have tell : ∀ {σ6 : L2.St} {H6 : Hp}, Inv (X.suite a ((a, oe4) :: (X.pn ++ pins))) [] σ6 H6 s6 → H6 a = none ∧ Inv X pins σ6 (upd H6 a (eOb a cls d)) s6 := fun {σ6 H6} S6 => by
        obtain ⟨g6, n6, _⟩ := S6.pin (a, oe4) (List.mem_append_left _ List.mem_cons_self)
        exact ⟨n6, track (S6.unsuite ok) n6 h0 nL nC nP (eOb_ok g6 hz4 hd4)⟩
      cases f with
      | next =>
        obtain ⟨σ6, H6, S6, q6⟩ := hsp
        obtain ⟨n6, T6⟩ := tell S6
        exact gone_ok T6 hN hi hln fun s7 J7 => ⟨_, _, J7, q6 n6⟩
      | brk => obtain ⟨σ6, H6, S6, q6⟩ := hsp; exact gone_ok (S6.unsuite ok) hN hi hln fun s7 J7 => ⟨_, _, J7, q6⟩
      | cont => obtain ⟨σ6, H6, S6, q6⟩ := hsp; exact gone_ok (S6.unsuite ok) hN hi hln fun s7 J7 => ⟨_, _, J7, q6⟩
      | ret u => obtain ⟨v6, σ6, H6, S6, r6, q6⟩ := hsp; exact gone_ok (S6.unsuite ok) hN hi hln fun s7 J7 => ⟨_, _, _, J7, r6, q6⟩
    | false =>
      show wpAny _ X.A (handleBy (.ref a) X.env []) _ _ _
      refine wpAny_handleBy_nil ?_
      obtain ⟨_, _, _, oe, vs, T, oT, ts', he, hz, hd, h1, hr⟩ := id fl3
      unfold PySem.passOn
      refine wpAny_bind (wpAny_field he hd h1 ?_); rw [if_neg (show ¬ ((Value.ref T == Value.none) = true) from by simp)]
      have fin : wpAny (model X.prog X.w) X.A (setFlight (.ref a) X.env.frame) (fun _ s4 => wpAny (model X.prog X.w) X.A (throw (.ref a) : Sem Flow) (SP X pins D) X.xe s4) X.xe { s' with heap := h3 } := by
        rw [hf]; exact HandSPX.setFlight_upZ fl3 fun h4 hh4 up4 => wpAny_throw (tk _ _ ⟨a, B, sI, pins, σ', H', cls, d, rfl, J, nb, (up.trans up3).trans up4, .inr (.inr (by rw [hs]; exact hh4)), na, os, ag, hno rfl⟩)
      first | exact wpAny_bind (wpAny_pure (wpAny_bind fin)) | exact wpAny_bind fin
  · cases f with
    | next => obtain ⟨σ', H', J', q⟩ := hsp; exact wpAny_execs_nil ⟨σ', H', J'.ofTry ok, q⟩
    | brk => obtain ⟨σ', H', J', q⟩ := hsp; exact ⟨σ', H', J'.ofTry ok, q⟩
    | cont => obtain ⟨σ', H', J', q⟩ := hsp; exact ⟨σ', H', J'.ofTry ok, q⟩
    | ret u => obtain ⟨v, σ', H', J', r, q⟩ := hsp; exact ⟨v, σ', H', J'.ofTry ok, r, q⟩
/-! ### isinstance of an error that is held -/
def rIsH (K : PySem.W.Frag) : List V → Hp → VK → Prop := fun xs H Q => ∃ (a D : Addr) (c : V) (cv : Value) (b : Bool), xs = [.ref a, c] ∧ ExcC K D ∧ H a = some (eOb a (.ref D) none) ∧ (∀ u, RelV c u → u = cv) ∧ PySem.W.kitOne K (.ref D) cv = some b ∧ Q (.bl b) H
def rIsHt (K : PySem.W.Frag) : List V → Hp → VK → Prop := fun xs H Q => ∃ (a D tp : Addr) (cs : List V) (us : List Value) (b : Bool), xs = [.ref a, .ref tp] ∧ ExcC K D ∧ H a = some (eOb a (.ref D) none) ∧ H tp = some (.tup cs) ∧ Paired ClsV cs us ∧ PySem.W.kitAny K (.ref D) us = some b ∧ Q (.bl b) H
theorem eOb_inst {P : Program} {w : World} {h : Heap} {a D : Addr} (x : ObjOk P w H h a (eOb a (.ref D) none)) : ∃ oe, PySem.W.InstAt h a oe D none := by
  obtain ⟨⟨oe, vs, e, z, f⟩, _⟩ := x
  obtain ⟨oc, od, oda, osl⟩ := oe
  obtain ⟨h1, h2⟩ := z
  dsimp only at h1 h2 f
  subst h1 h2 f
  exact ⟨_, e, rfl, rfl, trivial⟩
theorem call_isH : CallR X (.builtin "isinstance") (rIsH X.K) := by
  intro pins s σ H xs us Q I r h
  obtain ⟨a, D, c, cv, b, rfl, C, ha, hcv, e, q⟩ := h
  obtain ⟨u1, u2, rfl, r1, r2⟩ := r.two
  cases r1
  have ec := hcv _ r2
  subst ec
  obtain ⟨oe, J⟩ := eOb_inst (I.hok a _ ha)
  exact PySem.W.kia_one (PySem.W.handS_kitx_exc C.hg C.hk C.hs C.hd C.ha C.hn C.ht C.hm) I.kIn J e (fun z => nomatch z) fun tk => ⟨.bl b, H, I.tok tk, rfl, q⟩
theorem call_isHt : CallR X (.builtin "isinstance") (rIsHt X.K) := by
  intro pins s σ H xs us Q I r h
  obtain ⟨a, D, tp, cs, ws, b, rfl, C, ha, hT, k, e, q⟩ := h
  obtain ⟨u1, u2, rfl, r1, r2⟩ := r.two
  cases r1
  cases (show u2 = Value.ref tp from r2)
  obtain ⟨oe, J⟩ := eOb_inst (I.hok a _ ha)
  obtain ⟨_, its, rv, o, h1, h2, n, h3⟩ := (show ObjOk X.prog X.w H s.heap tp (.tup cs) from I.hok tp _ hT)
  have e3 := ClsV.all k rv
  subst e3
  obtain ⟨oc, od, dt, sl⟩ := o
  simp only at h2 h3
  subst h2 h3
  exact PySem.W.kia_tup (PySem.W.handS_kitx_exc C.hg C.hk C.hs C.hd C.ha C.hn C.ht C.hm) I.kIn J h1 e (fun z => nomatch z) fun tk => ⟨.bl b, H, I.tok tk, rfl, q⟩
end
end Cm
/-! The layer of data: tuples are values, what can change stands in a store of its own. -/
namespace DD
open PySem PySem.W L2 SX Cm
inductive DV where
  | non | bl (b : Bool) | int (i : Int) | str (z : Str) | ty (n : String) | tup (xs : List DV) | ref (a : Addr)
noncomputable instance : DecidableEq DV := fun a b => Classical.propDecidable (a = b)
mutual
inductive RV (K : Frag) (H : Hp) : V → DV → Prop
  | non : RV K H .non .non
  | bl (b : Bool) : RV K H (.bl b) (.bl b)
  | int (i : Int) : RV K H (.int i) (.int i)
  | str (z : Str) : RV K H (.str z) (.str z)
  | ty (n : String) : RV K H (.ty n) (.ty n)
  | ref (a : Addr) : RV K H (.ref a) (.ref a)
  | tup {a : Addr} {xs : List V} {ds : List DV} : SqT K H a xs → RVs K H xs ds → RV K H (.ref a) (.tup ds)
inductive RVs (K : Frag) (H : Hp) : List V → List DV → Prop
  | nil : RVs K H [] []
  | cons {v : V} {vs : List V} {d : DV} {ds : List DV} : RV K H v d → RVs K H vs ds → RVs K H (v :: vs) (d :: ds)
end
mutual
theorem RV.mono {K : Frag} {H H' : Hp} (k : TKs K H H') : ∀ {v : V} {d : DV}, RV K H v d → RV K H' v d
  | _, _, .non => .non
  | _, _, .bl b => .bl b
  | _, _, .int i => .int i
  | _, _, .str z => .str z
  | _, _, .ty n => .ty n
  | _, _, .ref a => .ref a
  | _, _, .tup h t => .tup (k _ _ h) (RVs.mono k t)
theorem RVs.mono {K : Frag} {H H' : Hp} (k : TKs K H H') : ∀ {v : List V} {d : List DV}, RVs K H v d → RVs K H' v d
  | _, _, .nil => .nil
  | _, _, .cons h t => .cons (RV.mono k h) (RVs.mono k t)
end
section
variable {K : Frag} {H H' : Hp}
theorem RVs.len : ∀ {v : List V} {d : List DV}, RVs K H v d → v.length = d.length
  | _, _, .nil => rfl
  | _, _, .cons _ t => congrArg (· + 1) (RVs.len t)
theorem RVs.append : ∀ {v v' : List V} {d d' : List DV}, RVs K H v d → RVs K H v' d' → RVs K H (v ++ v') (d ++ d')
  | _, _, _, _, .nil, h => h
  | _, _, _, _, .cons h t, h' => .cons h (RVs.append t h')
theorem RVs.get : ∀ {v : List V} {d : List DV} {i : Nat} {y : DV}, RVs K H v d → d[i]? = some y → ∃ x, v[i]? = some x ∧ RV K H x y
  | _, _, _, _, .nil, e => by simp at e
  | _, _, 0, _, .cons h t, e => by cases e; exact ⟨_, rfl, h⟩
  | _, _, i + 1, _, .cons h t, e => RVs.get (i := i) t (by simpa using e)
theorem RVs.getV : ∀ {v : List V} {d : List DV} {i : Nat} {x : V}, RVs K H v d → v[i]? = some x → ∃ y, d[i]? = some y ∧ RV K H x y
  | _, _, _, _, .nil, e => by simp at e
  | _, _, 0, _, .cons h t, e => by cases e; exact ⟨_, rfl, h⟩
  | _, _, i + 1, _, .cons h t, e => RVs.getV (i := i) t (by simpa using e)
theorem RVs.drop : ∀ (n : Nat) {v : List V} {d : List DV}, RVs K H v d → RVs K H (v.drop n) (d.drop n)
  | 0, _, _, h => h
  | _ + 1, _, _, .nil => .nil
  | n + 1, _, _, .cons _ t => RVs.drop n t
theorem RVs.take : ∀ (n : Nat) {v : List V} {d : List DV}, RVs K H v d → RVs K H (v.take n) (d.take n)
  | 0, _, _, _ => .nil
  | _ + 1, _, _, .nil => .nil
  | n + 1, _, _, .cons h t => .cons h (RVs.take n t)
theorem RVs.reverse : ∀ {v : List V} {d : List DV}, RVs K H v d → RVs K H v.reverse d.reverse
  | _, _, .nil => .nil
  | _, _, .cons h t => by rw [List.reverse_cons, List.reverse_cons]; exact (RVs.reverse t).append (.cons h .nil)
theorem RVs.set {x : V} {y : DV} (r : RV K H x y) : ∀ {v : List V} {d : List DV} (i : Nat), RVs K H v d → RVs K H (v.set i x) (d.set i y)
  | _, _, _, .nil => .nil
  | _, _, 0, .cons _ t => .cons r t
  | _, _, i + 1, .cons h t => .cons h (RVs.set r i t)
theorem RVs.eraseIdx : ∀ {v : List V} {d : List DV} (i : Nat), RVs K H v d → RVs K H (v.eraseIdx i) (d.eraseIdx i)
  | _, _, _, .nil => .nil
  | _, _, 0, .cons _ t => t
  | _, _, i + 1, .cons h t => .cons h (RVs.eraseIdx i t)
theorem RVs.dropLast : ∀ {v : List V} {d : List DV}, RVs K H v d → RVs K H v.dropLast d.dropLast
  | _, _, .nil => .nil
  | _, _, .cons h .nil => .nil
  | _, _, .cons h (.cons h' t) => .cons h (RVs.dropLast (.cons h' t))
theorem RVs.isEmpty {v : List V} {d : List DV} (h : RVs K H v d) : v.isEmpty = d.isEmpty := by cases h <;> rfl
theorem RVs.ints : ∀ (ns : List Int), RVs K H (ns.map V.int) (ns.map DV.int)
  | [] => .nil
  | n :: r => .cons (.int n) (RVs.ints r)
theorem RVs.strs' : ∀ (ns : List Str), RVs K H (ns.map V.str) (ns.map DV.str)
  | [] => .nil
  | n :: r => .cons (.str n) (RVs.strs' r)
theorem RV.tupD {v : V} {ds : List DV} (h : RV K H v (.tup ds)) : ∃ a xs, v = .ref a ∧ SqT K H a xs ∧ RVs K H xs ds := by
  cases h with
  | tup a b => exact ⟨_, _, rfl, a, b⟩
end
/-! ### the store -/
inductive DO where
  | lst (xs : List DV)
  /-- a list that is only read -/
  | ro (xs : List DV)
  | dct (kvs : List (Key × DV))
  /-- a list of one number, whatever it is -/
  | cnt
  /-- a tuple kept as the object that was made -/
  | ptp (ds : List DV)
  /-- an instance of the class at C, its attributes -/
  | obj (C : Addr) (fs : List (Str × DV))
  /-- a caught error of this class -/
  | err (cls : Value)
  /-- what is true of the objects at L, the first of which it is -/
  | abs (L : List Addr) (φ : Hp → Prop)
abbrev DG := Addr → Option DO
def dupd (G : DG) (a : Addr) (o : DO) : DG := fun b => if b = a then some o else G b
theorem dupd_same {G : DG} {a : Addr} {o : DO} : dupd G a o a = some o := if_pos rfl
theorem dupd_ne {G : DG} {a b : Addr} {o : DO} (h : b ≠ a) : dupd G a o b = G b := if_neg h
theorem dupd_dupd {G : DG} {a : Addr} {o o' : DO} : dupd (dupd G a o) a o' = dupd G a o' := by
  funext b; unfold dupd; split <;> rfl
inductive KRV (K : Frag) (H : Hp) : List (Key × V) → List (Key × DV) → Prop
  | nil : KRV K H [] []
  | cons {k : Key} {v : V} {d : DV} {vs : List (Key × V)} {ds : List (Key × DV)} : RV K H v d → KRV K H vs ds → KRV K H ((k, v) :: vs) ((k, d) :: ds)
theorem KRV.mono {K : Frag} {H H' : Hp} (k : TKs K H H') {vs : List (Key × V)} {ds : List (Key × DV)} (h : KRV K H vs ds) : KRV K H' vs ds := by
  induction h with
  | nil => exact .nil
  | cons h _ ih => exact .cons (h.mono k) ih
inductive FRV (K : Frag) (H : Hp) : List (Str × V) → List (Str × DV) → Prop
  | nil : FRV K H [] []
  | cons {k : Str} {v : V} {d : DV} {vs : List (Str × V)} {ds : List (Str × DV)} : RV K H v d → FRV K H vs ds → FRV K H ((k, v) :: vs) ((k, d) :: ds)
theorem FRV.mono {K : Frag} {H H' : Hp} (k : TKs K H H') {vs : List (Str × V)} {ds : List (Str × DV)} (h : FRV K H vs ds) : FRV K H' vs ds := by
  induction h with
  | nil => exact .nil
  | cons h _ ih => exact .cons (h.mono k) ih
def OR (K : Frag) (H : Hp) (O : Addr → Option Addr) (a : Addr) : DO → Prop
  | .lst ds => ∃ xs, H a = some (.lst xs) ∧ RVs K H xs ds
  | .ro ds => ∃ xs, Rd H a (.lst xs) ∧ RVs K H xs ds
  | .dct kvs => ∃ ks, H a = some (.dK ks) ∧ KRV K H ks kvs
  | .cnt => ∃ n : Int, H a = some (.lst [.int n])
  | .ptp ds => ∃ o xs, o.dict = Option.none ∧ H a = some (.frz o (.tup xs)) ∧ RVs K H xs ds
  | .obj C fs => ∃ dx vs, H a = some (.ins C dx vs) ∧ FRV K H vs fs
  | .err cls => H a = some (eOb a cls Option.none)
  | .abs L φ => a ∈ L ∧ (∃ xs, H a = some (.lst xs)) ∧ φ H ∧ (∀ H1 H2, (∀ b ∈ L, H1 b = H2 b) → φ H1 → φ H2) ∧ ∀ b ∈ L, b ≠ a → O b = some a
/-- the store stands in the heap; O: who owns what does not stand in the store -/
structure WdO (K : Frag) (H : Hp) (O : Addr → Option Addr) (G : DG) : Prop where
  own : ∀ b a, O b = some a → G b = none ∧ ∃ xs, H b = some (.lst xs)
  ob : ∀ a o, G a = some o → OR K H O a o
def Wd (K : Frag) (H : Hp) (G : DG) : Prop := ∃ O, WdO K H O G
section
variable {K : Frag} {H H' : Hp} {G G' : DG} {O : Addr → Option Addr} {a p : Addr} {o : DO}
theorem OR.some (h : OR K H O a o) : ∃ u, H a = some u := by
  cases o with
  | lst ds => obtain ⟨xs, e, _⟩ := h; exact ⟨_, e⟩
  | ro ds =>
    obtain ⟨xs, e | ⟨o, e⟩, _⟩ := h
    · exact ⟨_, e⟩
    · exact ⟨_, e⟩
  | dct kvs => obtain ⟨xs, e, _⟩ := h; exact ⟨_, e⟩
  | cnt => obtain ⟨xs, e⟩ := h; exact ⟨_, e⟩
  | ptp ds => obtain ⟨_, _, _, e, _⟩ := h; exact ⟨_, e⟩
  | obj C fs => obtain ⟨_, _, e, _⟩ := h; exact ⟨_, e⟩
  | err cls => exact ⟨_, h⟩
  | abs L φ => obtain ⟨xs, e⟩ := h.2.1; exact ⟨_, e⟩
theorem WdO.free (w : WdO K H O G) (n : H p = none) : G p = none ∧ O p = none := by
  refine ⟨?_, ?_⟩
  · cases e : G p with
    | none => rfl
    | some o => obtain ⟨u, h⟩ := (w.ob p o e).some; rw [n] at h; cases h
  · cases e : O p with
    | none => rfl
    | some o => obtain ⟨_, xs, h⟩ := w.own p o e; rw [n] at h; cases h
theorem Wd.free (w : Wd K H G) (n : H p = none) : G p = none := by
  obtain ⟨O, w⟩ := w
  exact (w.free n).1
/-- what stays of an object where its addresses stay -/
theorem OR.keep (w : WdO K H O G) (t : TKs K H H') (e : G a = Option.some o) (h : ∀ b, (b = a ∨ O b = Option.some a) → H' b = H b) : OR K H' O a o := by
  have x := w.ob a o e
  have ha : H' a = H a := h a (.inl rfl)
  cases o with
  | lst ds => obtain ⟨xs, e, r⟩ := x; exact ⟨xs, by rw [ha]; exact e, r.mono t⟩
  | ro ds =>
    obtain ⟨xs, e | ⟨o, e⟩, r⟩ := x
    · exact ⟨xs, .inl (by rw [ha]; exact e), r.mono t⟩
    · exact ⟨xs, .inr ⟨o, by rw [ha]; exact e⟩, r.mono t⟩
  | dct kvs => obtain ⟨ks, e, r⟩ := x; exact ⟨ks, by rw [ha]; exact e, r.mono t⟩
  | cnt => obtain ⟨n, e⟩ := x; exact ⟨n, by rw [ha]; exact e⟩
  | ptp ds => obtain ⟨u, xs, d, e, r⟩ := x; exact ⟨u, xs, d, by rw [ha]; exact e, r.mono t⟩
  | obj C fs => obtain ⟨dx, vs, e, r⟩ := x; exact ⟨dx, vs, by rw [ha]; exact e, r.mono t⟩
  | err cls => show H' a = _; rw [ha]; exact x
  | abs L φ =>
    obtain ⟨m, ⟨u, hu⟩, hφ, loc, ow⟩ := x
    refine ⟨m, ⟨u, by rw [ha]; exact hu⟩, loc H H' (fun b hb => ?_) hφ, loc, ow⟩
    by_cases hba : b = a
    · rw [hba]; exact ha.symm
    · exact (h b (.inr (ow b hb hba))).symm
theorem Wd.same (w : Wd K H G) (s : Same H H') : Wd K H' G := by
  obtain ⟨O, w⟩ := w
  refine ⟨O, ⟨fun b a e => ?_, fun a o e => OR.keep w (TKs.of s) e fun b hb => ?_⟩⟩
  · obtain ⟨h1, xs, h2⟩ := w.own b a e
    exact ⟨h1, xs, s _ _ h2⟩
  · obtain ⟨u, hu⟩ : ∃ u, H b = Option.some u := by
      rcases hb with rfl | hb
      · exact (w.ob _ o e).some
      · obtain ⟨_, xs, h⟩ := w.own b a hb; exact ⟨_, h⟩
    rw [hu, s _ _ hu]
/-- less is known -/
def Sub (G G' : DG) : Prop := ∀ a o, G a = Option.some o → G' a = Option.some o
theorem Sub.refl (G : DG) : Sub G G := fun _ _ h => h
theorem Sub.trans {A B C : DG} (h : Sub A B) (g : Sub B C) : Sub A C := fun a o e => g a o (h a o e)
theorem Sub.new (h : Sub G G') (n : G p = none) : Sub G (dupd G' p o) := fun a u e => by
  rw [dupd_ne (fun z => by rw [z, n] at e; cases e)]; exact h a u e
theorem Sub.set (h : Sub G G') : Sub (dupd G p o) (dupd G' p o) := fun a u e => by
  by_cases z : a = p
  · subst z; rw [dupd_same] at e ⊢; exact e
  · rw [dupd_ne z] at e ⊢; exact h a u e
theorem Wd.sub (w : Wd K H G') (s : Sub G G') : Wd K H G := by
  obtain ⟨O, w⟩ := w
  refine ⟨O, ⟨fun b a e => ⟨?_, (w.own b a e).2⟩, fun a o e => w.ob a o (s a o e)⟩⟩
  cases h : G b with
  | none => rfl
  | some u => have := s b u h; rw [(w.own b a e).1] at this; cases this
/-- the store's object at p is changed, in the heap too -/
theorem Wd.put {o' : DO} {u' : HO} (w : Wd K H G) (hp : ∃ o, G p = Option.some o ∧ ∀ L φ, o ≠ .abs L φ) (t : TKs K H (upd H p u')) (h' : ∀ O, OR K (upd H p u') O p o') : Wd K (upd H p u') (dupd G p o') := by
  obtain ⟨O, w⟩ := w
  obtain ⟨o, ep, na⟩ := hp
  have op : O p = none := by
    cases e : O p with
    | none => rfl
    | some c => have := (w.own p c e).1; rw [ep] at this; cases this
  refine ⟨O, ⟨fun b a e => ?_, fun a o1 e => ?_⟩⟩
  · obtain ⟨h1, xs, h2⟩ := w.own b a e
    have bp : b ≠ p := fun z => by rw [z, op] at e; cases e
    exact ⟨by rw [dupd_ne bp]; exact h1, xs, by rw [upd_ne bp]; exact h2⟩
  · by_cases hap : a = p
    · subst hap
      rw [dupd_same] at e
      cases e
      exact h' O
    · rw [dupd_ne hap] at e
      exact OR.keep w t e fun b hb => upd_ne (fun z => by
        rcases hb with hb | hb
        · exact hap (hb.symm.trans z)
        · rw [z, op] at hb; cases hb)
/-- a new object -/
theorem Wd.new {u : HO} (w : Wd K H G) (n : H p = none) (h : ∀ O, OR K (upd H p u) O p o) : Wd K (upd H p u) (dupd G p o) := by
  have w' := w.same (same_new n u)
  obtain ⟨O, w⟩ := w
  have fr := w.free n
  refine ⟨O, ⟨fun b a e => ?_, fun a o1 e => ?_⟩⟩
  · obtain ⟨h1, xs, h2⟩ := w.own b a e
    have bp : b ≠ p := fun z => by rw [z, fr.2] at e; cases e
    exact ⟨by rw [dupd_ne bp]; exact h1, xs, by rw [upd_ne bp]; exact h2⟩
  · by_cases hap : a = p
    · subst hap
      rw [dupd_same] at e
      cases e
      exact h O
    · rw [dupd_ne hap] at e
      exact OR.keep w (TKs.of (same_new n u)) e fun b hb => upd_ne (fun z => by
        rcases hb with hb | hb
        · exact hap (hb.symm.trans z)
        · rw [z, fr.2] at hb; cases hb)
end
end DD
namespace DD
open PySem PySem.W L2 SX Cm
abbrev DSt := List (Option DV)
abbrev DK := DV → DG → Prop
abbrev TD := DSt → DG → DK → Prop
abbrev TDT := DSt → DG → (Bool → DG → Prop) → Prop
abbrev TDA := DSt → DG → (List DV → DG → Prop) → Prop
structure DEnds where
  nx : DSt → DG → Prop
  rt : DK
  bk : DSt → DG → Prop := fun _ _ => False
  ct : DSt → DG → Prop := fun _ _ => False
abbrev TDS := DEnds → DSt → DG → Prop
/-! ### slots -/
inductive Sl (K : Frag) (H : Hp) : St → DSt → Prop
  | nil : Sl K H [] []
  | non {σ : St} {δ : DSt} : Sl K H σ δ → Sl K H (none :: σ) (none :: δ)
  | cons {v : V} {d : DV} {σ : St} {δ : DSt} : RV K H v d → Sl K H σ δ → Sl K H (some v :: σ) (some d :: δ)
section
variable {K : Frag} {H H' : Hp}
theorem Sl.mono (k : TKs K H H') {σ : St} {δ : DSt} (h : Sl K H σ δ) : Sl K H' σ δ := by
  induction h with
  | nil => exact .nil
  | non _ ih => exact .non ih
  | cons r _ ih => exact .cons (r.mono k) ih
theorem Sl.get : ∀ {σ : St} {δ : DSt} {i : Nat} {d : DV}, Sl K H σ δ → δ[i]? = some (some d) → ∃ v, σ[i]? = some (some v) ∧ RV K H v d
  | _, _, _, _, .nil, e => by simp at e
  | _, _, 0, _, .non _, e => by simp at e
  | _, _, 0, _, .cons r _, e => by simp at e; subst e; exact ⟨_, rfl, r⟩
  | _, _, i + 1, _, .non t, e => Sl.get (i := i) t (by simpa using e)
  | _, _, i + 1, _, .cons _ t, e => Sl.get (i := i) t (by simpa using e)
theorem Sl.set {v : V} {d : DV} (r : RV K H v d) : ∀ {σ : St} {δ : DSt} (i : Nat), Sl K H σ δ → Sl K H (σ.set i (some v)) (δ.set i (some d))
  | _, _, _, .nil => .nil
  | _, _, 0, .non t => .cons r t
  | _, _, 0, .cons _ t => .cons r t
  | _, _, i + 1, .non t => .non (Sl.set r i t)
  | _, _, i + 1, .cons h t => .cons h (Sl.set r i t)
theorem Sl.unset : ∀ {σ : St} {δ : DSt} (i : Nat), Sl K H σ δ → Sl K H (σ.set i none) (δ.set i none)
  | _, _, _, .nil => .nil
  | _, _, 0, .non t => .non t
  | _, _, 0, .cons _ t => .non t
  | _, _, i + 1, .non t => .non (Sl.unset i t)
  | _, _, i + 1, .cons h t => .cons h (Sl.unset i t)
theorem RVs.atI {v : List V} {d : List DV} {i : Int} {y : DV} (h : RVs K H v d) (e : L2.atI d i = some y) : ∃ x, L2.atI v i = some x ∧ RV K H x y := by
  unfold L2.atI at *
  rw [h.len]
  cases hj : ixN d.length i with
  | none => rw [hj] at e; cases e
  | some j =>
    rw [hj] at e
    obtain ⟨x, h1, h2⟩ := h.get e
    exact ⟨x, h1, h2⟩
/-- a slice -/
def cutD {α : Type} (xs : List α) (lo hi : Option Int) : List α := (xs.drop (HT.sIx xs.length 0 lo)).take (HT.sIx xs.length xs.length hi - HT.sIx xs.length 0 lo)
theorem RVs.cut {v : List V} {d : List DV} (h : RVs K H v d) (lo hi : Option Int) : RVs K H (cutV v lo hi) (cutD d lo hi) := by
  unfold cutV cutD
  rw [h.len]
  exact (h.drop _).take _
theorem cutD_all {α : Type} {xs : List α} {lo hi : Option Int} (h : HT.sIx xs.length 0 lo = 0 ∧ HT.sIx xs.length xs.length hi = xs.length) : cutD xs lo hi = xs := by
  unfold cutD
  rw [h.1, h.2, List.drop_zero, Nat.sub_zero, List.take_length]
end
/-! ### what a reading of data says of the heap -/
def Fin (K : Frag) (H : Hp) (R : DK) (Q : VK) : Prop := ∀ d G v H', R d G → TKs K H H' → Wd K H' G → RV K H' v d → Q v H'
def up (K : Frag) (t : TD) : TE := fun σ H Q => ∃ δ G R, Sl K H σ δ ∧ Wd K H G ∧ t δ G R ∧ Fin K H R Q
def upT (K : Frag) (t : TDT) : TT := fun σ H Q => ∃ δ G R, Sl K H σ δ ∧ Wd K H G ∧ t δ G R ∧ ∀ b G' H', R b G' → TKs K H H' → Wd K H' G' → Q b H'
def upA (K : Frag) (t : TDA) : TA := fun σ H Q => ∃ δ G R, Sl K H σ δ ∧ Wd K H G ∧ t δ G R ∧ ∀ ds G' vs H', R ds G' → TKs K H H' → Wd K H' G' → RVs K H' vs ds → Q vs H'
/-- the ends of data and the ends of the heap -/
structure Links (K : Frag) (H : Hp) (D' : DEnds) (D : Ends) : Prop where
  nx : ∀ σ δ G H', D'.nx δ G → TKs K H H' → Wd K H' G → Sl K H' σ δ → D.nx σ H'
  rt : ∀ d G v H', D'.rt d G → TKs K H H' → Wd K H' G → RV K H' v d → D.rt v H'
  bk : ∀ σ δ G H', D'.bk δ G → TKs K H H' → Wd K H' G → Sl K H' σ δ → D.bk σ H'
  ct : ∀ σ δ G H', D'.ct δ G → TKs K H H' → Wd K H' G → Sl K H' σ δ → D.ct σ H'
def upS (K : Frag) (t : TDS) : TS := fun D σ H => ∃ D' δ G, Sl K H σ δ ∧ Wd K H G ∧ Links K H D' D ∧ t D' δ G
section
variable {K : Frag} {H H1 : Hp}
theorem Fin.step {R : DK} {Q : VK} (f : Fin K H R Q) (t : TKs K H H1) : Fin K H1 R Q := fun d G v H' r t' w rv => f d G v H' r (t.trans t') w rv
theorem Links.step {D' : DEnds} {D : Ends} (l : Links K H D' D) (t : TKs K H H1) : Links K H1 D' D :=
  ⟨fun σ δ G H' r t' => l.nx σ δ G H' r (t.trans t'), fun d G v H' r t' => l.rt d G v H' r (t.trans t'), fun σ δ G H' r t' => l.bk σ δ G H' r (t.trans t'), fun σ δ G H' r t' => l.ct σ δ G H' r (t.trans t')⟩
end
section
variable {X : Cx}
theorem PE_mono {e : Expr} {t t' : TE} (h : PE X e t) (i : ∀ σ H Q, t' σ H Q → t σ H Q) : PE X e t' := ⟨fun pins s σ H Q I q => h.run pins s σ H Q I (i σ H Q q)⟩
theorem PT_mono {e : Expr} {t t' : TT} (h : PT X e t) (i : ∀ σ H Q, t' σ H Q → t σ H Q) : PT X e t' := ⟨fun pins s σ H Q I q => h.run pins s σ H Q I (i σ H Q q)⟩
theorem PW_mono {e : Expr} {t t' : TT} (h : PW X e t) (i : ∀ σ H Q, t' σ H Q → t σ H Q) : PW X e t' := ⟨fun wh pins s σ H Q I q => h.run wh pins s σ H Q I (i σ H Q q)⟩
theorem PA_mono {e : List Expr} {t t' : TA} (h : PA X e t) (i : ∀ σ H Q, t' σ H Q → t σ H Q) : PA X e t' := ⟨fun pos pins s σ H Q I q => h.run pos pins s σ H Q I (i σ H Q q)⟩
theorem PS_mono {e : Stmt} {t t' : TS} (h : PS X e t) (i : ∀ D σ H, t' D σ H → t D σ H) : PS X e t' := ⟨fun pins s σ H D I q => h.run pins s σ H D I (i D σ H q)⟩
theorem PSs_mono {e : List Stmt} {t t' : TS} (h : PSs X e t) (i : ∀ D σ H, t' D σ H → t D σ H) : PSs X e t' := ⟨fun pins s σ H D I q => h.run pins s σ H D I (i D σ H q)⟩
abbrev DE (X : Cx) (e : Expr) (t : TD) : Prop := PE X e (up X.K t)
abbrev DT (X : Cx) (e : Expr) (t : TDT) : Prop := PT X e (upT X.K t)
abbrev DW (X : Cx) (e : Expr) (t : TDT) : Prop := PW X e (upT X.K t)
abbrev DA (X : Cx) (e : List Expr) (t : TDA) : Prop := PA X e (upA X.K t)
abbrev DS (X : Cx) (e : Stmt) (t : TDS) : Prop := PS X e (upS X.K t)
abbrev DSs (X : Cx) (e : List Stmt) (t : TDS) : Prop := PSs X e (upS X.K t)
/-! ### names, constants -/
def dVar (i : Nat) : TD := fun δ G Q => ∃ d, δ[i]? = some (some d) ∧ Q d G
def dC (d : DV) : TD := fun _ G Q => Q d G
theorem de_var {i : Nat} {x : Str} {pos : Pos} (hN : X.N[i]? = some x) (hv : Vis X.env.scope x) (hd : (x == ("__debug__" : Str)) = false := by decide) (hcd : (x == ("__classdict__" : Str)) = false := by decide) : DE X (.Name x pos) (dVar i) :=
  PE_mono (pe_var hN hv hd hcd) fun σ H Q ⟨δ, G, R, sl, w, ⟨d, e, r⟩, f⟩ => by
    obtain ⟨v, e', rv⟩ := sl.get e
    exact ⟨v, e', f d G v H r (TKs.refl H) w rv⟩
theorem de_c {e : Expr} {v : V} {d : DV} (h : PE X e (tC v)) (r : ∀ H, RV X.K H v d) : DE X e (dC d) :=
  PE_mono h fun σ H Q ⟨δ, G, R, sl, w, q, f⟩ => f d G v H q (TKs.refl H) w (r H)
theorem de_int {i : Int} {j pos} : DE X (.Constant (.int i) j pos) (dC (.int i)) := de_c pe_int fun _ => .int i
theorem de_bl {b : Bool} {j pos} : DE X (.Constant (.bool b) j pos) (dC (.bl b)) := de_c pe_bl fun _ => .bl b
theorem de_non {j pos} : DE X (.Constant .none j pos) (dC .non) := de_c pe_non fun _ => .non
theorem de_str {x : Str} {j pos} : DE X (.Constant (.str x) j pos) (dC (.str x)) := de_c pe_str fun _ => .str x
theorem de_gstr {x : Str} {z : Str} {pos : Pos} (hm : ∃ t, X.mg x = some (.str z t)) (hg : Gl X x) (hd : (x == ("__debug__" : Str)) = false := by decide) : DE X (.Name x pos) (dC (.str z)) := by
  obtain ⟨t, hm⟩ := hm
  exact de_c (pe_glob (v := .str z) hg hm ⟨t, rfl⟩ hd) fun _ => .str z
theorem de_gint {x : Str} {z : Int} {pos : Pos} (hm : ∃ t, X.mg x = some (.int z t)) (hg : Gl X x) (hd : (x == ("__debug__" : Str)) = false := by decide) : DE X (.Name x pos) (dC (.int z)) := by
  obtain ⟨t, hm⟩ := hm
  exact de_c (pe_glob (v := .int z) hg hm ⟨t, rfl⟩ hd) fun _ => .int z
theorem de_gref {x : Str} {a : Addr} {pos : Pos} (hm : X.mg x = some (.ref a)) (hg : Gl X x) (hd : (x == ("__debug__" : Str)) = false := by decide) : DE X (.Name x pos) (dC (.ref a)) := de_c (pe_glob (v := .ref a) hg hm rfl hd) fun _ => .ref a
theorem de_ty {x : Str} {n : String} {pos : Pos} (hm : X.mg x = none) (hg : Gl X x) (hv : bootBuiltins x = some (.type n)) (hn : x ≠ "__name__" := by decide) (hd : (x == ("__debug__" : Str)) = false := by decide) : DE X (.Name x pos) (dC (.ty n)) := de_c (pe_bltn (v := .ty n) hg hm hv rfl hn hd) fun _ => .ty n
/-! ### operators -/
abbrev D2 := DV → DV → DG → DK → Prop
def dOp (b : D2) (ta tb : TD) : TD := fun δ G Q => ta δ G fun x G1 => tb δ G1 fun y G2 => b x y G2 Q
def Ok2 (K : Frag) (r : R2) (b : D2) : Prop := ∀ x y vx vy H G R Q, RV K H vx x → RV K H vy y → Wd K H G → b x y G R → Fin K H R Q → r vx vy H Q
def OpD (X : Cx) (f : Value → Value → Sem Value) (b : D2) : Prop := ∃ r, OpR X f r ∧ Ok2 X.K r b
theorem bin_up {r : R2} {b : D2} {K : Frag} (ok : Ok2 K r b) {ta tb : TD} {σ : St} {H : Hp} {Q : VK} (h : up K (dOp b ta tb) σ H Q) : tOp r (up K ta) (up K tb) σ H Q := by
  obtain ⟨δ, G, R, sl, w, q, f⟩ := h
  exact ⟨δ, G, _, sl, w, q, fun x G1 vx H1 q1 t1 w1 r1 => ⟨δ, G1, _, sl.mono t1, w1, q1, fun y G2 vy H2 q2 t2 w2 r2 => ok x y vx vy H2 G2 R Q (r1.mono t2) r2 w2 q2 (f.step (t1.trans t2))⟩⟩
theorem de_op {op : Operator} {b : D2} {e1 e2 : Expr} {ta tb : TD} {pos : Pos} (ho : OpD X (binaryOp op) b) (ha : DE X e1 ta) (hb : DE X e2 tb) : DE X (.BinOp e1 op e2 pos) (dOp b ta tb) := by
  obtain ⟨r, hr, ok⟩ := ho
  exact PE_mono (pe_op hr ha hb) fun σ H Q h => bin_up ok h
theorem de_cmp {op : CmpOp} {b : D2} {e1 e2 : Expr} {ta tb : TD} {pos : Pos} (ho : OpD X (compareOp op) b) (ha : DE X e1 ta) (hb : DE X e2 tb) (hm : behindInMarks op e2 = false) : DE X (.Compare e1 [op] [e2] pos) (dOp b ta tb) := by
  obtain ⟨r, hr, ok⟩ := ho
  exact PE_mono (pe_cmpR hr ha hb hm) fun σ H Q h => bin_up ok h
def dTest (t : TD) : TDT := fun δ G Q => t δ G fun d G' => ∃ k, d = .bl k ∧ Q k G'
theorem test_up {K : Frag} {t : TD} {σ : St} {H : Hp} {Q : Bool → Hp → Prop} (h : upT K (dTest t) σ H Q) : up K t σ H fun x H' => ∃ k, x = .bl k ∧ Q k H' := by
  obtain ⟨δ, G, R, sl, w, q, f⟩ := h
  refine ⟨δ, G, _, sl, w, q, fun d G' v H' ⟨k, e, r⟩ t' w' rv => ?_⟩
  subst e
  cases rv
  exact ⟨k, rfl, f k G' H' r t' w'⟩
theorem dt_cmp {op : CmpOp} {b : D2} {e1 e2 : Expr} {ta tb : TD} {pos : Pos} (ho : OpD X (compareOp op) b) (ha : DE X e1 ta) (hb : DE X e2 tb) (hm : behindInMarks op e2 = false) : DT X (.Compare e1 [op] [e2] pos) (dTest (dOp b ta tb)) := by
  obtain ⟨r, hr, ok⟩ := ho
  refine PT_mono (pt_cmpR hr ha hb hm) fun σ H Q h => ?_
  have := test_up h
  exact bin_up ok this
theorem Ok2.or {K : Frag} {r r' : R2} {b : D2} (h : ∀ x y vx vy H G R Q, RV K H vx x → RV K H vy y → Wd K H G → b x y G R → Fin K H R Q → r vx vy H Q ∨ r' vx vy H Q) : Ok2 K (fun x y H Q => r x y H Q ∨ r' x y H Q) b := h
/-- sums: numbers, texts, tuples, lists -/
def bAdd : D2
  | .int i, .int j, G, Q => Q (.int (i + j)) G
  | .str a, .str b, G, Q => a.length + b.length ≤ sizeLine ∧ Q (.str (a ++ b)) G
  | .tup a, .tup b, G, Q => a.length + b.length ≤ sizeLine ∧ Q (.tup (a ++ b)) G
  | .ref p, .ref q, G, Q => ∃ xs ys, G p = some (.lst xs) ∧ G q = some (.lst ys) ∧ xs.length + ys.length ≤ sizeLine ∧ ∀ r, G r = none → Q (.ref r) (dupd G r (.lst (xs ++ ys)))
  | _, _, _, _ => False
theorem od_add : OpD X (binaryOp .Add) bAdd := by
  refine ⟨_, op_add.or (op_add_str.or (op_catA.or op_cat)), fun x y vx vy H G R Q rx ry w h f => ?_⟩
  cases rx with
  | int i =>
    cases ry with
    | int j => exact .inl ⟨i, j, rfl, rfl, f _ G _ H h (TKs.refl H) w (.int _)⟩
    | _ => exact h.elim
  | str a =>
    cases ry with
    | str b => exact .inr (.inl ⟨a, b, rfl, rfl, h.1, f _ G _ H h.2 (TKs.refl H) w (.str _)⟩)
    | _ => exact h.elim
  | tup sa ra =>
    rename_i p xs ds
    cases ry with
    | tup sb rb =>
      rename_i q ys es
      obtain ⟨hl, hq⟩ := h
      refine .inr (.inr (.inl ⟨p, q, xs, ys, rfl, rfl, sa, sb, by rw [ra.len, rb.len]; exact hl, fun e => ?_, fun _ e => ?_, fun _ _ r nr => ?_⟩))
      · subst e
        cases ra
        exact f _ G _ H hq (TKs.refl H) w (.tup sb rb)
      · subst e
        cases rb
        rw [List.append_nil] at hq
        exact f _ G _ H hq (TKs.refl H) w (.tup sa ra)
      · have s := same_new nr (.tup (xs ++ ys))
        exact f _ G _ _ hq (TKs.of s) (w.same s) (.tup (SqT.of upd_same) ((ra.append rb).mono (.of s)))
    | _ => exact h.elim
  | ref p =>
    cases ry with
    | ref q =>
      obtain ⟨xs, ys, e1, e2, hl, hq⟩ := h
      obtain ⟨O, w'⟩ := id w
      obtain ⟨us, h1, r1⟩ := w'.ob p _ e1
      obtain ⟨vs, h2, r2⟩ := w'.ob q _ e2
      refine .inr (.inr (.inr ⟨p, q, us, vs, rfl, rfl, h1, h2, by rw [r1.len, r2.len]; exact hl, fun r nr => ?_⟩))
      have s := same_new nr (.lst (us ++ vs))
      exact f _ _ _ _ (hq r (w.free nr)) (TKs.of s) (w.new nr fun O => ⟨_, upd_same, (r1.append r2).mono (.of s)⟩) (.ref r)
    | _ => exact h.elim
  | _ => exact h.elim
/-- two numbers -/
def bInt (C : Int → Int → Prop) (g : Int → Int → DV) : D2
  | .int i, .int j, G, Q => C i j ∧ Q (g i j) G
  | _, _, _, _ => False
theorem od_int {op : Operator} {C : Int → Int → Prop} {g : Int → Int → Int} (h : OpR X (binaryOp op) (rI C fun i j => .int (g i j))) : OpD X (binaryOp op) (bInt C fun i j => .int (g i j)) := by
  refine ⟨_, h, fun x y vx vy H G R Q rx ry w h f => ?_⟩
  cases rx with
  | int i =>
    cases ry with
    | int j => exact ⟨i, j, rfl, rfl, h.1, f _ G _ H h.2 (TKs.refl H) w (.int _)⟩
    | _ => exact h.elim
  | _ => exact h.elim
def bSub : D2
  | .int i, .int j, G, Q => Q (.int (i - j)) G
  | _, _, _, _ => False
theorem od_sub : OpD X (binaryOp .Sub) bSub := by
  refine ⟨_, op_sub, fun x y vx vy H G R Q rx ry w h f => ?_⟩
  cases rx with
  | int i =>
    cases ry with
    | int j => exact ⟨i, j, rfl, rfl, f _ G _ H h (TKs.refl H) w (.int _)⟩
    | _ => exact h.elim
  | _ => exact h.elim
theorem od_mul : OpD X (binaryOp .Mult) (bInt CMul fun i j => .int (i * j)) := od_int op_mul
theorem od_mod : OpD X (binaryOp .Mod) (bInt (fun _ j => 0 < j) fun i j => .int (i % j)) := od_int op_mod
theorem od_fdiv : OpD X (binaryOp .FloorDiv) (bInt CDivW fun i j => .int (i / j)) := od_int op_fdivW
theorem od_pow : OpD X (binaryOp .Pow) (bInt CPow fun i j => .int (i ^ j.toNat)) := od_int op_pow
/-- comparisons of numbers and texts -/
def bCmp (g : Int → Int → Bool) (s : List Nat → List Nat → Bool) : D2
  | .int i, .int j, G, Q => Q (.bl (g i j)) G
  | .str a, .str b, G, Q => Q (.bl (s a.cps.toList b.cps.toList)) G
  | _, _, _, _ => False
theorem od_cmp {op : CmpOp} {g : Int → Int → Bool} {s : List Nat → List Nat → Bool} (h : OpR X (compareOp op) (rI0 fun i j => .bl (g i j))) (h' : OpR X (compareOp op) (fun x y H Q => ∃ i j, x = .str i ∧ y = .str j ∧ Q (.bl (s i.cps.toList j.cps.toList)) H)) : OpD X (compareOp op) (bCmp g s) := by
  refine ⟨_, h.or h', fun x y vx vy H G R Q rx ry w h f => ?_⟩
  cases rx with
  | int i =>
    cases ry with
    | int j => exact .inl ⟨i, j, rfl, rfl, f _ G _ H h (TKs.refl H) w (.bl _)⟩
    | _ => exact h.elim
  | str i =>
    cases ry with
    | str j => exact .inr ⟨i, j, rfl, rfl, f _ G _ H h (TKs.refl H) w (.bl _)⟩
    | _ => exact h.elim
  | _ => exact h.elim
theorem od_lt : OpD X (compareOp .Lt) (bCmp (fun i j => decide (i < j)) fun a b => decide (a < b)) := od_cmp op_lt op_lt_str
theorem od_le : OpD X (compareOp .LtE) (bCmp (fun i j => decide (i ≤ j)) fun a b => !decide (b < a)) := od_cmp op_le op_le_str
theorem od_gt : OpD X (compareOp .Gt) (bCmp (fun i j => decide (j < i)) fun a b => decide (b < a)) := od_cmp op_gt op_gt_str
theorem od_ge : OpD X (compareOp .GtE) (bCmp (fun i j => decide (j ≤ i)) fun a b => !decide (a < b)) := od_cmp op_ge op_ge_str
/-- is None, is True .. -/
def bIs (neg : Bool) : D2
  | x, .non, G, Q => Q (.bl (if neg then !decide (x = .non) else decide (x = .non))) G
  | .bl a, .bl b, G, Q => Q (.bl (if neg then !decide (a = b) else decide (a = b))) G
  | _, _, _, _ => False
theorem non_iff {K : Frag} {H : Hp} {v : V} {d : DV} (r : RV K H v d) : decide (v = .non) = decide (d = .non) := by
  cases r with
  | non => rw [decide_eq_true rfl, decide_eq_true rfl]
  | _ => rw [decide_eq_false (by intro z; cases z), decide_eq_false (by intro z; cases z)]
theorem od_is : OpD X (compareOp .Is) (bIs false) := by
  refine ⟨_, op_isN.or op_is_bl, fun x y vx vy H G R Q rx ry w h f => ?_⟩
  cases ry with
  | non =>
    refine .inl ⟨rfl, ?_⟩
    rw [non_iff rx]
    cases rx <;> exact f _ G _ H h (TKs.refl H) w (.bl _)
  | bl b =>
    cases rx with
    | bl a => exact .inr ⟨a, b, rfl, rfl, f _ G _ H h (TKs.refl H) w (.bl _)⟩
    | _ => exact h.elim
  | _ => cases rx <;> exact h.elim
theorem od_isnot : OpD X (compareOp .IsNot) (bIs true) := by
  refine ⟨_, op_notN.or op_isnot_bl, fun x y vx vy H G R Q rx ry w h f => ?_⟩
  cases ry with
  | non =>
    refine .inl ⟨rfl, ?_⟩
    rw [non_iff rx]
    cases rx <;> exact f _ G _ H h (TKs.refl H) w (.bl _)
  | bl b =>
    cases rx with
    | bl a => exact .inr ⟨a, b, rfl, rfl, f _ G _ H h (TKs.refl H) w (.bl _)⟩
    | _ => exact h.elim
  | _ => cases rx <;> exact h.elim
end
end DD
namespace Cm
open PySem PySem.W L2 SX PySem.Spec PyProof.Rows
section
variable {X : Cx}
/-- x in t, t a tuple of data of any depth -/
def rInTD (K : PySem.W.Frag) : R2 := fun x y H Q => ∃ d ds, Dp K H x d ∧ Dp K H y (.tuple ds) ∧ SeqAt.shaped d = true ∧ SeqAt.shaped (.tuple ds) = true ∧ Q (.bl (ds.any fun z => PyData.eqv z d)) H
def rNotInTD (K : PySem.W.Frag) : R2 := fun x y H Q => ∃ d ds, Dp K H x d ∧ Dp K H y (.tuple ds) ∧ SeqAt.shaped d = true ∧ SeqAt.shaped (.tuple ds) = true ∧ Q (.bl (!ds.any fun z => PyData.eqv z d)) H
theorem op_inTD (hu : X.A.units + 65 < cLine) : OpR X (compareOp .In) (rInTD X.K) := by
  intro pins s σ H x y v u Q I rx ry h
  obtain ⟨d, ds, hd, he, sd, se, q⟩ := h
  obtain ⟨as, r1⟩ := Dp.reads I d x v hd rx
  obtain ⟨bs, r2⟩ := Dp.reads I (.tuple ds) y u he ry
  exact SeqAt.in_tuple_reads r2 r1 (SeqAt.canLay_of_shaped se) (SeqAt.canLay_of_shaped sd) (room_in_shaped sd hu) ⟨.bl _, H, I, rfl, q⟩
theorem op_notInTD (hu : X.A.units + 65 < cLine) : OpR X (compareOp .NotIn) (rNotInTD X.K) := by
  intro pins s σ H x y v u Q I rx ry h
  obtain ⟨d, ds, hd, he, sd, se, q⟩ := h
  obtain ⟨as, r1⟩ := Dp.reads I d x v hd rx
  obtain ⟨bs, r2⟩ := Dp.reads I (.tuple ds) y u he ry
  exact SeqAt.notIn_tuple_reads r2 r1 (SeqAt.canLay_of_shaped se) (SeqAt.canLay_of_shaped sd) (room_in_shaped sd hu) ⟨.bl _, H, I, rfl, q⟩
/-- t.index(x) of a tuple of data -/
def rIndexTD (K : PySem.W.Frag) : V → List V → Hp → VK → Prop := fun x xs H Q => ∃ (a : Addr) (y : V) (d : PyData) (ds : List PyData) (j : Nat) (z : PyData), x = V.ref a ∧ xs = [y] ∧ Dp K H (V.ref a) (.tuple ds) ∧ Dp K H y d ∧
  SeqAt.shaped (.tuple ds) = true ∧ SeqAt.shaped d = true ∧ ds[j]? = some z ∧ PyData.eqv z d = true ∧ (∀ (m : Nat) (z' : PyData), m < j → ds[m]? = some z' → PyData.eqv z' d = false) ∧ Q (.int (j : Nat)) H
theorem mt_tindexD (hu : X.A.units + 65 < cLine) : MtR X "tuple.index" (rIndexTD X.K) := by
  intro pins s σ H x xs v us Q I rx rxs h
  obtain ⟨a, y, d, ds, j, z, rfl, rfl, hl, hy, sl, sd, hz, hzj, hno, q⟩ := h
  cases rx
  cases rxs with
  | cons ry rt =>
    rename_i uy ut
    cases rt
    obtain ⟨bs, r1⟩ := Dp.reads I d y uy hy ry
    have hxs : PyData.canLayAll0 ds = true := SeqAt.canLay_of_shaped sl
    have hroom : X.A.units + 1 + min (PyData.depthAll ds) d.depth < cLine := room_in_shaped sd hu
    cases hl with
    | tup hs ha =>
      obtain ⟨its, rv, pl, hlen⟩ := I.tuple hs
      obtain ⟨⟨cls, dd, dt, sls⟩, ho, hc, n, hd⟩ := pl
      simp only at hc hd
      subst hc
      subst hd
      obtain ⟨as, h4⟩ := Dp.readsAll I ds _ its ha rv
      have hn : its.length = ds.length := SeqAt.ReadsAll.length ds its as h4
      have hmap : its.map (SeqAt.readOf s.heap) = ds := SeqAt.readsAll_map ds its as hxs h4
      obtain ⟨hjd, _⟩ := List.getElem?_eq_some_iff.mp hz
      have hjl : j < its.length := by omega
      have hj : j < its.toArray.size := by simpa using hjl
      have at_ : ∀ (m : Nat) (hm : m < its.toArray.size) (z' : PyData), ds[m]? = some z' → SeqAt.readOf s.heap its.toArray[m] = z' := by
        intro m hm z' hz'
        have hml : m < its.length := by simpa using hm
        rw [← hmap, List.getElem?_map, List.getElem?_eq_getElem hml] at hz'
        have e1 : SeqAt.readOf s.heap its[m] = z' := Option.some.inj (show some (SeqAt.readOf s.heap its[m]) = some z' from hz')
        simpa using e1
      refine call_meets PySem.F.slot_tuple_index ⟨_, ho, rfl⟩ PySem.F.entry_tuple_index (PySem.F.args_tuple_index_2 _ _)
        (TI.tuple_indexAt a its.toArray n dd sls uy (fun u => PyData.eqv (SeqAt.readOf s.heap u) d) j hj ?_ ?_) ⟨ho, SeqAt.items_eqAt (vs := its.toArray) (show ReadsAll s.heap its.toArray.toList ds as from h4) r1 hxs (SeqAt.canLay_of_shaped sd) hroom, ?_⟩
      · show PyData.eqv (SeqAt.readOf s.heap its.toArray[j]) d = true
        rw [at_ j hj z hz]
        exact hzj
      · intro m hm hmj
        have hmd : m < ds.length := by omega
        have hz' : ds[m]? = some ds[m] := List.getElem?_eq_getElem hmd
        show PyData.eqv (SeqAt.readOf s.heap its.toArray[m]) d = false
        rw [at_ m hm _ hz']
        exact hno m _ hmj hz'
      · exact ⟨.int (j : Nat), H, I.tok _, ⟨_, rfl⟩, q⟩
end
end Cm
namespace DD
open PySem PySem.W L2 SX Cm
/-! ### data as the comparisons see it -/
mutual
def dat : DV → PyData
  | .non => .none
  | .bl b => .bool b
  | .int i => .int i
  | .str z => .str z
  | .tup ds => .tuple (dats ds)
  | .ref _ => .none
  | .ty _ => .none
def dats : List DV → List PyData
  | [] => []
  | d :: r => dat d :: dats r
end
mutual
/-- no reference and no type within -/
def pure_ : DV → Bool
  | .ref _ => false
  | .ty _ => false
  | .tup ds => pures ds
  | _ => true
def pures : List DV → Bool
  | [] => true
  | d :: r => pure_ d && pures r
end
mutual
/-- nor a truth -/
def plain : DV → Bool
  | .ref _ => false
  | .ty _ => false
  | .bl _ => false
  | .tup ds => plains ds
  | _ => true
def plains : List DV → Bool
  | [] => true
  | d :: r => plain d && plains r
end
mutual
theorem plain_pure : ∀ d : DV, plain d = true → pure_ d = true
  | .non, _ => rfl
  | .int _, _ => rfl
  | .str _, _ => rfl
  | .tup ds, h => plains_pure ds h
  | .bl _, h => rfl
  | .ref _, h => h
  | .ty _, h => h
theorem plains_pure : ∀ ds : List DV, plains ds = true → pures ds = true
  | [], _ => rfl
  | d :: r, h => by
    have h' : (plain d && plains r) = true := h
    rw [Bool.and_eq_true] at h'
    show (pure_ d && pures r) = true
    rw [plain_pure d h'.1, plains_pure r h'.2]; rfl
end
mutual
theorem eqv_plain : ∀ x y : DV, plain x = true → plain y = true → PyData.eqv (dat x) (dat y) = decide (x = y)
  | .non, .non, _, _ => (decide_eq_true rfl).symm
  | .int i, .int j, _, _ => by
    show (i == j) = _
    by_cases h : i = j
    · rw [h, decide_eq_true rfl, beq_self_eq_true]
    · rw [decide_eq_false (fun z => h (DV.int.inj z)), beq_eq_false_iff_ne.mpr h]
  | .str i, .str j, _, _ => by
    show (i == j) = _
    by_cases h : i = j
    · rw [h, decide_eq_true rfl, beq_self_eq_true]
    · rw [decide_eq_false (fun z => h (DV.str.inj z)), beq_eq_false_iff_ne.mpr h]
  | .tup a, .tup b, h, g => by
    show PyData.eqvAll (dats a) (dats b) = _
    rw [eqvs_plain a b h g]
    by_cases e : a = b
    · rw [e, decide_eq_true rfl, decide_eq_true rfl]
    · rw [decide_eq_false e, decide_eq_false (fun z => e (DV.tup.inj z))]
  | .non, .int _, _, _ => (decide_eq_false (by intro z; cases z)).symm
  | .non, .str _, _, _ => (decide_eq_false (by intro z; cases z)).symm
  | .non, .tup _, _, _ => (decide_eq_false (by intro z; cases z)).symm
  | .int _, .non, _, _ => (decide_eq_false (by intro z; cases z)).symm
  | .int _, .str _, _, _ => (decide_eq_false (by intro z; cases z)).symm
  | .int _, .tup _, _, _ => (decide_eq_false (by intro z; cases z)).symm
  | .str _, .non, _, _ => (decide_eq_false (by intro z; cases z)).symm
  | .str _, .int _, _, _ => (decide_eq_false (by intro z; cases z)).symm
  | .str _, .tup _, _, _ => (decide_eq_false (by intro z; cases z)).symm
  | .tup _, .non, _, _ => (decide_eq_false (by intro z; cases z)).symm
  | .tup _, .int _, _, _ => (decide_eq_false (by intro z; cases z)).symm
  | .tup _, .str _, _, _ => (decide_eq_false (by intro z; cases z)).symm
theorem eqvs_plain : ∀ x y : List DV, plains x = true → plains y = true → PyData.eqvAll (dats x) (dats y) = decide (x = y)
  | [], [], _, _ => (decide_eq_true rfl).symm
  | [], _ :: _, _, _ => (decide_eq_false (by intro z; cases z)).symm
  | _ :: _, [], _, _ => (decide_eq_false (by intro z; cases z)).symm
  | a :: r, b :: s, h, g => by
    have h' : (plain a && plains r) = true := h
    have g' : (plain b && plains s) = true := g
    rw [Bool.and_eq_true] at h' g'
    show (PyData.eqv (dat a) (dat b) && PyData.eqvAll (dats r) (dats s)) = _
    rw [eqv_plain a b h'.1 g'.1, eqvs_plain r s h'.2 g'.2]
    by_cases e : a = b
    · by_cases e' : r = s
      · rw [decide_eq_true e, decide_eq_true e', decide_eq_true (by rw [e, e'])]; rfl
      · rw [decide_eq_false e', Bool.and_false, decide_eq_false (fun z => e' (List.cons.inj z).2)]
    · rw [decide_eq_false e, Bool.false_and, decide_eq_false (fun z => e (List.cons.inj z).1)]
end
mutual
theorem RV.dp {K : Frag} {H : Hp} : ∀ {v : V} {d : DV}, RV K H v d → pure_ d = true → Dp K H v (dat d)
  | _, _, .non, _ => .non
  | _, _, .bl b, _ => .bl b
  | _, _, .int i, _ => .int i
  | _, _, .str z, _ => .str z
  | _, _, .ty n, h => by cases h
  | _, _, .ref a, h => by cases h
  | _, _, .tup s t, h => .tup s (RVs.dp t h)
theorem RVs.dp {K : Frag} {H : Hp} : ∀ {v : List V} {d : List DV}, RVs K H v d → pures d = true → DpAll K H v (dats d)
  | _, _, .nil, _ => .nil
  | _, _, .cons (d := d) (ds := ds) h t, g => by
    have g' : (pure_ d && pures ds) = true := g
    rw [Bool.and_eq_true] at g'
    exact .cons (RV.dp h g'.1) (RVs.dp t g'.2)
end
mutual
/-- how deep -/
def dpt : DV → Nat
  | .tup ds => 1 + dpts ds
  | _ => 0
def dpts : List DV → Nat
  | [] => 0
  | d :: r => max (dpt d) (dpts r)
end
mutual
/-- its texts are texts -/
def txB : DV → Bool
  | .str z => PyData.strOk z
  | .tup ds => txBs ds
  | _ => true
def txBs : List DV → Bool
  | [] => true
  | d :: r => txB d && txBs r
end
mutual
theorem lay_dat : ∀ d : DV, txB d = true → PyData.canLay0 (dat d) = true ∧ PyData.depth (dat d) ≤ dpt d
  | .non, _ => ⟨by simp only [dat, PyData.canLay0], by simp only [dat, PyData.depth]; exact Nat.zero_le _⟩
  | .bl _, _ => ⟨by simp only [dat, PyData.canLay0], by simp only [dat, PyData.depth]; exact Nat.zero_le _⟩
  | .int _, _ => ⟨by simp only [dat, PyData.canLay0], by simp only [dat, PyData.depth]; exact Nat.zero_le _⟩
  | .ref _, _ => ⟨by simp only [dat, PyData.canLay0], by simp only [dat, PyData.depth]; exact Nat.zero_le _⟩
  | .ty _, _ => ⟨by simp only [dat, PyData.canLay0], by simp only [dat, PyData.depth]; exact Nat.zero_le _⟩
  | .str z, h => ⟨by simp only [dat, PyData.canLay0]; exact h, by simp only [dat, PyData.depth]; exact Nat.zero_le _⟩
  | .tup ds, h => by
    obtain ⟨a, b⟩ := lays_dat ds h
    refine ⟨by simp only [dat, PyData.canLay0]; exact a, ?_⟩
    simp only [dat, PyData.depth, dpt]
    omega
theorem lays_dat : ∀ ds : List DV, txBs ds = true → PyData.canLayAll0 (dats ds) = true ∧ PyData.depthAll (dats ds) ≤ dpts ds
  | [], _ => ⟨by simp only [dats, PyData.canLayAll0], by simp only [dats, PyData.depthAll]; exact Nat.zero_le _⟩
  | d :: r, h => by
    have h' : (txB d && txBs r) = true := h
    rw [Bool.and_eq_true] at h'
    obtain ⟨a, b⟩ := lay_dat d h'.1
    obtain ⟨a', b'⟩ := lays_dat r h'.2
    refine ⟨by simp only [dats, PyData.canLayAll0, a, a']; rfl, ?_⟩
    simp only [dats, PyData.depthAll, dpts]
    omega
end
theorem shp {d : DV} (h : txB d = true) (l : dpt d ≤ 60) : SeqAt.shaped (dat d) = true := by
  obtain ⟨a, b⟩ := lay_dat d h
  unfold SeqAt.shaped
  rw [a, decide_eq_true (show (dat d).depth ≤ 64 by omega)]; rfl
theorem shpL {ds : List DV} (h : txBs ds = true) (l : dpts ds ≤ 60) : SeqAt.shaped (.list (dats ds)) = true := by
  obtain ⟨a, b⟩ := lays_dat ds h
  have e : (PyData.list (dats ds)).depth ≤ 64 := by simp only [PyData.depth]; omega
  unfold SeqAt.shaped
  rw [decide_eq_true e, Bool.and_true]
  simp only [PyData.canLay0]; exact a
/-- what can be compared -/
structure Cmp (d : DV) : Prop where
  pu : pure_ d = true
  tx : txB d = true
  dp : dpt d ≤ 60
structure Cmps (ds : List DV) : Prop where
  pu : pures ds = true
  tx : txBs ds = true
  dp : dpts ds ≤ 60
theorem shpT {ds : List DV} (c : Cmps ds) : SeqAt.shaped (.tuple (dats ds)) = true := by
  obtain ⟨a, b⟩ := lays_dat ds c.tx
  have l := c.dp
  have e : (PyData.tuple (dats ds)).depth ≤ 64 := by simp only [PyData.depth]; omega
  unfold SeqAt.shaped
  rw [decide_eq_true e, Bool.and_true]
  simp only [PyData.canLay0]; exact a
section
variable {X : Cx}
theorem wd_list {K : Frag} {H : Hp} {G : DG} {p : Addr} {ds : List DV} (w : Wd K H G) (e : G p = some (.lst ds)) : ∃ xs, H p = some (.lst xs) ∧ RVs K H xs ds := by
  obtain ⟨O, w⟩ := w
  exact w.ob p _ e
/-- a list that can be read -/
def Ls (G : DG) (p : Addr) (ds : List DV) : Prop := G p = some (.lst ds) ∨ G p = some (.ro ds)
theorem wd_seq {K : Frag} {H : Hp} {G : DG} {p : Addr} {ds : List DV} (w : Wd K H G) (e : Ls G p ds) : ∃ xs, SqL K H p xs ∧ RVs K H xs ds := by
  obtain ⟨O, w⟩ := w
  rcases e with e | e
  · obtain ⟨xs, h, r⟩ := w.ob p _ e
    exact ⟨xs, SqL.of h, r⟩
  · obtain ⟨xs, h, r⟩ := w.ob p _ e
    exact ⟨xs, .inl h, r⟩
/-- not, where n -/
def ng : Bool → Bool → Bool
  | true, b => !b
  | false, b => b
/-- == and != (n: !=) -/
def bEq (n : Bool) : D2
  | .str a, .str b, G, Q => Q (.bl (ng n (decide (a = b)))) G
  | .int a, .int b, G, Q => Q (.bl (ng n (decide (a = b)))) G
  | .bl a, .bl b, G, Q => Q (.bl (ng n (decide (a = b)))) G
  | .str a, .non, G, Q => Q (.bl n) G
  | .int a, .non, G, Q => Q (.bl n) G
  | .str a, .int b, G, Q => Q (.bl n) G
  | .int a, .str b, G, Q => Q (.bl n) G
  | .bl a, .str b, G, Q => Q (.bl n) G
  | .non, .str b, G, Q => Q (.bl n) G
  | .ref p, .ref q, G, Q => ∃ xs ys, Ls G p xs ∧ Ls G q ys ∧ ((n = false ∧ ys = [] ∧ Q (.bl xs.isEmpty) G) ∨ (Cmps xs ∧ Cmps ys ∧ Q (.bl (ng n (PyData.eqvAll (dats xs) (dats ys)))) G))
  | .tup a, .tup b, G, Q => (n = false ∧ b = [] ∧ Q (.bl a.isEmpty) G) ∨ (Cmps a ∧ Cmps b ∧ Q (.bl (ng n (PyData.eqvAll (dats a) (dats b)))) G)
  | x, y, G, Q => Cmp x ∧ Cmp y ∧ Q (.bl (ng n (PyData.eqv (dat x) (dat y)))) G
theorem dV_str (a b : Str) : decide (V.str a = V.str b) = decide (a = b) := by
  by_cases e : a = b
  · rw [decide_eq_true e, decide_eq_true (by rw [e])]
  · rw [decide_eq_false e, decide_eq_false (fun z => e (V.str.inj z))]
theorem dV_int (a b : Int) : decide (V.int a = V.int b) = decide (a = b) := by
  by_cases e : a = b
  · rw [decide_eq_true e, decide_eq_true (by rw [e])]
  · rw [decide_eq_false e, decide_eq_false (fun z => e (V.int.inj z))]
theorem dV_bl (a b : Bool) : decide (V.bl a = V.bl b) = decide (a = b) := by
  by_cases e : a = b
  · rw [decide_eq_true e, decide_eq_true (by rw [e])]
  · rw [decide_eq_false e, decide_eq_false (fun z => e (V.bl.inj z))]
theorem flat_up {K : Frag} {H : Hp} {G : DG} {R : DK} {Q : VK} {b : Bool} (w : Wd K H G) (f : Fin K H R Q) (h : R (.bl b) G) : Q (.bl b) H := f _ G _ H h (TKs.refl H) w (.bl b)
theorem od_eq (hu : X.A.units + 64 < cLine) : OpD X (compareOp .Eq) (bEq false) := by
  refine ⟨_, op_eq.or ((op_eqNil hu).or ((op_eqNilT hu).or (op_eqD hu))), fun x y vx vy H G R Q rx ry w h f => ?_⟩
  have gen : (Cmp x ∧ Cmp y ∧ R (.bl (ng false (PyData.eqv (dat x) (dat y)))) G) → (rEq vx vy H Q ∨ rEqNil X.K vx vy H Q ∨ rEqNilT X.K vx vy H Q ∨ rEqD X.K vx vy H Q) := fun ⟨c1, c2, q⟩ =>
    .inr (.inr (.inr ⟨_, _, rx.dp c1.pu, ry.dp c2.pu, shp c1.tx c1.dp, shp c2.tx c2.dp, flat_up w f q⟩))
  have no : decide (vx = vy) = false → scal vx vy = true → R (.bl false) G → (rEq vx vy H Q ∨ rEqNil X.K vx vy H Q ∨ rEqNilT X.K vx vy H Q ∨ rEqD X.K vx vy H Q) := fun e s q => .inl ⟨s, by rw [e]; exact flat_up w f q⟩
  cases rx with
  | str a =>
    cases ry with
    | str b => exact .inl ⟨rfl, by rw [dV_str]; exact flat_up w f h⟩
    | non => exact no (decide_eq_false (by intro z; cases z)) rfl h
    | int b => exact no (decide_eq_false (by intro z; cases z)) rfl h
    | _ => exact gen h
  | int a =>
    cases ry with
    | int b => exact .inl ⟨rfl, by rw [dV_int]; exact flat_up w f h⟩
    | non => exact no (decide_eq_false (by intro z; cases z)) rfl h
    | str b => exact no (decide_eq_false (by intro z; cases z)) rfl h
    | _ => exact gen h
  | bl a =>
    cases ry with
    | bl b => exact .inl ⟨rfl, by rw [dV_bl]; exact flat_up w f h⟩
    | str b => exact no (decide_eq_false (by intro z; cases z)) rfl h
    | _ => exact gen h
  | non =>
    cases ry with
    | str b => exact no (decide_eq_false (by intro z; cases z)) rfl h
    | _ => exact gen h
  | ty n => cases ry <;> exact gen h
  | tup s r =>
    cases ry with
    | tup s' r' =>
      rcases h with ⟨_, e, q⟩ | ⟨c1, c2, q⟩
      · subst e
        cases r'
        exact .inr (.inr (.inl ⟨_, _, _, rfl, rfl, s, s', by rw [r.isEmpty]; exact flat_up w f q⟩))
      · exact .inr (.inr (.inr ⟨_, _, .tup s (r.dp c1.pu), .tup s' (r'.dp c2.pu), shpT c1, shpT c2, flat_up w f q⟩))
    | _ => exact gen h
  | ref p =>
    cases ry with
    | ref q =>
      obtain ⟨xs, ys, l1, l2, ⟨_, e, q⟩ | ⟨c1, c2, q⟩⟩ := h
      · obtain ⟨us, h1, r1⟩ := wd_seq w l1
        obtain ⟨vs, h2, r2⟩ := wd_seq w l2
        subst e
        cases r2
        exact .inr (.inl ⟨_, _, _, rfl, rfl, h1, h2, by rw [r1.isEmpty]; exact flat_up w f q⟩)
      · obtain ⟨us, h1, r1⟩ := wd_seq w l1
        obtain ⟨vs, h2, r2⟩ := wd_seq w l2
        exact .inr (.inr (.inr ⟨_, _, .lst h1 (r1.dp c1.pu), .lst h2 (r2.dp c2.pu), shpL c1.tx c1.dp, shpL c2.tx c2.dp, flat_up w f q⟩))
    | _ => exact gen h
theorem od_ne (hu : X.A.units + 64 < cLine) : OpD X (compareOp .NotEq) (bEq true) := by
  refine ⟨_, op_ne.or (op_neD hu), fun x y vx vy H G R Q rx ry w h f => ?_⟩
  have gen : (Cmp x ∧ Cmp y ∧ R (.bl (ng true (PyData.eqv (dat x) (dat y)))) G) → (rNe vx vy H Q ∨ rNeD X.K vx vy H Q) := fun ⟨c1, c2, q⟩ =>
    .inr ⟨_, _, rx.dp c1.pu, ry.dp c2.pu, shp c1.tx c1.dp, shp c2.tx c2.dp, flat_up w f q⟩
  have no : decide (vx = vy) = false → scal vx vy = true → R (.bl true) G → (rNe vx vy H Q ∨ rNeD X.K vx vy H Q) := fun e s q => .inl ⟨s, by rw [e]; exact flat_up w f q⟩
  cases rx with
  | str a =>
    cases ry with
    | str b => exact .inl ⟨rfl, by rw [dV_str]; exact flat_up w f h⟩
    | non => exact no (decide_eq_false (by intro z; cases z)) rfl h
    | int b => exact no (decide_eq_false (by intro z; cases z)) rfl h
    | _ => exact gen h
  | int a =>
    cases ry with
    | int b => exact .inl ⟨rfl, by rw [dV_int]; exact flat_up w f h⟩
    | non => exact no (decide_eq_false (by intro z; cases z)) rfl h
    | str b => exact no (decide_eq_false (by intro z; cases z)) rfl h
    | _ => exact gen h
  | bl a =>
    cases ry with
    | bl b => exact .inl ⟨rfl, by rw [dV_bl]; exact flat_up w f h⟩
    | str b => exact no (decide_eq_false (by intro z; cases z)) rfl h
    | _ => exact gen h
  | non =>
    cases ry with
    | str b => exact no (decide_eq_false (by intro z; cases z)) rfl h
    | _ => exact gen h
  | ty n => cases ry <;> exact gen h
  | tup s r =>
    cases ry with
    | tup s' r' =>
      rcases h with ⟨e, _⟩ | ⟨c1, c2, q⟩
      · cases e
      · exact .inr ⟨_, _, .tup s (r.dp c1.pu), .tup s' (r'.dp c2.pu), shpT c1, shpT c2, flat_up w f q⟩
    | _ => exact gen h
  | ref p =>
    cases ry with
    | ref q =>
      obtain ⟨xs, ys, l1, l2, ⟨e, _⟩ | ⟨c1, c2, q⟩⟩ := h
      · cases e
      · obtain ⟨us, h1, r1⟩ := wd_seq w l1
        obtain ⟨vs, h2, r2⟩ := wd_seq w l2
        exact .inr ⟨_, _, .lst h1 (r1.dp c1.pu), .lst h2 (r2.dp c2.pu), shpL c1.tx c1.dp, shpL c2.tx c2.dp, flat_up w f q⟩
    | _ => exact gen h
/-! ### in -/
def toV : DV → V
  | .non => .non
  | .bl b => .bl b
  | .int i => .int i
  | .str z => .str z
  | _ => .ref 0
def flatD : DV → Bool
  | .non => true
  | .bl _ => true
  | .int _ => true
  | .str _ => true
  | _ => false
def inD (x : DV) (ds : List DV) : Bool := inV (toV x) (ds.map toV)
theorem toV_eq {K : Frag} {H : Hp} {v : V} {d : DV} (r : RV K H v d) (h : flatD d = true) : v = toV d ∧ flatV v = true := by
  cases r <;> first | exact ⟨rfl, rfl⟩ | cases h
theorem toVs_eq {K : Frag} {H : Hp} : ∀ {v : List V} {d : List DV}, RVs K H v d → d.all flatD = true → v = d.map toV ∧ v.all flatV = true
  | _, _, .nil, _ => ⟨rfl, rfl⟩
  | _, _, .cons r t, h => by
    rw [List.all_cons, Bool.and_eq_true] at h
    obtain ⟨a, b⟩ := toV_eq r h.1
    obtain ⟨c, e⟩ := toVs_eq t h.2
    refine ⟨by rw [a, c]; rfl, by rw [List.all_cons, b, e]; rfl⟩
def bIn (n : Bool) : D2
  | .str a, .str b, G, Q => ∃ c, a = ⟨#[c]⟩ ∧ Q (.bl (ng n (decide (c ∈ b.cps.toList)))) G
  | x, .tup ds, G, Q => flatD x = true ∧ ds.all flatD = true ∧ Q (.bl (ng n (inD x ds))) G
  | x, .ref p, G, Q => ∃ ds, Ls G p ds ∧ flatD x = true ∧ ds.all flatD = true ∧ Q (.bl (ng n (inD x ds))) G
  | _, _, _, _ => False
theorem od_in : OpD X (compareOp .In) (bIn false) := by
  refine ⟨_, op_in_sign.or op_in_seq, fun x y vx vy H G R Q rx ry w h f => ?_⟩
  cases ry with
  | str b =>
    cases rx with
    | str a => obtain ⟨c, rfl, q⟩ := h; exact .inl ⟨c, b, rfl, rfl, flat_up w f q⟩
    | _ => exact h.elim
  | tup s r =>
    rename_i qa qx qd
    have h' : flatD x = true ∧ qd.all flatD = true ∧ R (.bl (ng false (inD x qd))) G := by cases rx <;> exact h
    obtain ⟨h1, h2, q⟩ := h'
    obtain ⟨e1, e2⟩ := toV_eq rx h1
    obtain ⟨e3, e4⟩ := toVs_eq r h2
    exact .inr ⟨_, _, rfl, .inr s, e2, e4, by show Q (.bl (inV vx _)) H; rw [e1, e3]; exact flat_up w f q⟩
  | ref p =>
    have h' : ∃ ds, Ls G p ds ∧ flatD x = true ∧ ds.all flatD = true ∧ R (.bl (ng false (inD x ds))) G := by cases rx <;> exact h
    obtain ⟨ds, l, h1, h2, q⟩ := h'
    obtain ⟨us, hs, r⟩ := wd_seq w l
    obtain ⟨e1, e2⟩ := toV_eq rx h1
    obtain ⟨e3, e4⟩ := toVs_eq r h2
    exact .inr ⟨_, _, rfl, .inl hs, e2, e4, by show Q (.bl (inV vx _)) H; rw [e1, e3]; exact flat_up w f q⟩
  | _ => cases rx <;> exact h.elim
theorem od_notin : OpD X (compareOp .NotIn) (bIn true) := by
  refine ⟨_, op_notIn_sign.or op_notIn_seq, fun x y vx vy H G R Q rx ry w h f => ?_⟩
  cases ry with
  | str b =>
    cases rx with
    | str a => obtain ⟨c, rfl, q⟩ := h; exact .inl ⟨c, b, rfl, rfl, flat_up w f q⟩
    | _ => exact h.elim
  | tup s r =>
    rename_i qa qx qd
    have h' : flatD x = true ∧ qd.all flatD = true ∧ R (.bl (ng true (inD x qd))) G := by cases rx <;> exact h
    obtain ⟨h1, h2, q⟩ := h'
    obtain ⟨e1, e2⟩ := toV_eq rx h1
    obtain ⟨e3, e4⟩ := toVs_eq r h2
    exact .inr ⟨_, _, rfl, .inr s, e2, e4, by show Q (.bl (!inV vx _)) H; rw [e1, e3]; exact flat_up w f q⟩
  | ref p =>
    have h' : ∃ ds, Ls G p ds ∧ flatD x = true ∧ ds.all flatD = true ∧ R (.bl (ng true (inD x ds))) G := by cases rx <;> exact h
    obtain ⟨ds, l, h1, h2, q⟩ := h'
    obtain ⟨us, hs, r⟩ := wd_seq w l
    obtain ⟨e1, e2⟩ := toV_eq rx h1
    obtain ⟨e3, e4⟩ := toVs_eq r h2
    exact .inr ⟨_, _, rfl, .inl hs, e2, e4, by show Q (.bl (!inV vx _)) H; rw [e1, e3]; exact flat_up w f q⟩
  | _ => cases rx <;> exact h.elim
end
end DD
namespace DD
open PySem PySem.W L2 SX Cm
section
variable {X : Cx}
/-! ### x[i] -/
def bIx : D2
  | .tup ds, .int i, G, Q => ∃ d, atI ds i = some d ∧ Q d G
  | .str z, .int i, G, Q => z.length ≤ sizeLine ∧ ∃ c, atI z.cps.toList i = some c ∧ Q (.str ⟨#[c]⟩) G
  | .ref p, .int i, G, Q => (∃ ds d, Ls G p ds ∧ atI ds i = some d ∧ Q d G) ∨ (G p = some .cnt ∧ i = 0 ∧ ∀ n, Q (.int n) G)
  | _, _, _, _ => False
theorem de_ix {e1 e2 : Expr} {ta tb : TD} {pos : Pos} (ha : DE X e1 ta) (hb : DE X e2 tb) (hs : PlainIx e2 := by exact fun _ _ => rfl) : DE X (.Subscript e1 e2 pos) (dOp bIx ta tb) := by
  refine PE_mono (pe_ix (ix_seq (X := X)) ha hb hs) fun σ H Q h => bin_up (r := rIx X.K) (fun x y vx vy H G R Q rx ry w h f => ?_) h
  cases ry with
  | int i =>
    cases rx with
    | tup s r =>
      obtain ⟨d, e, q⟩ := h
      obtain ⟨v, e', rv⟩ := r.atI e
      exact .inr (.inl ⟨_, _, i, v, rfl, rfl, s, e', f _ G _ H q (TKs.refl H) w rv⟩)
    | str z =>
      obtain ⟨hl, c, e, q⟩ := h
      exact .inr (.inr ⟨z, i, c, rfl, rfl, hl, e, f _ G _ H q (TKs.refl H) w (.str _)⟩)
    | ref p =>
      rcases h with ⟨ds, d, l, e, q⟩ | ⟨l, rfl, q⟩
      · obtain ⟨us, hs, r⟩ := wd_seq w l
        obtain ⟨v, e', rv⟩ := r.atI e
        exact .inl ⟨p, us, i, v, rfl, rfl, hs, e', f _ G _ H q (TKs.refl H) w rv⟩
      · obtain ⟨O, w'⟩ := id w
        obtain ⟨n, hn⟩ := w'.ob p _ l
        exact .inl ⟨p, _, 0, .int n, rfl, rfl, SqL.of hn, atI_nat (j := 0) rfl, f _ G _ H (q n) (TKs.refl H) w (.int n)⟩
    | _ => exact h.elim
  | _ => cases rx <;> exact h.elim
/-! ### slices -/
abbrev TDO := DSt → DG → (Option Int → DG → Prop) → Prop
def upO (K : Frag) (t : TDO) : TO := fun σ H Q => ∃ δ G R, Sl K H σ δ ∧ Wd K H G ∧ t δ G R ∧ ∀ o G' H', R o G' → TKs K H H' → Wd K H' G' → Q o H'
abbrev DO_ (X : Cx) (e : Option Expr) (t : TDO) : Prop := PO X e (upO X.K t)
theorem PO_mono {e : Option Expr} {t t' : TO} (h : PO X e t) (i : ∀ σ H Q, t' σ H Q → t σ H Q) : PO X e t' := ⟨fun pins s σ H Q I q => h.run pins s σ H Q I (i σ H Q q)⟩
def dNone : TDO := fun _ G Q => Q none G
def dSome (t : TD) : TDO := fun δ G Q => t δ G fun d G' => ∃ i, d = .int i ∧ Q (some i) G'
theorem do_none : DO_ X none dNone := PO_mono po_none fun σ H Q ⟨δ, G, R, sl, w, q, f⟩ => f _ G H q (TKs.refl H) w
theorem do_some {e : Expr} {t : TD} (h : DE X e t) : DO_ X (some e) (dSome t) := PO_mono (po_some h) fun σ H Q ⟨δ, G, R, sl, w, q, f⟩ =>
  ⟨δ, G, _, sl, w, q, fun d G' v H' ⟨i, e, q⟩ t' w' rv => by subst e; cases rv; exact ⟨i, rfl, f _ G' H' q t' w'⟩⟩
def bSl : DV → Option Int → Option Int → DG → DK → Prop
  | .tup ds, lo, hi, G, Q => Q (.tup (cutD ds lo hi)) G
  | .str z, lo, hi, G, Q => z.length ≤ sizeLine ∧ Q (.str (cutS z lo hi)) G
  | .ref p, lo, hi, G, Q => ∃ ds, Ls G p ds ∧ ∀ r, G r = none → Q (.ref r) (dupd G r (.lst (cutD ds lo hi)))
  | _, _, _, _, _ => False
def dSl (te : TD) (tl th : TDO) : TD := fun δ G Q => te δ G fun x G1 => tl δ G1 fun l G2 => th δ G2 fun u G3 => bSl x l u G3 Q
theorem de_slice {e : Expr} {lo hi : Option Expr} {te : TD} {tl th : TDO} {p2 pos : Pos} (he : DE X e te) (hl : DO_ X lo tl) (hu : DO_ X hi th) : DE X (.Subscript e (.Slice lo hi none p2) pos) (dSl te tl th) := by
  refine PE_mono (pe_slice (sl_tupA.or (sl_str.or sl_list)) he hl hu) fun σ H Q ⟨δ, G, R, sl, w, q, f⟩ => ?_
  refine ⟨δ, G, _, sl, w, q, fun x G1 vx H1 q1 t1 w1 r1 => ⟨δ, G1, _, sl.mono t1, w1, q1, fun l G2 H2 q2 t2 w2 => ⟨δ, G2, _, sl.mono (t1.trans t2), w2, q2, fun u G3 H3 h t3 w => ?_⟩⟩⟩
  have f := f.step ((t1.trans t2).trans t3)
  have rx := r1.mono (t2.trans t3)
  cases rx with
  | tup s r =>
    rename_i a xs ds
    refine .inl ⟨_, _, rfl, s, fun e => ?_, fun _ p np => ?_⟩
    · rw [r.len] at e
      have h : R (.tup (cutD ds l u)) G3 := h
      rw [cutD_all e] at h
      exact f _ _ _ _ h (TKs.refl _) w (.tup s r)
    · have s' := same_new np (.tup (cutV xs l u))
      exact f _ _ _ _ h (TKs.of s') (w.same s') (.tup (SqT.of upd_same) ((r.cut l u).mono (.of s')))
  | str z => exact .inr (.inl ⟨z, rfl, h.1, f _ _ _ _ h.2 (TKs.refl _) w (.str _)⟩)
  | ref p =>
    obtain ⟨ds, ls, q⟩ := h
    obtain ⟨us, hs, r⟩ := wd_seq w ls
    refine .inr (.inr ⟨p, us, rfl, hs, fun r' nr => ?_⟩)
    have s' := same_new nr (.lst (cutV us l u))
    exact f _ _ _ _ (q r' (w.free nr)) (TKs.of s') (w.new nr fun O => ⟨_, upd_same, (r.cut l u).mono (.of s')⟩) (.ref r')
  | _ => exact h.elim
/-- t[::-1] -/
def dRev (te : TD) : TD := fun δ G Q => te δ G fun x G1 => ∃ ds, x = .tup ds ∧ Q (.tup ds.reverse) G1
theorem de_revT {e : Expr} {te : TD} {k : Nat} {p1 p2 p3 pos : Pos} (he : DE X e te) : DE X (.Subscript e (.Slice none none (some (.UnaryOp .USub (.Constant (.int 1) k p1) p2)) p3) pos) (dRev te) := by
  refine PE_mono (pe_revT he) fun σ H Q ⟨δ, G, R, sl, w, q, f⟩ => ⟨δ, G, _, sl, w, q, fun x G1 vx H1 q1 t1 w1 r1 => ?_⟩
  obtain ⟨ds, rfl, q⟩ := q1
  obtain ⟨a, xs, rfl, s, r⟩ := r1.tupD
  refine ⟨a, xs, rfl, s, fun p np => ?_⟩
  have s' := same_new np (.tup xs.reverse)
  exact f _ _ _ _ q (t1.trans (TKs.of s')) (w1.same s') (.tup (SqT.of upd_same) (r.reverse.mono (.of s')))
/-! ### tests -/
def bTru : DV → DG → (Bool → DG → Prop) → Prop
  | .non, G, Q => Q false G
  | .bl b, G, Q => Q b G
  | .int i, G, Q => Q (i != 0) G
  | .str z, G, Q => z.length ≤ sizeLine ∧ Q ((z.length : Int) != 0) G
  | .tup ds, G, Q => Q (!ds.isEmpty) G
  | .ref p, G, Q => (∃ ds, Ls G p ds ∧ Q (!ds.isEmpty) G) ∨ (∃ kvs, G p = some (.dct kvs) ∧ Q (!kvs.isEmpty) G)
  | .ty _, _, _ => False
theorem tru {b : Bool} {G : DG} {Q : Bool → DG → Prop} (h : Q b G) : bTru (.bl b) G Q := h
def dTru (t : TD) : TDT := fun δ G Q => t δ G fun d G' => bTru d G' Q
theorem KRV.isEmpty {K : Frag} {H : Hp} {v : List (Key × V)} {d : List (Key × DV)} (h : KRV K H v d) : v.isEmpty = d.isEmpty := by cases h <;> rfl
theorem dt_e {e : Expr} {t : TD} (he : DE X e t) (hp : ∀ whole, isTrue e X.env whole = (do let v ← whole; standAt e.pos; holding [v] (truthy v)) := by intro _; rfl) : DT X e (dTru t) := by
  refine PT_mono (pt_truth he hp) fun σ H Q ⟨δ, G, R, sl, w, q, f⟩ => ⟨δ, G, _, sl, w, q, fun d G' v H' h t' w' rv => ?_⟩
  cases rv with
  | non => exact ⟨_, rfl, f _ _ _ h t' w'⟩
  | bl b => exact ⟨_, rfl, f _ _ _ h t' w'⟩
  | int i => exact ⟨_, rfl, f _ _ _ h t' w'⟩
  | str z => exact ⟨_, ⟨h.1, rfl⟩, f _ _ _ h.2 t' w'⟩
  | ty n => exact h.elim
  | tup s r => exact ⟨_, .inr (.inl ⟨_, s, by rw [r.isEmpty]⟩), f _ _ _ h t' w'⟩
  | ref p =>
    rcases h with ⟨ds, l, q⟩ | ⟨kvs, l, q⟩
    · obtain ⟨us, hs, r⟩ := wd_seq w' l
      exact ⟨_, .inl ⟨_, hs, by rw [r.isEmpty]⟩, f _ _ _ q t' w'⟩
    · obtain ⟨O, wo⟩ := id w'
      obtain ⟨ks, hk, r⟩ := wo.ob p _ l
      exact ⟨_, .inr (.inr ⟨_, hk, by rw [r.isEmpty]⟩), f _ _ _ q t' w'⟩
def dAnd (t u : TDT) : TDT := fun δ G Q => t δ G fun c G1 => if c = true then u δ G1 Q else Q false G1
def dOr (t u : TDT) : TDT := fun δ G Q => t δ G fun c G1 => if c = true then Q true G1 else u δ G1 Q
def dNot (t : TDT) : TDT := fun δ G Q => t δ G fun c G1 => Q (!c) G1
variable {a b c : Expr} {rest : List Expr} {ta tb : TDT} {pos : Pos}
theorem dw_and1 (ha : DT X a ta) : DW X (.BoolOp .And [a] pos) ta := pw_and1 ha
theorem dw_or1 (ha : DT X a ta) : DW X (.BoolOp .Or [a] pos) ta := pw_or1 ha
theorem dw_and (ha : DT X a ta) (hb : DW X (.BoolOp .And (b :: rest) pos) tb) : DW X (.BoolOp .And (a :: b :: rest) pos) (dAnd ta tb) :=
  PW_mono (pw_and ha hb) fun σ H Q ⟨δ, G, R, sl, w, q, f⟩ => ⟨δ, G, _, sl, w, q, fun k G' H' h t' w' => by
    cases k with
    | true => exact iteT ⟨δ, G', R, sl.mono t', w', h, fun k2 G2 H2 q2 t2 w2 => f k2 G2 H2 q2 (t'.trans t2) w2⟩
    | false => exact iteF (f _ _ _ h t' w')⟩
theorem dw_or (ha : DT X a ta) (hb : DW X (.BoolOp .Or (b :: rest) pos) tb) : DW X (.BoolOp .Or (a :: b :: rest) pos) (dOr ta tb) :=
  PW_mono (pw_or ha hb) fun σ H Q ⟨δ, G, R, sl, w, q, f⟩ => ⟨δ, G, _, sl, w, q, fun k G' H' h t' w' => by
    cases k with
    | false => exact iteF ⟨δ, G', R, sl.mono t', w', h, fun k2 G2 H2 q2 t2 w2 => f k2 G2 H2 q2 (t'.trans t2) w2⟩
    | true => exact iteT (f _ _ _ h t' w')⟩
theorem dt_w (h : DW X a ta) : DT X a ta := PW.pt h
theorem dt_not (ha : DT X a ta) : DT X (.UnaryOp .Not a pos) (dNot ta) :=
  PT_mono (pt_not ha) fun σ H Q ⟨δ, G, R, sl, w, q, f⟩ => ⟨δ, G, _, sl, w, q, fun k G' H' h t' w' => f _ _ _ h t' w'⟩
/-! and, or, not as values: truths -/
variable {ua ub : TD}
def dAndV (t u : TD) : TD := fun δ G Q => t δ G fun x G1 => ∃ c, x = .bl c ∧ if c = true then u δ G1 Q else Q (.bl false) G1
def dOrV (t u : TD) : TD := fun δ G Q => t δ G fun x G1 => ∃ c, x = .bl c ∧ if c = true then Q (.bl true) G1 else u δ G1 Q
def dNotV (t : TD) : TD := fun δ G Q => t δ G fun x G1 => ∃ c, x = .bl c ∧ Q (.bl (!c)) G1
theorem de_one {op} (h : DE X a ua) : DE X (.BoolOp op [a] pos) ua := pe_one h
theorem de_and (ha : DE X a ua) (hb : DE X (.BoolOp .And (b :: rest) pos) ub) : DE X (.BoolOp .And (a :: b :: rest) pos) (dAndV ua ub) :=
  PE_mono (pe_and ha hb) fun σ H Q ⟨δ, G, R, sl, w, q, f⟩ => ⟨δ, G, _, sl, w, q, fun d G' v H' ⟨c, e, h⟩ t' w' rv => by
    subst e
    cases rv
    refine ⟨c, rfl, ?_⟩
    cases c with
    | true => exact iteT ⟨δ, G', R, sl.mono t', w', h, f.step t'⟩
    | false => exact iteF (f _ _ _ _ h t' w' (.bl _))⟩
theorem de_or (ha : DE X a ua) (hb : DE X (.BoolOp .Or (b :: rest) pos) ub) : DE X (.BoolOp .Or (a :: b :: rest) pos) (dOrV ua ub) :=
  PE_mono (pe_or ha hb) fun σ H Q ⟨δ, G, R, sl, w, q, f⟩ => ⟨δ, G, _, sl, w, q, fun d G' v H' ⟨c, e, h⟩ t' w' rv => by
    subst e
    cases rv
    refine ⟨c, rfl, ?_⟩
    cases c with
    | false => exact iteF ⟨δ, G', R, sl.mono t', w', h, f.step t'⟩
    | true => exact iteT (f _ _ _ _ h t' w' (.bl _))⟩
theorem de_not (ha : DE X a ua) : DE X (.UnaryOp .Not a pos) (dNotV ua) :=
  PE_mono (pe_not ha) fun σ H Q ⟨δ, G, R, sl, w, q, f⟩ => ⟨δ, G, _, sl, w, q, fun d G' v H' ⟨c, e, h⟩ t' w' rv => by
    subst e
    cases rv
    exact ⟨c, rfl, f _ _ _ _ h t' w' (.bl _)⟩⟩
def dNeg (t : TD) : TD := fun δ G Q => t δ G fun x G1 => ∃ i, x = .int i ∧ Q (.int (-i)) G1
theorem de_neg (ha : DE X a ua) : DE X (.UnaryOp .USub a pos) (dNeg ua) :=
  PE_mono (pe_un un_neg ha) fun σ H Q ⟨δ, G, R, sl, w, q, f⟩ => ⟨δ, G, _, sl, w, q, fun d G' v H' ⟨c, e, h⟩ t' w' rv => by
    subst e
    cases rv
    exact ⟨c, rfl, f _ _ _ _ h t' w' (.int _)⟩⟩
def dIf (t : TDT) (u v : TD) : TD := fun δ G Q => t δ G fun c G1 => if c = true then u δ G1 Q else v δ G1 Q
theorem de_if (hc : DT X c ta) (ha : DE X a ua) (hb : DE X b ub) : DE X (.IfExp c a b pos) (dIf ta ua ub) :=
  PE_mono (pe_ifExp hc ha hb) fun σ H Q ⟨δ, G, R, sl, w, q, f⟩ => ⟨δ, G, _, sl, w, q, fun k G' H' h t' w' => by
    cases k with
    | true => exact iteT ⟨δ, G', R, sl.mono t', w', h, f.step t'⟩
    | false => exact iteF ⟨δ, G', R, sl.mono t', w', h, f.step t'⟩⟩
/-! ### arguments, displays -/
def dNil : TDA := fun _ G Q => Q [] G
def dCons (t : TD) (u : TDA) : TDA := fun δ G Q => t δ G fun x G1 => u δ G1 fun xs G2 => Q (x :: xs) G2
variable {e : Expr} {es : List Expr} {te : TD} {ts : TDA}
theorem da_nil : DA X [] dNil := PA_mono pa_nil fun σ H Q ⟨δ, G, R, sl, w, q, f⟩ => f _ _ _ _ q (TKs.refl _) w .nil
theorem da_cons (ha : DE X e te) (hr : DA X es ts) (hs : starEach (e :: es) X.env = (false, eval e X.env) :: starEach es X.env := by rfl) : DA X (e :: es) (dCons te ts) :=
  PA_mono (pa_cons ha hr hs) fun σ H Q ⟨δ, G, R, sl, w, q, f⟩ => ⟨δ, G, _, sl, w, q, fun d G1 v H1 h1 t1 w1 r1 => ⟨δ, G1, _, sl.mono t1, w1, h1, fun ds G2 vs H2 h2 t2 w2 r2 => f _ _ _ _ h2 (t1.trans t2) w2 (.cons (r1.mono t2) r2)⟩⟩
def dTup (t : TDA) : TD := fun δ G Q => t δ G fun ds G1 => ds.length ≤ sizeLine ∧ Q (.tup ds) G1
def dLst (t : TDA) : TD := fun δ G Q => t δ G fun ds G1 => ds.length ≤ sizeLine ∧ ∀ p, G1 p = none → Q (.ref p) (dupd G1 p (.lst ds))
theorem de_tup {x1} (h : DA X es ts) : DE X (.Tuple es x1 pos) (dTup ts) :=
  PE_mono (pe_tup h) fun σ H Q ⟨δ, G, R, sl, w, q, f⟩ => ⟨δ, G, _, sl, w, q, fun ds G1 vs H1 h1 t1 w1 r1 => ⟨by rw [r1.len]; exact h1.1, fun p np => by
    have s' := same_new np (.tup vs)
    exact f _ _ _ _ h1.2 (t1.trans (TKs.of s')) (w1.same s') (.tup (SqT.of upd_same) (r1.mono (.of s')))⟩⟩
theorem de_lst (h : DA X es ts) : DE X (.List es pos) (dLst ts) :=
  PE_mono (pe_lst h) fun σ H Q ⟨δ, G, R, sl, w, q, f⟩ => ⟨δ, G, _, sl, w, q, fun ds G1 vs H1 h1 t1 w1 r1 => ⟨by rw [r1.len]; exact h1.1, fun p np => by
    have s' := same_new np (.lst vs)
    exact f _ _ _ _ (h1.2 p (w1.free np)) (t1.trans (TKs.of s')) (w1.new np fun O => ⟨_, upd_same, r1.mono (.of s')⟩) (.ref p)⟩⟩
/-! ### calls of builtins -/
abbrev DC := List DV → DG → DK → Prop
def CallD (X : Cx) (f : Value) (b : DC) : Prop := ∃ r, CallR X f r ∧ ∀ ds vs H G R Q, RVs X.K H vs ds → Wd X.K H G → b ds G R → Fin X.K H R Q → r vs H Q
def dCB (b : DC) (t : TDA) : TD := fun δ G Q => t δ G fun ds G1 => b ds G1 Q
theorem de_callB {x : Str} {id : String} {b : DC} {p pos : Pos} (hc : CallD X (.builtin id) b) (hm : X.mg x = none) (hg : Gl X x) (hv : bootBuiltins x = some (.builtin id)) (ha : DA X (e :: es) ts) (hn : x ≠ "__name__" := by decide) (hdb : (x == ("__debug__" : Str)) = false := by decide)
    (he : starEach (e :: es) X.env = (false, eval e X.env) :: starEach es X.env := by rfl) (hpl : (backTo pos (starEach es X.env)).any (·.1) = false := by rfl) : DE X (.Call (.Name x p) (e :: es) [] pos) (dCB b ts) := by
  obtain ⟨r, hr, ok⟩ := hc
  exact PE_mono (pe_callB hr hg hm hv ha hn hdb he hpl) fun σ H Q ⟨δ, G, R, sl, w, q, f⟩ => ⟨δ, G, _, sl, w, q, fun ds G1 vs H1 h1 t1 w1 r1 => ok ds vs H1 G1 R Q r1 w1 h1 (f.step t1)⟩
theorem de_callTy {x : Str} {T : String} {b : DC} {p pos : Pos} (hc : CallD X (.type T) b) (hm : X.mg x = none) (hg : Gl X x) (hv : bootBuiltins x = some (.type T)) (ha : DA X (e :: es) ts) (hn : x ≠ "__name__" := by decide) (hdb : (x == ("__debug__" : Str)) = false := by decide)
    (he : starEach (e :: es) X.env = (false, eval e X.env) :: starEach es X.env := by rfl) (hpl : (backTo pos (starEach es X.env)).any (·.1) = false := by rfl) : DE X (.Call (.Name x p) (e :: es) [] pos) (dCB b ts) := by
  obtain ⟨r, hr, ok⟩ := hc
  exact PE_mono (pe_callTy hr hg hm hv ha hn hdb he hpl) fun σ H Q ⟨δ, G, R, sl, w, q, f⟩ => ⟨δ, G, _, sl, w, q, fun ds G1 vs H1 h1 t1 w1 r1 => ok ds vs H1 G1 R Q r1 w1 h1 (f.step t1)⟩
end
end DD
namespace DD
open PySem PySem.W L2 SX Cm
section
variable {X : Cx}
/-! ### builtins -/
def bLen : DC
  | [.tup ds], G, Q => Q (.int ds.length) G
  | [.str z], G, Q => z.length ≤ sizeLine ∧ Q (.int z.length) G
  | [.ref p], G, Q => (∃ ds, Ls G p ds ∧ Q (.int ds.length) G) ∨ (∃ kvs, G p = some (.dct kvs) ∧ Q (.int kvs.length) G)
  | _, _, _ => False
theorem KRV.len {K : Frag} {H : Hp} {v : List (Key × V)} {d : List (Key × DV)} (h : KRV K H v d) : v.length = d.length := by
  induction h with
  | nil => rfl
  | cons _ _ ih => exact congrArg (· + 1) ih
theorem cd_len : CallD X (.builtin "len") bLen := by
  refine ⟨_, call_len_seq.or (call_len_str.or call_lenD), fun ds vs H G R Q r w h f => ?_⟩
  cases r with
  | nil => exact h.elim
  | cons rv rt =>
    cases rt with
    | cons _ _ => cases rv <;> exact h.elim
    | nil =>
      cases rv with
      | tup s r => exact .inl ⟨_, _, rfl, .inr s, by rw [r.len]; exact f _ _ _ _ h (TKs.refl H) w (.int _)⟩
      | str z => exact .inr (.inl ⟨z, rfl, h.1, f _ _ _ _ h.2 (TKs.refl H) w (.int _)⟩)
      | ref p =>
        rcases h with ⟨ds, l, q⟩ | ⟨kvs, l, q⟩
        · obtain ⟨us, hs, r⟩ := wd_seq w l
          exact .inl ⟨p, us, rfl, .inl hs, by rw [r.len]; exact f _ _ _ _ q (TKs.refl H) w (.int _)⟩
        · obtain ⟨O, wo⟩ := id w
          obtain ⟨ks, hk, r⟩ := wo.ob p _ l
          exact .inr (.inr ⟨p, ks, rfl, hk, by rw [r.len]; exact f _ _ _ _ q (TKs.refl H) w (.int _)⟩)
      | _ => exact h.elim
/-- the type of a value, where it is known -/
def tyN : DV → String
  | .non => "NoneType"
  | .bl _ => "bool"
  | .int _ => "int"
  | .str _ => "str"
  | .tup _ => "tuple"
  | .ty _ => "type"
  | .ref _ => "object"
/-- isinstance of built-in types -/
def tyB (a t : String) : Bool := a == t || (a == "bool" && t == "int")
def tysK : List String := ["tuple", "str", "int", "bool", "list", "dict"]
theorem kit_tab : ∀ a ∈ ["NoneType", "bool", "int", "str", "tuple", "list", "dict"], ∀ t ∈ tysK, kitB a t = some (tyB a t) := by decide +kernel
def TyAt (G : DG) : DV → String → Prop
  | .ref p, a => (a = "list" ∧ (G p = some .cnt ∨ (∃ ds, Ls G p ds))) ∨ (a = "dict" ∧ ∃ kvs, G p = some (.dct kvs))
  | .ty _, _ => False
  | d, a => a = tyN d
def bIsi : DC
  | [x, .ty t], G, Q => t ∈ tysK ∧ ∃ a b, TyAt G x a ∧ tyB a t = b ∧ Q (.bl b) G
  | _, _, _ => False
theorem ty_of {K : Frag} {H : Hp} {G : DG} {v : V} {d : DV} {a : String} (w : Wd K H G) (r : RV K H v d) (h : TyAt G d a) : TyX K H v (.type a) ∧ a ∈ ["NoneType", "bool", "int", "str", "tuple", "list", "dict"] := by
  cases r with
  | non => cases h; exact ⟨.base .non, by decide⟩
  | bl b => cases h; exact ⟨.base (.bl b), by show "bool" ∈ _; decide⟩
  | int i => cases h; exact ⟨.base (.int i), by show "int" ∈ _; decide⟩
  | str z => cases h; exact ⟨.base (.str z), by show "str" ∈ _; decide⟩
  | tup s r => cases h; exact ⟨tyTup s, by show "tuple" ∈ _; decide⟩
  | ty n => exact h.elim
  | ref p =>
    rcases h with ⟨rfl, h⟩ | ⟨rfl, kvs, h⟩
    · refine ⟨?_, by decide⟩
      obtain ⟨O, w⟩ := w
      rcases h with h | ⟨ds, h | h⟩
      · obtain ⟨n, e⟩ := w.ob p _ h; exact .base (.lst e)
      · obtain ⟨n, e, _⟩ := w.ob p _ h; exact .base (.lst e)
      · obtain ⟨n, e | ⟨o, e⟩, _⟩ := w.ob p _ h
        · exact .base (.lst e)
        · exact .base (.frz e)
    · obtain ⟨O, w⟩ := w
      obtain ⟨n, e, _⟩ := w.ob p _ h
      exact ⟨.base (.dK e), by decide⟩
theorem cd_isi : CallD X (.builtin "isinstance") bIsi := by
  refine ⟨_, call_isi, fun ds vs H G R Q r w h f => ?_⟩
  cases r with
  | nil => exact h.elim
  | cons rv rt =>
    cases rt with
    | nil => exact h.elim
    | cons rv2 rt =>
      cases rt with
      | cons _ _ => cases rv2 <;> exact h.elim
      | nil =>
        cases rv2 with
        | ty t =>
          obtain ⟨ht, a, b, ha, rfl, q⟩ := h
          obtain ⟨h1, h2⟩ := ty_of w rv ha
          exact ⟨_, _, _, _, _, rfl, .ty t, h1, kit_ty (kit_tab a h2 t ht), flat_up w f q⟩
        | _ => exact h.elim
def bInt1 : DC
  | [.int i], G, Q => Q (.int i) G
  | [.bl k], G, Q => Q (.int (if k = true then 1 else 0)) G
  | _, _, _ => False
theorem cd_int : CallD X (.type "int") bInt1 := by
  refine ⟨_, call_int1, fun ds vs H G R Q r w h f => ?_⟩
  cases r with
  | nil => exact h.elim
  | cons rv rt =>
    cases rt with
    | cons _ _ => cases rv <;> exact h.elim
    | nil =>
      cases rv with
      | int i => exact .inl ⟨i, rfl, f _ _ _ _ h (TKs.refl H) w (.int _)⟩
      | bl k => exact .inr ⟨k, rfl, f _ _ _ _ h (TKs.refl H) w (.int _)⟩
      | _ => exact h.elim
def bStr1 : DC
  | [.int i], G, Q => i.natAbs.log2 < 1920 ∧ Q (.str (toString i)) G
  | _, _, _ => False
theorem cd_str : CallD X (.type "str") bStr1 := by
  refine ⟨_, call_str_int, fun ds vs H G R Q r w h f => ?_⟩
  cases r with
  | nil => exact h.elim
  | cons rv rt =>
    cases rt with
    | cons _ _ => cases rv <;> exact h.elim
    | nil =>
      cases rv with
      | int i => exact ⟨i, rfl, h.1, f _ _ _ _ h.2 (TKs.refl H) w (.str _)⟩
      | _ => exact h.elim
def bTuple : DC
  | [.tup ds], G, Q => Q (.tup ds) G
  | [.ref p], G, Q => ∃ ds, Ls G p ds ∧ Q (.tup ds) G
  | _, _, _ => False
theorem cd_tuple : CallD X (.type "tuple") bTuple := by
  refine ⟨_, call_tuple_of, fun ds vs H G R Q r w h f => ?_⟩
  cases r with
  | nil => exact h.elim
  | cons rv rt =>
    cases rt with
    | cons _ _ => cases rv <;> exact h.elim
    | nil =>
      cases rv with
      | tup s r => exact ⟨_, _, rfl, .inr ⟨s, f _ _ _ _ h (TKs.refl H) w (.tup s r)⟩⟩
      | ref p =>
        obtain ⟨ds, l, q⟩ := h
        obtain ⟨us, hs, r⟩ := wd_seq w l
        refine ⟨p, us, rfl, .inl ⟨hs, fun l nl => ?_⟩⟩
        have s' := same_new nl (.tup us)
        exact f _ _ _ _ q (TKs.of s') (w.same s') (.tup (SqT.of upd_same) (r.mono (.of s')))
      | _ => exact h.elim
def bList : DC
  | [.tup ds], G, Q => ∀ r, G r = none → Q (.ref r) (dupd G r (.lst ds))
  | [.ref p], G, Q => ∃ ds, Ls G p ds ∧ ∀ r, G r = none → Q (.ref r) (dupd G r (.lst ds))
  | _, _, _ => False
theorem cd_list : CallD X (.type "list") bList := by
  refine ⟨_, call_list_of, fun ds vs H G R Q r w h f => ?_⟩
  cases r with
  | nil => exact h.elim
  | cons rv rt =>
    cases rt with
    | cons _ _ => cases rv <;> exact h.elim
    | nil =>
      cases rv with
      | tup s r =>
        rename_i a xs ds
        refine ⟨_, _, rfl, .inr s, fun l nl => ?_⟩
        have s' := same_new nl (.lst xs)
        exact f _ _ _ _ (h l (w.free nl)) (TKs.of s') (w.new nl fun O => ⟨_, upd_same, r.mono (.of s')⟩) (.ref l)
      | ref p =>
        obtain ⟨ds, l, q⟩ := h
        obtain ⟨us, hs, r⟩ := wd_seq w l
        refine ⟨p, us, rfl, .inl hs, fun l nl => ?_⟩
        have s' := same_new nl (.lst us)
        exact f _ _ _ _ (q l (w.free nl)) (TKs.of s') (w.new nl fun O => ⟨_, upd_same, r.mono (.of s')⟩) (.ref l)
      | _ => exact h.elim
theorem RVs.bls {K : Frag} {H : Hp} : ∀ {v : List V} {bs : List Bool}, RVs K H v (bs.map DV.bl) → v = bs.map V.bl
  | _, [], .nil => rfl
  | _, b :: r, .cons h t => by cases h; rw [RVs.bls t]; rfl
def bAll : DC
  | [.ref p], G, Q => ∃ bs : List Bool, Ls G p (bs.map DV.bl) ∧ Q (.bl (bs.all id)) G
  | _, _, _ => False
def bAny : DC
  | [.ref p], G, Q => ∃ bs : List Bool, Ls G p (bs.map DV.bl) ∧ Q (.bl (bs.any id)) G
  | _, _, _ => False
theorem cd_all (hc : X.calm = true) : CallD X (.builtin "all") bAll := by
  refine ⟨_, cr_all hc, fun ds vs H G R Q r w h f => ?_⟩
  cases r with
  | nil => exact h.elim
  | cons rv rt =>
    cases rt with
    | cons _ _ => cases rv <;> exact h.elim
    | nil =>
      cases rv with
      | ref p =>
        obtain ⟨bs, l, q⟩ := h
        obtain ⟨us, hs, r⟩ := wd_seq w l
        rw [r.bls] at hs
        exact ⟨p, bs, rfl, hs, flat_up w f q⟩
      | _ => exact h.elim
theorem cd_any (hc : X.calm = true) : CallD X (.builtin "any") bAny := by
  refine ⟨_, cr_any hc, fun ds vs H G R Q r w h f => ?_⟩
  cases r with
  | nil => exact h.elim
  | cons rv rt =>
    cases rt with
    | cons _ _ => cases rv <;> exact h.elim
    | nil =>
      cases rv with
      | ref p =>
        obtain ⟨bs, l, q⟩ := h
        obtain ⟨us, hs, r⟩ := wd_seq w l
        rw [r.bls] at hs
        exact ⟨p, bs, rfl, hs, flat_up w f q⟩
      | _ => exact h.elim
/-! ### methods -/
abbrev DM := DV → List DV → DG → DK → Prop
def rcv (T : String) (x : DV) (G : DG) : Prop := match x with
  | .str _ => T = "str"
  | .ref p => (T = "list" ∧ ∃ ds, Ls G p ds) ∨ (T = "dict" ∧ ∃ kvs, G p = some (.dct kvs))
  | _ => False
theorem rcv_ok {K : Frag} {H : Hp} {G : DG} {T : String} {x : DV} {v : V} (w : Wd K H G) (r : RV K H v x) (h : rcv T x G) : tyV K T v H := by
  cases r with
  | str z => exact h
  | ref p =>
    rcases h with ⟨rfl, ds, l⟩ | ⟨rfl, kvs, l⟩
    · obtain ⟨us, hs, _⟩ := wd_seq w l
      exact .inl ⟨rfl, us, hs⟩
    · obtain ⟨O, w⟩ := w
      obtain ⟨ks, e, _⟩ := w.ob p _ l
      exact .inr (.inr (.inl ⟨rfl, .inl ⟨ks, e⟩⟩))
  | _ => exact h.elim
def MtD (X : Cx) (id : String) (b : DM) : Prop := ∃ r, MtR X id r ∧ ∀ x ds vx vs H G R Q, RV X.K H vx x → RVs X.K H vs ds → Wd X.K H G → b x ds G R → Fin X.K H R Q → r vx vs H Q
def dBM (T : String) (b : DM) (to : TD) (t : TDA) : TD := fun δ G Q => to δ G fun x G1 => rcv T x G1 ∧ t δ G1 fun ds G2 => b x ds G2 Q
def dBM0 (T : String) (b : DM) (to : TD) : TD := fun δ G Q => to δ G fun x G1 => rcv T x G1 ∧ b x [] G1 Q
variable {o e : Expr} {es : List Expr} {to : TD} {t : TDA} {name : Str} {apos cpos : Pos} {T id : String} {b : DM}
theorem de_bm (pa : PlainAttrs T) (slot : Slot T name id) (hty : typeOf (.builtin id) = pure (.type "method_descriptor")) (hm : MtD X id b) (ho : DE X o to) (ha : DA X (e :: es) t)
    (hbase : attributeBase o name X.env (eval o X.env) = eval o X.env := by rfl)
    (hfew : ((backTo cpos (starEach (e :: es) X.env)).all (fun x => !x.1) && (backToKw cpos (keywordEach [] X.env)).all (fun x => x.1.isSome)
      && decide ((e :: es).length + ([] : List Keyword).length + (if ([] : List Keyword).isEmpty then 0 else 1) < 30)) = true := by rfl)
    (hline : (apos.endLine == cpos.line) = true := by rfl) (hs : starEach (e :: es) X.env = (false, eval e X.env) :: starEach es X.env := by rfl) (hplain : (backTo cpos (starEach es X.env)).any (·.1) = false := by rfl) :
    DE X (.Call (.Attribute o name apos) (e :: es) [] cpos) (dBM T b to t) := by
  obtain ⟨r, hr, ok⟩ := hm
  refine PE_mono (pe_bm pa slot hty hr ho ha hbase hfew hline hs hplain) fun σ H Q ⟨δ, G, R, sl, w, q, f⟩ => ⟨δ, G, _, sl, w, q, fun x G1 vx H1 h1 t1 w1 r1 => ⟨rcv_ok w1 r1 h1.1, δ, G1, _, sl.mono t1, w1, h1.2, fun ds G2 vs H2 h2 t2 w2 r2 => ?_⟩⟩
  exact ok x ds vx vs H2 G2 R Q (r1.mono t2) r2 w2 h2 (f.step (t1.trans t2))
theorem de_bm0 (pa : PlainAttrs T) (slot : Slot T name id) (hty : typeOf (.builtin id) = pure (.type "method_descriptor")) (hm : MtD X id b) (ho : DE X o to)
    (hbase : attributeBase o name X.env (eval o X.env) = eval o X.env := by rfl) (hline : (apos.endLine == cpos.line) = true := by rfl) : DE X (.Call (.Attribute o name apos) [] [] cpos) (dBM0 T b to) := by
  obtain ⟨r, hr, ok⟩ := hm
  exact PE_mono (pe_bm0 pa slot hty hr ho hbase hline) fun σ H Q ⟨δ, G, R, sl, w, q, f⟩ => ⟨δ, G, _, sl, w, q, fun x G1 vx H1 h1 t1 w1 r1 => ⟨rcv_ok w1 r1 h1.1, ok x [] vx [] H1 G1 R Q r1 .nil w1 h1.2 (f.step t1)⟩⟩
/-- a change of one of the store's lists -/
theorem put_lst {K : Frag} {H : Hp} {G : DG} {p : Addr} {ds es : List DV} {xs ys : List V} (w : Wd K H G) (e : G p = some (.lst ds)) (h : H p = some (.lst xs)) (r : RVs K H ys es) : TKs K H (upd H p (.lst ys)) ∧ Wd K (upd H p (.lst ys)) (dupd G p (.lst es)) := by
  have t : TKs K H (upd H p (.lst ys)) := TKs.lst h
  exact ⟨t, w.put ⟨_, e, fun L φ z => by cases z⟩ t fun O => ⟨ys, upd_same, r.mono t⟩⟩
def bAppend : DM := fun x ds G Q => ∃ p xs y, x = .ref p ∧ ds = [y] ∧ G p = some (.lst xs) ∧ xs.length < sizeLine ∧ Q .non (dupd G p (.lst (xs ++ [y])))
theorem md_append : MtD X "list.append" bAppend := by
  refine ⟨_, mt_append, fun x ds vx vs H G R Q rx rs w h f => ?_⟩
  obtain ⟨p, xs, y, rfl, rfl, e, hl, q⟩ := h
  cases rx
  cases rs with
  | cons ry rt =>
    cases rt
    obtain ⟨us, hu, r⟩ := wd_list w e
    obtain ⟨t, w'⟩ := put_lst (es := xs ++ [y]) w e hu (r.append (.cons ry .nil))
    exact ⟨p, us, _, rfl, rfl, hu, by rw [r.len]; exact hl, f _ _ _ _ q t w' .non⟩
def bPop : DM := fun x ds G Q => ∃ p xs y, x = .ref p ∧ ds = [] ∧ G p = some (.lst (xs ++ [y])) ∧ Q y (dupd G p (.lst xs))
theorem md_pop : MtD X "list.pop" bPop := by
  refine ⟨_, mt_pop, fun x ds vx vs H G R Q rx rs w h f => ?_⟩
  obtain ⟨p, xs, y, rfl, rfl, e, q⟩ := h
  cases rx
  cases rs
  obtain ⟨us, hu, r⟩ := wd_list w e
  have l := r.len
  rw [List.length_append, List.length_singleton] at l
  obtain ⟨v, hv, rv⟩ := r.get (i := us.length - 1) (y := y) (by rw [l, Nat.add_sub_cancel, List.getElem?_append_right (Nat.le_refl _), Nat.sub_self]; rfl)
  have rd := r.dropLast
  rw [List.dropLast_concat] at rd
  obtain ⟨t, w'⟩ := put_lst w e hu rd
  exact ⟨p, us, v, rfl, rfl, hu, hv, f _ _ _ _ q t w' (rv.mono t)⟩
def bExt : DM := fun x ds G Q => ∃ p xs zs, x = .ref p ∧ G p = some (.lst xs) ∧ (ds = [.tup zs] ∨ ∃ q, ds = [.ref q] ∧ G q = some (.lst zs)) ∧ xs.length + zs.length ≤ sizeLine ∧ Q .non (dupd G p (.lst (xs ++ zs)))
theorem md_extend : MtD X "list.extend" bExt := by
  refine ⟨_, MtR.or mt_extend mt_extT, fun x ds vx vs H G R Q rx rs w h f => ?_⟩
  obtain ⟨p, xs, zs, rfl, e, hd, hl, q⟩ := h
  cases rx
  obtain ⟨us, hu, r⟩ := wd_list w e
  rcases hd with rfl | ⟨q', rfl, e'⟩
  · cases rs with
    | cons ry rt =>
      cases rt
      obtain ⟨a, ys, rfl, s, r'⟩ := ry.tupD
      obtain ⟨t, w'⟩ := put_lst w e hu (r.append r')
      exact .inr ⟨p, a, us, ys, rfl, rfl, hu, s, by rw [r.len, r'.len]; exact hl, f _ _ _ _ q t w' .non⟩
  · cases rs with
    | cons ry rt =>
      cases rt
      cases ry
      obtain ⟨ys, hy, r'⟩ := wd_list w e'
      obtain ⟨t, w'⟩ := put_lst w e hu (r.append r')
      exact .inl ⟨p, q', us, ys, rfl, rfl, hu, hy, by rw [r.len, r'.len]; exact hl, f _ _ _ _ q t w' .non⟩
end
end DD
namespace DD
open PySem PySem.W L2 SX Cm
section
variable {X : Cx}
/-! ### blocks -/
def dNext : TDS := fun D δ G => D.nx δ G
def dSeq (t u : TDS) : TDS := fun D δ G => t { D with nx := u D } δ G
variable {st : Stmt} {rest : List Stmt} {t u : TDS}
theorem dss_nil : DSs X [] dNext := PSs_mono pss_nil fun D σ H ⟨D', δ, G, sl, w, l, h⟩ => l.nx σ δ G H h (TKs.refl H) w sl
theorem seq_up {K : Frag} {D : Ends} {σ : St} {H : Hp} (h : upS K (dSeq t u) D σ H) : tSeq (upS K t) (upS K u) D σ H := by
  obtain ⟨D', δ, G, sl, w, l, h⟩ := h
  exact ⟨{ D' with nx := u D' }, δ, G, sl, w, ⟨fun σ1 δ1 G1 H1 q t1 w1 s1 => ⟨D', δ1, G1, s1, w1, l.step t1, q⟩, l.rt, l.bk, l.ct⟩, h⟩
theorem dss_cons (h1 : DS X st t) (h2 : DSs X rest u) : DSs X (st :: rest) (dSeq t u) := PSs_mono (pss_cons h1 h2) fun D σ H h => seq_up h
theorem dss_one (h1 : DS X st t) : DSs X [st] t := pss_one h1
/-- a middle assertion behind the first statement -/
def dCut (t u : TDS) : TDS := fun D δ G => ∃ Mid : DSt → DG → Prop, t { D with nx := Mid } δ G ∧ ∀ δ' G', Mid δ' G' → u D δ' G'
theorem dss_cut (h1 : DS X st t) (h2 : DSs X rest u) : DSs X (st :: rest) (dCut t u) := PSs_mono (pss_cons h1 h2) fun D σ H ⟨D', δ, G, sl, w, l, Mid, h, g⟩ =>
  ⟨{ D' with nx := Mid }, δ, G, sl, w, ⟨fun σ1 δ1 G1 H1 q t1 w1 s1 => ⟨D', δ1, G1, s1, w1, l.step t1, g _ _ q⟩, l.rt, l.bk, l.ct⟩, h⟩
def dNever : TDS := fun _ _ _ => False
theorem dss_never {sts : List Stmt} : DSs X sts dNever := PSs_mono pss_never fun D σ H ⟨_, _, _, _, _, _, h⟩ => h
theorem ds_pass {pos : Pos} : DS X (.Pass pos) dNext := PS_mono ps_pass fun D σ H ⟨D', δ, G, sl, w, l, h⟩ => l.nx σ δ G H h (TKs.refl H) w sl
def dBreak : TDS := fun D δ G => D.bk δ G
def dCont : TDS := fun D δ G => D.ct δ G
theorem ds_break {pos : Pos} : DS X (.Break pos) dBreak := PS_mono ps_break fun D σ H ⟨D', δ, G, sl, w, l, h⟩ => l.bk σ δ G H h (TKs.refl H) w sl
theorem ds_continue {pos : Pos} : DS X (.Continue pos) dCont := PS_mono ps_continue fun D σ H ⟨D', δ, G, sl, w, l, h⟩ => l.ct σ δ G H h (TKs.refl H) w sl
def dDrop (te : TD) : TDS := fun D δ G => te δ G fun _ G1 => D.nx δ G1
theorem ds_expr {e : Expr} {te : TD} {pos : Pos} (he : DE X e te) (hs : swapsWith e none pos.line X.env = pure false := by rfl) : DS X (.Expr e pos) (dDrop te) :=
  PS_mono (ps_expr he hs) fun D σ H ⟨D', δ, G, sl, w, l, h⟩ => ⟨δ, G, _, sl, w, h, fun d G1 v H1 q t1 w1 _ => l.nx σ δ G1 H1 q t1 w1 (sl.mono t1)⟩
def dRet (te : TD) : TDS := fun D δ G => te δ G D.rt
theorem ds_ret {e : Expr} {te : TD} {pos : Pos} (he : DE X e te) : DS X (.Return (some e) pos) (dRet te) :=
  PS_mono (ps_ret he) fun D σ H ⟨D', δ, G, sl, w, l, h⟩ => ⟨δ, G, _, sl, w, h, fun d G1 v H1 q t1 w1 r1 => l.rt d G1 v H1 q t1 w1 r1⟩
def dRetN : TDS := fun D _ G => D.rt .non G
theorem ds_retN {pos : Pos} : DS X (.Return none pos) dRetN := PS_mono ps_retN fun D σ H ⟨D', δ, G, sl, w, l, h⟩ => l.rt _ G _ H h (TKs.refl H) w .non
def dIfS (c : TDT) (t u : TDS) : TDS := fun D δ G => c δ G fun b G1 => if b = true then t D δ G1 else u D δ G1
theorem ds_if {c : Expr} {a b : List Stmt} {tc : TDT} {pos : Pos} (hc : DT X c tc) (ha : DSs X a t) (hb : DSs X b u) : DS X (.If c a b pos) (dIfS tc t u) :=
  PS_mono (ps_if hc ha hb) fun D σ H ⟨D', δ, G, sl, w, l, h⟩ => ⟨δ, G, _, sl, w, h, fun k G1 H1 q t1 w1 => by
    cases k with
    | true => exact iteT ⟨D', δ, G1, sl.mono t1, w1, l.step t1, q⟩
    | false => exact iteF ⟨D', δ, G1, sl.mono t1, w1, l.step t1, q⟩⟩
/-! ### targets -/
abbrev TDG := DV → DSt → DG → (DSt → DG → Prop) → Prop
abbrev TDGs := List DV → DSt → DG → (DSt → DG → Prop) → Prop
def FinG (K : Frag) (H : Hp) (R : DSt → DG → Prop) (Q : St → Hp → Prop) : Prop := ∀ δ G σ H', R δ G → TKs K H H' → Wd K H' G → Sl K H' σ δ → Q σ H'
theorem FinG.step {K : Frag} {H H1 : Hp} {R : DSt → DG → Prop} {Q : St → Hp → Prop} (f : FinG K H R Q) (t : TKs K H H1) : FinG K H1 R Q := fun δ G σ H' r t' => f δ G σ H' r (t.trans t')
def upG (K : Frag) (g : TDG) : TG := fun v σ H Q => ∃ d δ G R, RV K H v d ∧ Sl K H σ δ ∧ Wd K H G ∧ g d δ G R ∧ FinG K H R Q
def upGs (K : Frag) (g : TDGs) : TGs := fun vs σ H Q => ∃ ds δ G R, RVs K H vs ds ∧ Sl K H σ δ ∧ Wd K H G ∧ g ds δ G R ∧ FinG K H R Q
abbrev DGt (X : Cx) (e : Expr) (g : TDG) : Prop := PG X e (upG X.K g)
abbrev DGs (X : Cx) (e : List Expr) (g : TDGs) : Prop := PGs X e (upGs X.K g)
theorem PG_mono {e : Expr} {t t' : TG} (h : PG X e t) (i : ∀ v σ H Q, t' v σ H Q → t v σ H Q) : PG X e t' := ⟨fun pins s σ H v u Q I r q => h.run pins s σ H v u Q I r (i v σ H Q q)⟩
theorem PGs_mono {e : List Expr} {t t' : TGs} (h : PGs X e t) (i : ∀ v σ H Q, t' v σ H Q → t v σ H Q) : PGs X e t' := ⟨fun pins s σ H v u Q I r q => h.run pins s σ H v u Q I r (i v σ H Q q)⟩
def gN (i : Nat) : TDG := fun d δ G Q => Q (δ.set i (some d)) G
theorem dg_name {i : Nat} {x : Str} {pos : Pos} (hN : X.N.Nodup) (hi : X.N[i]? = some x) (hx : Loc X.env.scope x) (hf : X.fn x = true ∨ X.env.scope.names.lookup x = some .local := by first | exact .inl rfl | exact .inr rfl | assumption) : DGt X (.Name x pos) (gN i) :=
  PG_mono (pg_name hN hi hx hf) fun v σ H Q ⟨d, δ, G, R, r, sl, w, h, f⟩ => f _ _ _ _ h (TKs.refl H) w (sl.set r i)
def gN0 : TDGs := fun ds δ G Q => ds = [] ∧ Q δ G
def gNC (t : TDG) (u : TDGs) : TDGs := fun ds δ G Q => ∃ d r, ds = d :: r ∧ t d δ G fun δ' G' => u r δ' G' Q
theorem dgs_nil : DGs X [] gN0 := PGs_mono pgs_nil fun vs σ H Q ⟨ds, δ, G, R, r, sl, w, ⟨e, h⟩, f⟩ => by
  subst e
  cases r
  exact ⟨rfl, f _ _ _ _ h (TKs.refl H) w sl⟩
theorem dgs_cons {e : Expr} {es : List Expr} {t : TDG} {u : TDGs} (h1 : DGt X e t) (h2 : DGs X es u)
    (hs : (assignEach (e :: es) X.env).map (·.2) = assign e X.env :: (assignEach es X.env).map (·.2) := by rfl) : DGs X (e :: es) (gNC t u) := PGs_mono (pgs_cons h1 h2 hs) fun vs σ H Q ⟨ds, δ, G, R, r, sl, w, ⟨d, rs, e, h⟩, f⟩ => by
  subst e
  cases r with
  | cons rv rt => exact ⟨_, _, rfl, d, δ, G, _, rv, sl, w, h, fun δ1 G1 σ1 H1 q t1 w1 s1 => ⟨rs, δ1, G1, R, rt.mono t1, s1, w1, q, f.step t1⟩⟩
def gT (n : Nat) (t : TDGs) : TDG := fun d δ G Q => ∃ ds, d = .tup ds ∧ ds.length = n ∧ t ds δ G Q
theorem dg_tup {es : List Expr} {k : Nat} {t : TDGs} {n : Nat} {pos : Pos} (hc : X.calm = true) (h : DGs X es t)
    (hn : (assignEach es X.env).length = n := by rfl) (hst : (assignEach es X.env).findIdx? (·.1) = none := by rfl) : DGt X (.Tuple es k pos) (gT n t) := PG_mono (pg_tup hc h hn hst) fun v σ H Q ⟨d, δ, G, R, r, sl, w, ⟨ds, e, l, h⟩, f⟩ => by
  subst e
  obtain ⟨a, xs, rfl, s, r⟩ := r.tupD
  exact ⟨a, xs, rfl, s, by rw [r.len]; exact l, ds, δ, G, R, r, sl, w, h, f⟩
/-- xs[i] = v -/
def bSet : DV → DV → DV → DG → (DG → Prop) → Prop
  | .ref p, .int i, v, G, Q => (∃ ds j, G p = some (.lst ds) ∧ ixN ds.length i = some j ∧ Q (dupd G p (.lst (ds.set j v)))) ∨ (G p = some .cnt ∧ i = 0 ∧ (∃ n, v = .int n) ∧ Q G)
  | _, _, _, _, _ => False
def gSb (to ti : TD) : TDG := fun v δ G Q => to δ G fun o G1 => ti δ G1 fun i G2 => bSet o i v G2 fun G3 => Q δ G3
theorem dupd_self {G : DG} {p : Addr} {o : DO} (h : G p = some o) : dupd G p o = G := by
  funext b
  by_cases e : b = p
  · rw [e, dupd_same, h]
  · rw [dupd_ne e]
theorem dg_sub {o i : Expr} {to ti : TD} {pos : Pos} (ho : DE X o to) (hi : DE X i ti)
    (ha : ∀ v, assign (.Subscript o i pos) X.env v = (do
      let ov ← holding [v] (eval o X.env)
      let iv ← holding [v, ov] (eval i X.env)
      standAt pos
      holding [v, ov, iv] (setItem ov iv v)
      release [v, ov, iv] []) := by intro _; rfl) : DGt X (.Subscript o i pos) (gSb to ti) := PG_mono (pg_sub ho hi set_list ha) fun v σ H Q ⟨d, δ, G, R, r, sl, w, h, f⟩ => by
  refine ⟨δ, G, _, sl, w, h, fun o G1 vo H1 h1 t1 w1 r1 => ⟨δ, G1, _, sl.mono t1, w1, h1, fun i G2 vi H2 h2 t2 w2 r2 => ?_⟩⟩
  have t12 := t1.trans t2
  cases r2 with
  | int i =>
    have ro := r1.mono t2
    cases ro with
    | ref p =>
      rcases h2 with ⟨ds, j, e, hj, q⟩ | ⟨e, rfl, ⟨n, rfl⟩, q⟩
      · obtain ⟨us, hu, r'⟩ := wd_list w2 e
        obtain ⟨t3, w3⟩ := put_lst w2 e hu (r'.set (r.mono t12) j)
        exact ⟨p, us, i, j, rfl, rfl, hu, by rw [r'.len]; exact hj, f _ _ _ _ q (t12.trans t3) w3 (sl.mono (t12.trans t3))⟩
      · obtain ⟨O, w'⟩ := id w2
        obtain ⟨m, hm⟩ := w'.ob p _ e
        cases r
        have t3 : TKs X.K H2 (upd H2 p (.lst [.int n])) := TKs.lst hm
        have w3 := w2.put (o' := .cnt) (u' := .lst [.int n]) ⟨_, e, fun L φ z => by cases z⟩ t3 fun O => ⟨n, upd_same⟩
        rw [dupd_self e] at w3
        exact ⟨p, _, 0, 0, rfl, rfl, hm, rfl, f _ _ _ _ q (t12.trans t3) w3 (sl.mono (t12.trans t3))⟩
    | _ => exact h2.elim
  | _ => cases (r1.mono t2) <;> exact h2.elim
def dAsg (te : TD) (g : TDG) : TDS := fun D δ G => te δ G fun d G1 => g d δ G1 D.nx
theorem asg_up {K : Frag} {te : TD} {g : TDG} {D : Ends} {σ : St} {H : Hp} (h : upS K (dAsg te g) D σ H) : tAsg (up K te) (upG K g) D σ H := by
  obtain ⟨D', δ, G, sl, w, l, h⟩ := h
  exact ⟨δ, G, _, sl, w, h, fun d G1 v H1 q t1 w1 r1 => ⟨d, δ, G1, _, r1, sl.mono t1, w1, q, fun δ2 G2 σ2 H2 q2 t2 w2 s2 => l.nx σ2 δ2 G2 H2 q2 (t1.trans t2) w2 s2⟩⟩
theorem ds_asg {tg e : Expr} {te : TD} {g : TDG} {pos : Pos} (he : DE X e te) (hg : DGt X tg g) (hs : swapsWithSole [tg] e pos.line X.env = pure false := by rfl) (hw : swappedStores [tg] e X.env = pure none := by rfl) (h1 : (assignEach [tg] X.env).map (·.2) = [assign tg X.env] := by rfl) : DS X (.Assign [tg] e pos) (dAsg te g) := PS_mono (ps_asg he hg hs hw h1) fun D σ H h => asg_up h
theorem ds_set {i : Nat} {x : Str} {e : Expr} {te : TD} {pos' pos : Pos} (hN : X.N.Nodup) (hi : X.N[i]? = some x) (hx : Loc X.env.scope x) (he : DE X e te) (hs : swapsWith e (some (.Name x pos')) pos.line X.env = pure false := by rfl) (hf : X.fn x = true ∨ X.env.scope.names.lookup x = some .local := by first | exact .inl rfl | exact .inr rfl | assumption) : DS X (.Assign [.Name x pos'] e pos) (dAsg te (gN i)) :=
  PS_mono (ps_set hN hi hx he hs hf) fun D σ H ⟨D', δ, G, sl, w, l, h⟩ => ⟨δ, G, _, sl, w, h, fun d G1 v H1 q t1 w1 r1 => l.nx _ _ G1 H1 q t1 w1 ((sl.mono t1).set r1 i)⟩
def dPar (i j : Nat) (t : TDA) : TDS := fun D δ G => t δ G fun ds G1 => ∃ a b, ds = [a, b] ∧ D.nx ((δ.set i (some a)).set j (some b)) G1
theorem ds_par {i j : Nat} {x y : Str} {a b : Expr} {ta : TDA} {px py pt pos : Pos} {kt k2 pt2} (hc : X.calm = true) (hN : X.N.Nodup) (hi : X.N[i]? = some x) (hj : X.N[j]? = some y) (hij : i ≠ j)
    (hx : X.env.scope.names.lookup x = some .local) (hy : X.env.scope.names.lookup y = some .local) (ha : DA X [a, b] ta)
    (hw : swappedStores [.Tuple [.Name x px, .Name y py] kt pt] (.Tuple [a, b] k2 pt2) X.env = pure (some [x, y]))
    (hs : swapsWithSole [.Tuple [.Name x px, .Name y py] kt pt] (.Tuple [a, b] k2 pt2) pos.line X.env = pure false := by rfl) :
    DS X (.Assign [.Tuple [.Name x px, .Name y py] kt pt] (.Tuple [a, b] k2 pt2) pos) (dPar i j ta) :=
  PS_mono (ps_par hc hN hi hj hij hx hy ha hw hs) fun D σ H ⟨D', δ, G, sl, w, l, h⟩ => ⟨δ, G, _, sl, w, h, fun ds G1 vs H1 q t1 w1 r1 => by
    obtain ⟨a, b, rfl, q⟩ := q
    cases r1 with
    | cons ra rb =>
      cases rb with
      | cons rb rn =>
        cases rn
        exact ⟨_, _, rfl, l.nx _ _ G1 H1 q t1 w1 (((sl.mono t1).set ra i).set rb j)⟩⟩
end
end DD
namespace DD
open PySem PySem.W L2 SX Cm
/-! ### what is walked: its items, and what must stay so -/
abbrev TDI := DSt → DG → (List DV → (DG → Prop) → DG → Prop) → Prop
structure JRel (K : Frag) (H0 : Hp) (J : It) (ds : List DV) (st : DG → Prop) : Prop where
  go : ∀ i H G, TKs K H0 H → Wd K H G → st G → i < ds.length → J.go i H
  yld : ∀ i H G x H', TKs K H0 H → Wd K H G → st G → i < ds.length → J.yld i H x H' → Same H H' ∧ ∃ d, ds[i]? = some d ∧ RV K H' x d
  stop : ∀ i H G, TKs K H0 H → Wd K H G → st G → i = ds.length → J.stop i H
def upI (K : Frag) (ti : TDI) : TI := fun σ H R' => ∃ δ G R, Sl K H σ δ ∧ Wd K H G ∧ ti δ G R ∧ ∀ ds st G1 H1 J, R ds st G1 → TKs K H H1 → Wd K H1 G1 → JRel K H1 J ds st → R' J H1
section
variable {X : Cx} {tg : Expr}
abbrev DI (X : Cx) (tg iter : Expr) (ti : TDI) : Prop := PI X tg iter (upI X.K ti)
theorem PI_mono {e : Expr} {t t' : TI} (h : PI X tg e t) (i : ∀ σ H R, t' σ H R → t σ H R) : PI X tg e t' := ⟨fun pins s σ H Q I q => h.run pins s σ H Q I (i σ H Q q)⟩
theorem PI_or {e : Expr} {t t' : TI} (h : PI X tg e t) (h' : PI X tg e t') : PI X tg e (fun σ H R => t σ H R ∨ t' σ H R) := ⟨fun pins s σ H Q I q => by
  rcases q with q | q
  · exact h.run pins s σ H Q I q
  · exact h'.run pins s σ H Q I q⟩
/-- over a tuple -/
def dITup (t : TD) : TDI := fun δ G R => t δ G fun d G1 => ∃ ds, d = .tup ds ∧ R ds (fun _ => True) G1
theorem di_tup {e : Expr} {t : TD} (h : DE X e t) : DI X tg e (dITup t) := PI_mono (pi_tup h) fun σ H R' ⟨δ, G, R, sl, w, q, f⟩ => ⟨δ, G, _, sl, w, q, fun d G1 v H1 ⟨ds, e, q1⟩ t1 w1 r1 => by
  subst e
  obtain ⟨a, xs, rfl, s, r⟩ := r1.tupD
  refine ⟨a, rfl, ⟨xs, s⟩, f _ _ _ _ _ q1 t1 w1 ⟨fun i H2 G2 t2 w2 _ hi => ?_, fun i H2 G2 x H3 t2 w2 _ _ y => ?_, fun i H2 G2 t2 w2 _ hi => ?_⟩⟩
  · obtain ⟨x, hx, _⟩ := r.get (List.getElem?_eq_getElem hi)
    exact ⟨xs, x, t2 _ _ s, hx⟩
  · obtain ⟨rfl, y⟩ := y
    obtain ⟨d, hd, rd⟩ := (r.mono t2).getV (y xs (t2 _ _ s))
    exact ⟨Same.refl _, d, hd, rd⟩
  · exact ⟨xs, t2 _ _ s, by rw [r.len]; exact Nat.le_of_eq hi.symm⟩⟩
/-- over a list, which stays as it is -/
def dIList (t : TD) : TDI := fun δ G R => t δ G fun d G1 => ∃ p ds, d = .ref p ∧ Ls G1 p ds ∧ R ds (fun G => Ls G p ds) G1
theorem di_list {e : Expr} {t : TD} (h : DE X e t) : DI X tg e (dIList t) := PI_mono (pi_list h) fun σ H R' ⟨δ, G, R, sl, w, q, f⟩ => ⟨δ, G, _, sl, w, q, fun d G1 v H1 ⟨p, ds, e, ls, q1⟩ t1 w1 r1 => by
  subst e
  cases r1
  obtain ⟨xs, s, r⟩ := wd_seq w1 ls
  refine ⟨p, rfl, ⟨xs, s⟩, f _ _ _ _ _ q1 t1 w1 ⟨fun i H2 G2 t2 w2 l2 hi => ?_, fun i H2 G2 x H3 t2 w2 l2 _ y => ?_, fun i H2 G2 t2 w2 l2 hi => ?_⟩⟩
  · obtain ⟨ys, s2, r2⟩ := wd_seq w2 l2
    obtain ⟨x, hx, _⟩ := r2.get (List.getElem?_eq_getElem hi)
    exact ⟨ys, x, s2, hx⟩
  · obtain ⟨rfl, y⟩ := y
    obtain ⟨ys, s2, r2⟩ := wd_seq w2 l2
    obtain ⟨d, hd, rd⟩ := r2.getV (y ys s2)
    exact ⟨Same.refl _, d, hd, rd⟩
  · obtain ⟨ys, s2, r2⟩ := wd_seq w2 l2
    exact ⟨ys, s2, by rw [r2.len]; exact Nat.le_of_eq hi.symm⟩⟩
def signs (z : Str) : List DV := z.cps.toList.map fun c => .str ⟨#[c]⟩
def dIStr (t : TD) : TDI := fun δ G R => t δ G fun d G1 => ∃ z, d = .str z ∧ R (signs z) (fun _ => True) G1
theorem di_str {e : Expr} {t : TD} (h : DE X e t) : DI X tg e (dIStr t) := PI_mono (pi_str h) fun σ H R' ⟨δ, G, R, sl, w, q, f⟩ => ⟨δ, G, _, sl, w, q, fun d G1 v H1 ⟨z, e, q1⟩ t1 w1 r1 => by
  subst e
  cases r1
  have hl : (signs z).length = z.cps.size := by unfold signs; rw [List.length_map, Array.length_toList]
  refine ⟨z, rfl, f _ _ _ _ _ q1 t1 w1 ⟨fun i H2 G2 t2 w2 l2 hi => by rw [hl] at hi; exact hi, fun i H2 G2 x H3 t2 w2 l2 _ y => ?_, fun i H2 G2 t2 w2 l2 hi => by rw [hl] at hi; exact Nat.le_of_eq hi.symm⟩⟩
  obtain ⟨rfl, c, hc, rfl⟩ := y
  refine ⟨Same.refl _, .str ⟨#[c]⟩, ?_, .str _⟩
  unfold signs
  rw [List.getElem?_map, Array.getElem?_toList, hc]; rfl⟩
/-- range(n), range(a, b) -/
def rng (lo : Int) (n : Nat) : List DV := (List.range n).map fun i => .int (lo + (i : Nat))
theorem rng_len (lo : Int) (n : Nat) : (rng lo n).length = n := by unfold rng; rw [List.length_map, List.length_range]
theorem rng_get {lo : Int} {n i : Nat} (h : i < n) : (rng lo n)[i]? = some (.int (lo + (i : Nat))) := by
  unfold rng
  rw [List.getElem?_map, List.getElem?_range h]; rfl
theorem rng_rel {K : Frag} {H : Hp} {lo : Int} {n : Nat} : JRel K H (Itr lo n) (rng lo n) (fun _ => True) :=
  ⟨fun i H2 G2 t2 w2 l2 hi => by rw [rng_len] at hi; exact hi, fun i H2 G2 x H3 t2 w2 l2 hi y => by
    obtain ⟨rfl, rfl⟩ := y
    rw [rng_len] at hi
    exact ⟨Same.refl _, .int (lo + i), rng_get hi, .int _⟩, fun i H2 G2 t2 w2 l2 hi => by rw [rng_len] at hi; exact Nat.le_of_eq hi.symm⟩
def dIRng (t : TDA) : TDI := fun δ G R => t δ G fun ds G1 => ∃ j : Int, ds = [.int j] ∧ -(2 ^ 62) ≤ j ∧ j < 2 ^ 62 ∧ R (rng 0 j.toNat) (fun _ => True) G1
theorem di_range {a : Expr} {t : TDA} {p pos : Pos} (hm : X.mg "range" = none) (hg : Gl X "range") (ha : DA X [a] t) (hs : starEach [a] X.env = [(false, eval a X.env)] := by rfl) : DI X tg (.Call (.Name "range" p) [a] [] pos) (dIRng t) :=
  PI_mono (pi_range1 hg hm ha hs) fun σ H R' ⟨δ, G, R, sl, w, q, f⟩ => ⟨δ, G, _, sl, w, q, fun ds G1 vs H1 ⟨j, e, h1, h2, q1⟩ t1 w1 r1 => by
    subst e
    cases r1 with
    | cons ra rb =>
      cases rb
      cases ra
      exact ⟨j, rfl, h1, h2, f _ _ _ _ _ q1 t1 w1 rng_rel⟩⟩
def dIRng2 (t : TDA) : TDI := fun δ G R => t δ G fun ds G1 => ∃ i j : Int, ds = [.int i, .int j] ∧ (-(2 ^ 62) ≤ i ∧ i < 2 ^ 62 ∧ -(2 ^ 62) ≤ j ∧ j < 2 ^ 62) ∧ R (rng i (j - i).toNat) (fun _ => True) G1
theorem di_range2 {a b : Expr} {t : TDA} {p pos : Pos} (hm : X.mg "range" = none) (hg : Gl X "range") (ha : DA X [a, b] t) (hs : starEach [a, b] X.env = [(false, eval a X.env), (false, eval b X.env)] := by rfl) (hs2 : starEach [b] X.env = [(false, eval b X.env)] := by rfl) : DI X tg (.Call (.Name "range" p) [a, b] [] pos) (dIRng2 t) :=
  PI_mono (pi_range2 hg hm ha hs hs2) fun σ H R' ⟨δ, G, R, sl, w, q, f⟩ => ⟨δ, G, _, sl, w, q, fun ds G1 vs H1 ⟨i, j, e, h1, q1⟩ t1 w1 r1 => by
    subst e
    cases r1 with
    | cons ra rb =>
      cases rb with
      | cons rb rn =>
        cases rn
        cases ra
        cases rb
        exact ⟨i, j, rfl, h1, f _ _ _ _ _ q1 t1 w1 rng_rel⟩⟩
/-- enumerate of a list -/
def nmbd (ds : List DV) : List DV := ds.zipIdx.map fun p => .tup [.int (p.2 : Nat), p.1]
theorem nmbd_len (ds : List DV) : (nmbd ds).length = ds.length := by unfold nmbd; rw [List.length_map, List.length_zipIdx]
theorem nmbd_get {ds : List DV} {i : Nat} {d : DV} (h : ds[i]? = some d) : (nmbd ds)[i]? = some (.tup [.int (i : Nat), d]) := by
  unfold nmbd
  rw [List.getElem?_map, List.getElem?_zipIdx, h]
  show some _ = some _
  rw [Nat.zero_add]
variable {elts : List Expr} {kk : Nat} {tpos : Pos}
def dIEnum (t : TDA) : TDI := fun δ G R => t δ G fun xs G1 => ∃ p ds, xs = [.ref p] ∧ Ls G1 p ds ∧ R (nmbd ds) (fun G => Ls G p ds) G1
theorem di_enum {a : Expr} {t : TDA} {p pos : Pos} (hm : X.mg "enumerate" = none) (hg : Gl X "enumerate") (ha : DA X [a] t) (hs : starEach [a] X.env = [(false, eval a X.env)] := by rfl) : DI X (.Tuple elts kk tpos) (.Call (.Name "enumerate" p) [a] [] pos) (dIEnum t) :=
  PI_mono (pi_enum hg hm ha hs) fun σ H R' ⟨δ, G, R, sl, w, q, f⟩ => ⟨δ, G, _, sl, w, q, fun ds G1 vs H1 ⟨p, xs, e, ls, q1⟩ t1 w1 r1 => by
    subst e
    cases r1 with
    | cons ra rb =>
      cases rb
      cases ra
      obtain ⟨us, s, r⟩ := wd_seq w1 ls
      refine ⟨p, us, rfl, s, f _ _ _ _ _ q1 t1 w1 ⟨fun i H2 G2 t2 w2 l2 hi => ?_, fun i H2 G2 x H3 t2 w2 l2 hi y => ?_, fun i H2 G2 t2 w2 l2 hi => ?_⟩⟩
      · rw [nmbd_len] at hi
        obtain ⟨ys, s2, r2⟩ := wd_seq w2 l2
        obtain ⟨x, hx, _⟩ := r2.get (List.getElem?_eq_getElem hi)
        exact ⟨ys, x, s2, hx⟩
      · obtain ⟨T, x, rfl, nT, rfl, y⟩ := y
        obtain ⟨ys, s2, r2⟩ := wd_seq w2 l2
        obtain ⟨d, hd, rd⟩ := r2.getV (y ys s2)
        have s' := same_new nT (.tup [.int (i : Nat), x])
        exact ⟨s', _, nmbd_get hd, .tup (SqT.of upd_same) (.cons (.int _) (.cons (rd.mono (.of s')) .nil))⟩
      · rw [nmbd_len] at hi
        obtain ⟨ys, s2, r2⟩ := wd_seq w2 l2
        exact ⟨ys, s2, by rw [r2.len]; exact Nat.le_of_eq hi.symm⟩⟩
/-- reversed of a list -/
def dIRev (t : TDA) : TDI := fun δ G R => t δ G fun xs G1 => ∃ p ds, xs = [.ref p] ∧ Ls G1 p ds ∧ R ds.reverse (fun G => Ls G p ds) G1
theorem rev_get {α : Type} {xs : List α} {i : Nat} (h : i < xs.length) : xs.reverse[i]? = xs[xs.length - 1 - i]? := List.getElem?_reverse h
theorem di_rev {a : Expr} {t : TDA} {p pos : Pos} (hm : X.mg "reversed" = none) (hg : Gl X "reversed") (ha : DA X [a] t) (hs : starEach [a] X.env = [(false, eval a X.env)] := by rfl) : DI X tg (.Call (.Name "reversed" p) [a] [] pos) (dIRev t) :=
  PI_mono (pi_reversed hg hm ha hs) fun σ H R' ⟨δ, G, R, sl, w, q, f⟩ => ⟨δ, G, _, sl, w, q, fun ds G1 vs H1 ⟨p, xs, e, ls, q1⟩ t1 w1 r1 => by
    subst e
    cases r1 with
    | cons ra rb =>
      cases rb
      cases ra
      obtain ⟨us, s, r⟩ := wd_seq w1 ls
      have lr := r.len
      refine ⟨p, us, rfl, s, f _ _ _ _ _ q1 t1 w1 ⟨fun i H2 G2 t2 w2 l2 hi => ?_, fun i H2 G2 x H3 t2 w2 l2 hi y => ?_, fun i H2 G2 t2 w2 l2 hi => ?_⟩⟩
      · rw [List.length_reverse] at hi
        obtain ⟨ys, s2, r2⟩ := wd_seq w2 l2
        obtain ⟨x, hx, _⟩ := r2.get (i := us.length - 1 - i) (List.getElem?_eq_getElem (by omega))
        exact ⟨by omega, ys, x, s2, hx⟩
      · obtain ⟨rfl, y⟩ := y
        rw [List.length_reverse] at hi
        obtain ⟨ys, s2, r2⟩ := wd_seq w2 l2
        obtain ⟨d, hd, rd⟩ := r2.getV (y ys s2)
        exact ⟨Same.refl _, d, by rw [rev_get hi, ← lr]; exact hd, rd⟩
      · rw [List.length_reverse] at hi
        show us.length ≤ i
        omega⟩
/-! ### for -/
def dFor (ti : TDI) (g : TDG) (tb : TDS) : TDS := fun D δ G => ti δ G fun ds st G1 => ∃ Pv : Nat → DSt → DG → Prop, Pv 0 δ G1 ∧ (∀ i δ G, Pv i δ G → st G) ∧
  (∀ i d δ G, ds[i]? = some d → Pv i δ G → g d δ G fun δ2 G2 => tb { D with nx := Pv (i + 1), ct := Pv (i + 1), bk := D.nx } δ2 G2) ∧ (∀ δ G, Pv ds.length δ G → D.nx δ G)
theorem ds_for {iter : Expr} {body : List Stmt} {ti : TDI} {g : TDG} {tb : TDS} {pos : Pos} (hp : PassesOwn (model X.prog X.w) X.A X.env X.xe) (hc : X.calm = true) (hi : DI X tg iter ti) (hg : DGt X tg g) (hb : DSs X body tb)
    (hs : ∀ x, foldedSetIterable iter X.env x = pure x := by intro _; rfl) : DS X (.For tg iter body [] pos) (dFor ti g tb) := by
  refine PS_mono (ps_for hp hc hi hg hb hs) fun D σ H ⟨D', δ, G, sl, w, l, h⟩ => ⟨δ, G, _, sl, w, h, fun ds st G1 H1 J ⟨Pv, p0, pst, ps, pd⟩ t1 w1 j => ?_⟩
  refine ⟨fun i m σ H2 => ∃ δ G, Pv i δ G ∧ TKs X.K H1 H2 ∧ Wd X.K H2 G ∧ Sl X.K H2 σ δ ∧ i ≤ ds.length ∧ m = ds.length - i, ⟨_, δ, G1, p0, TKs.refl _, w1, sl.mono t1, Nat.zero_le _, rfl⟩, ?_⟩
  rintro i m σ2 H2 ⟨δ2, G2, p2, t2, w2, sl2, hi2, rfl⟩
  by_cases hlt : i < ds.length
  · refine .inr ⟨j.go i H2 G2 t2 w2 (pst _ _ _ p2) hlt, fun σ3 H3 => ∃ δ G, Pv (i + 1) δ G ∧ TKs X.K H1 H3 ∧ Wd X.K H3 G ∧ Sl X.K H3 σ3 δ, fun σ3 H3 ⟨δ3, G3, p3, t3, w3, sl3⟩ => ⟨_, by omega, δ3, G3, p3, t3, w3, sl3, hlt, rfl⟩, fun x H3 y => ?_⟩
    obtain ⟨s3, d, hd, rd⟩ := j.yld i H2 G2 x H3 t2 w2 (pst _ _ _ p2) hlt y
    have t3 := TKs.of (K := X.K) s3
    refine ⟨d, δ2, G2, _, rd, sl2.mono t3, w2.same s3, ps i d δ2 G2 hd p2, fun δ4 G4 σ4 H4 q4 t4 w4 sl4 => ⟨{ D' with nx := Pv (i + 1), ct := Pv (i + 1), bk := D'.nx }, δ4, G4, sl4, w4, ?_, q4⟩⟩
    have t14 := t2.trans (t3.trans t4)
    have t04 := t1.trans t14
    exact ⟨fun σ5 δ5 G5 H5 q5 t5 w5 sl5 => ⟨δ5, G5, q5, t14.trans t5, w5, sl5⟩, fun d5 G5 v5 H5 q5 t5 w5 r5 => l.rt _ _ _ _ q5 (t04.trans t5) w5 r5,
      fun σ5 δ5 G5 H5 q5 t5 w5 sl5 => l.nx _ _ _ _ q5 (t04.trans t5) w5 sl5, fun σ5 δ5 G5 H5 q5 t5 w5 sl5 => ⟨δ5, G5, q5, t14.trans t5, w5, sl5⟩⟩
  · have e : i = ds.length := by omega
    subst e
    exact .inl ⟨j.stop _ H2 G2 t2 w2 (pst _ _ _ p2) rfl, l.nx _ _ _ _ (pd _ _ p2) (t1.trans t2) w2 sl2⟩
/-! ### while -/
def dWhile (c : TDT) (tb : TDS) : TDS := fun D δ G => ∃ Pv : Nat → DSt → DG → Prop, (∃ m, Pv m δ G) ∧ ∀ m δ G, Pv m δ G →
  c δ G fun b G1 => if b = true then tb { D with nx := fun δ' G' => ∃ m', m' < m ∧ Pv m' δ' G', ct := fun δ' G' => ∃ m', m' < m ∧ Pv m' δ' G', bk := D.nx } δ G1 else D.nx δ G1
theorem ds_while {c : Expr} {body : List Stmt} {tc : TDT} {tb : TDS} {pos : Pos} (hp : PassesOwn (model X.prog X.w) X.A X.env X.xe) (hc : DT X c tc) (hb : DSs X body tb) : DS X (.While c body [] pos) (dWhile tc tb) := by
  refine PS_mono (ps_while hp hc hb) fun D σ H ⟨D', δ, G, sl, w, l, Pv, ⟨m0, p0⟩, step⟩ => ?_
  refine ⟨fun m σ H2 => ∃ δ G, Pv m δ G ∧ TKs X.K H H2 ∧ Wd X.K H2 G ∧ Sl X.K H2 σ δ, ⟨m0, δ, G, p0, TKs.refl _, w, sl⟩, ?_⟩
  rintro m σ2 H2 ⟨δ2, G2, p2, t2, w2, sl2⟩
  refine ⟨δ2, G2, _, sl2, w2, step m δ2 G2 p2, fun b G3 H3 q t3 w3 => ?_⟩
  have t23 := t2.trans t3
  cases b with
  | false => exact iteF (l.nx _ _ _ _ q t23 w3 (sl2.mono t3))
  | true =>
    refine iteT ⟨fun σ4 H4 => ∃ m', m' < m ∧ ∃ δ G, Pv m' δ G ∧ TKs X.K H H4 ∧ Wd X.K H4 G ∧ Sl X.K H4 σ4 δ, fun σ' H' ⟨m', lt, x⟩ => ⟨m', lt, x⟩, _, δ2, G3, sl2.mono t3, w3, ?_, q⟩
    exact ⟨fun σ5 δ5 G5 H5 ⟨m', lt, q5⟩ t5 w5 sl5 => ⟨m', lt, δ5, G5, q5, t23.trans t5, w5, sl5⟩, fun d5 G5 v5 H5 q5 t5 w5 r5 => l.rt _ _ _ _ q5 (t23.trans t5) w5 r5,
      fun σ5 δ5 G5 H5 q5 t5 w5 sl5 => l.nx _ _ _ _ q5 (t23.trans t5) w5 sl5, fun σ5 δ5 G5 H5 ⟨m', lt, q5⟩ t5 w5 sl5 => ⟨m', lt, δ5, G5, q5, t23.trans t5, w5, sl5⟩⟩
end
end DD
namespace DD
open PySem PySem.W L2 SX Cm
/-! ### comprehensions -/
def wipeD (δ : DSt) : List Nat → DSt
  | [] => δ
  | v :: vs => (wipeD δ vs).set v none
theorem Sl.wipe {K : Frag} {H : Hp} {σ : St} {δ : DSt} (h : Sl K H σ δ) : ∀ vs : List Nat, Sl K H (L2.wipe σ vs) (wipeD δ vs)
  | [] => h
  | v :: vs => (Sl.wipe h vs).unset v
theorem set_comm' {α : Type} : ∀ (σ : List α) (i j : Nat) (x y : α), i ≠ j → (σ.set i x).set j y = (σ.set j y).set i x
  | [], _, _, _, _, _ => rfl
  | a :: r, 0, 0, _, _, h => absurd rfl h
  | a :: r, 0, j + 1, _, _, _ => rfl
  | a :: r, i + 1, 0, _, _, _ => rfl
  | a :: r, i + 1, j + 1, x, y, h => by
    show a :: _ = a :: _
    rw [set_comm' r i j x y (fun z => h (by rw [z]))]
theorem set_set' {α : Type} : ∀ (σ : List α) (i : Nat) (x y : α), (σ.set i x).set i y = σ.set i y
  | [], _, _, _ => rfl
  | a :: r, 0, _, _ => rfl
  | a :: r, i + 1, x, y => by
    show a :: _ = a :: _
    rw [set_set' r i x y]
theorem wipe_out (i : Nat) (x : Option V) : ∀ (vs : List Nat) (σ : St), i ∉ vs → wipe (σ.set i x) vs = (wipe σ vs).set i x
  | [], _, _ => rfl
  | v :: vs, σ, h => by
    have h1 : i ≠ v := fun z => h (by rw [z]; exact List.mem_cons_self ..)
    have h2 : i ∉ vs := fun z => h (List.mem_cons_of_mem _ z)
    show (wipe (σ.set i x) vs).set v none = ((wipe σ vs).set v none).set i x
    rw [wipe_out i x vs σ h2, set_comm' _ _ _ _ _ h1]
theorem wipe_in (i : Nat) (x : Option V) : ∀ (vs : List Nat) (σ : St), i ∈ vs → wipe (σ.set i x) vs = wipe σ vs
  | [], _, h => nomatch h
  | v :: vs, σ, h => by
    show (wipe (σ.set i x) vs).set v none = (wipe σ vs).set v none
    by_cases hi : i ∈ vs
    · rw [wipe_in i x vs σ hi]
    · rw [wipe_out i x vs σ hi]
      have e : i = v := by
        rcases List.mem_cons.mp h with e | e
        · exact e
        · exact absurd e hi
      rw [e, set_set']
theorem wipe_wipe (σ : St) : ∀ vs : List Nat, wipe (wipe σ vs) vs = wipe σ vs := fun vs => by
  have go : ∀ (ws vs : List Nat), (∀ v ∈ ws, v ∈ vs) → wipe (wipe σ ws) vs = wipe σ vs := by
    intro ws
    induction ws with
    | nil => intro vs _; rfl
    | cons w ws ih =>
      intro vs h
      show wipe ((wipe σ ws).set w none) vs = _
      rw [wipe_in w none vs _ (h w (List.mem_cons_self ..)), ih vs fun v hv => h v (List.mem_cons_of_mem _ hv)]
  exact go vs vs fun v hv => hv
/-- a target of a comprehension: slots alone -/
abbrev TL := DV → DSt → (DSt → Prop) → Prop
def LT (K : Frag) (vs : List Nat) (g : TG) (ld : TL) : Prop := ∀ v d σ δ H R Q, RV K H v d → Sl K H σ δ → ld d δ R → (∀ σ2 δ2, Sl K H σ2 δ2 → wipe σ2 vs = wipe σ vs → R δ2 → Q σ2 H) → g v σ H Q
def l1 (i : Nat) : TL := fun d δ R => R (δ.set i (some d))
def l2 (i j : Nat) : TL := fun d δ R => ∃ a b, d = .tup [a, b] ∧ R ((δ.set i (some a)).set j (some b))
def l3 (i j k : Nat) : TL := fun d δ R => ∃ a b c, d = .tup [a, b, c] ∧ R (((δ.set i (some a)).set j (some b)).set k (some c))
theorem lt1 {K : Frag} {vs : List Nat} {i : Nat} (h : i ∈ vs) : LT K vs (gName i) (l1 i) := fun v d σ δ H R Q r sl q f => f _ _ (sl.set r i) (wipe_in i _ vs σ h) q
theorem lt2 {K : Frag} {vs : List Nat} {i j : Nat} (h : i ∈ vs) (h' : j ∈ vs) : LT K vs (gTup K 2 (gCons (gName i) (gCons (gName j) gNil))) (l2 i j) := fun v d σ δ H R Q r sl ⟨a, b, e, q⟩ f => by
  subst e
  obtain ⟨p, xs, rfl, s, r⟩ := r.tupD
  cases r with
  | cons ra r =>
    cases r with
    | cons rb r =>
      cases r
      exact ⟨p, _, rfl, s, rfl, _, _, rfl, _, _, rfl, rfl, f _ _ ((sl.set ra i).set rb j) (by rw [wipe_in j _ vs _ h', wipe_in i _ vs _ h]) q⟩
theorem lt3 {K : Frag} {vs : List Nat} {i j k : Nat} (h : i ∈ vs) (h' : j ∈ vs) (h'' : k ∈ vs) : LT K vs (gTup K 3 (gCons (gName i) (gCons (gName j) (gCons (gName k) gNil)))) (l3 i j k) := fun v d σ δ H R Q r sl ⟨a, b, c, e, q⟩ f => by
  subst e
  obtain ⟨p, xs, rfl, s, r⟩ := r.tupD
  cases r with
  | cons ra r =>
    cases r with
    | cons rb r =>
      cases r with
      | cons rc r =>
        cases r
        exact ⟨p, _, rfl, s, rfl, _, _, rfl, _, _, rfl, _, _, rfl, rfl, f _ _ (((sl.set ra i).set rb j).set rc k) (by rw [wipe_in k _ vs _ h'', wipe_in j _ vs _ h', wipe_in i _ vs _ h]) q⟩
def dYes : TDT := fun _ G Q => Q true G
/-- a comprehension: the list that is made stands at p; Pv by the turn, what is made so far, the store -/
def dLc (ti : TDI) (ld : TL) (tt : TDT) (te : TD) (vs : List Nat) : TD := fun δ G Q => ti δ G fun ds st G1 => ∀ p, G1 p = none → ∃ Pv : Nat → List DV → DG → Prop, Pv 0 [] (dupd G1 p (.lst [])) ∧ (∀ i acc G, Pv i acc G → st G) ∧
  (∀ i d acc G, ds[i]? = some d → Pv i acc G → ld d (wipeD δ vs) fun δ2 => tt δ2 G fun b G3 => if b = true then te δ2 G3 fun y G4 => G4 p = some (.lst acc) ∧ acc.length < sizeLine ∧ Pv (i + 1) (acc ++ [y]) (dupd G4 p (.lst (acc ++ [y]))) else Pv (i + 1) acc G3) ∧
  (∀ acc G, Pv ds.length acc G → Q (.ref p) G)
theorem lc_up {K : Frag} {ti : TDI} {g : TG} {ld : TL} {tt : TDT} {te : TD} {vs : List Nat} (lt : LT K vs g ld) {σ : St} {H : Hp} {Q : VK} (h : up K (dLc ti ld tt te vs) σ H Q) : tLc (upI K ti) g (upT K tt) (up K te) vs σ H Q := by
  obtain ⟨δ, G, R, sl, w, h, f⟩ := h
  refine ⟨δ, G, _, sl, w, h, fun ds st G1 H1 J q t1 w1 j p np => ?_⟩
  obtain ⟨Pv, p0, pst, ps, pd⟩ := q p (w1.free np)
  have s0 : Same H1 (upd H1 p (.lst [])) := same_new np _
  refine ⟨fun i m H2 => ∃ acc G, Pv i acc G ∧ TKs K H1 H2 ∧ Wd K H2 G ∧ i ≤ ds.length ∧ m = ds.length - i, ⟨_, [], _, p0, TKs.of s0, w1.new np fun O => ⟨[], upd_same, .nil⟩, Nat.zero_le _, rfl⟩, ?_⟩
  rintro i m H2 ⟨acc, G2, p2, t2, w2, hi, rfl⟩
  by_cases hlt : i < ds.length
  · refine .inr ⟨j.go i H2 G2 t2 w2 (pst _ _ _ p2) hlt, fun H3 => ∃ acc G, Pv (i + 1) acc G ∧ TKs K H1 H3 ∧ Wd K H3 G, fun H3 ⟨acc3, G3, p3, t3, w3⟩ => ⟨_, by omega, acc3, G3, p3, t3, w3, hlt, rfl⟩, fun x H3 y => ?_⟩
    obtain ⟨s3, d, hd, rd⟩ := j.yld i H2 G2 x H3 t2 w2 (pst _ _ _ p2) hlt y
    have t3 := TKs.of (K := K) s3
    have t13 := t2.trans t3
    have w3 := w2.same s3
    refine lt x d _ (wipeD δ vs) H3 _ _ rd (((sl.mono t1).mono t13).wipe vs) (ps i d acc G2 hd p2) fun σ4 δ4 sl4 e4 q4 => ⟨by rw [e4]; exact wipe_wipe σ vs, δ4, G2, _, sl4, w3, q4, fun b G5 H5 q5 t5 w5 => ?_⟩
    have t15 := t13.trans t5
    cases b with
    | false => exact iteF ⟨acc, G5, q5, t15, w5⟩
    | true =>
      refine iteT ⟨δ4, G5, _, sl4.mono t5, w5, q5, fun y G6 vy H6 ⟨e6, l6, q6⟩ t6 w6 r6 => ?_⟩
      obtain ⟨us, hu, ru⟩ := wd_list w6 e6
      obtain ⟨t7, w7⟩ := put_lst w6 e6 hu (ru.append (.cons r6 .nil))
      exact ⟨us, hu, by rw [ru.len]; exact l6, _, _, q6, (t15.trans t6).trans t7, w7⟩
  · have e : i = ds.length := by omega
    subst e
    exact .inl ⟨j.stop _ H2 G2 t2 w2 (pst _ _ _ p2) rfl, f _ _ _ _ (pd _ _ p2) (t1.trans t2) w2 (.ref p)⟩
section
variable {X : Cx}
theorem de_lc {elt tg iter : Expr} {ifs : List Expr} {scope : Scope} {own : List (Str × Nat)} {pos : Pos} {ti : TDI} {g : TG} {ld : TL} {tt : TDT} {te : TD} (lt : LT X.K (own.map (·.2)) g ld) (hc : X.calm = true) (hN : X.N.Nodup) (hi : DI X tg iter ti) (ok : BlkOk X.N X.env.scope scope own)
    (hg : ∀ (s : Shared) (H : Hp) (C : Addr) (cl : List (Str × Addr)) (fp : List Addr), PG (X.blk s H scope (compEnvC scope cl C X.env) fp) tg g) (ht : ∀ (s : Shared) (H : Hp) (C : Addr) (cl : List (Str × Addr)) (fp : List Addr), PTs (X.blk s H scope (compEnvC scope cl C X.env) fp) ifs (upT X.K tt))
    (he : ∀ (s : Shared) (H : Hp) (C : Addr) (cl : List (Str × Addr)) (fp : List Addr), PE (X.blk s H scope (compEnvC scope cl C X.env) fp) elt (up X.K te)) (hs : ∀ x, foldedSetIterable iter X.env x = pure x := by intro _; rfl) :
    DE X (.ListComp elt [⟨tg, iter, ifs, 0⟩] scope pos) (dLc ti ld tt te (own.map (·.2))) := PE_mono (pe_lc hc hN hi ok hg ht he hs) fun σ H Q h => lc_up lt h
theorem ds_setLc {i : Nat} {y : Str} {py : Pos} {elt tg iter : Expr} {ifs : List Expr} {scope : Scope} {own : List (Str × Nat)} {pos spos : Pos} {ti : TDI} {g : TG} {ld : TL} {tt : TDT} {te : TD} (lt : LT X.K (own.map (·.2)) g ld) (hc : X.calm = true) (hN : X.N.Nodup) (hy : X.N[i]? = some y) (hyl : X.env.scope.names.lookup y = some .local)
    (hsw : swapsWith (.ListComp elt [⟨tg, iter, ifs, 0⟩] scope pos) (some (.Name y py)) spos.line X.env = pure true) (hi : DI X tg iter ti) (ok : BlkOk X.N X.env.scope scope own)
    (hg : ∀ (s : Shared) (H : Hp) (C : Addr) (cl : List (Str × Addr)) (fp : List Addr), PG (X.blk s H scope (compEnvC scope cl C X.env) fp) tg g) (ht : ∀ (s : Shared) (H : Hp) (C : Addr) (cl : List (Str × Addr)) (fp : List Addr), PTs (X.blk s H scope (compEnvC scope cl C X.env) fp) ifs (upT X.K tt))
    (he : ∀ (s : Shared) (H : Hp) (C : Addr) (cl : List (Str × Addr)) (fp : List Addr), PE (X.blk s H scope (compEnvC scope cl C X.env) fp) elt (up X.K te)) (hs : ∀ x, foldedSetIterable iter X.env x = pure x := by intro _; rfl) :
    DS X (.Assign [.Name y py] (.ListComp elt [⟨tg, iter, ifs, 0⟩] scope pos) spos) (dAsg (dLc ti ld tt te (own.map (·.2))) (gN i)) := PS_mono (ps_setLc hc hN hy hyl hsw hi ok hg ht he hs) fun D σ H ⟨D', δ, G, sl, w, l, h⟩ => by
  refine lc_up lt (Q := fun v H1 => gName i v σ H1 D.nx) ⟨δ, G, _, sl, w, h, fun d G1 v H1 q t1 w1 r1 => ?_⟩
  exact l.nx _ _ _ _ q t1 w1 ((sl.mono t1).set r1 i)
theorem dts_nil : PTs X [] (upT X.K dYes) := ⟨fun pins s σ H Q I ⟨δ, G, R, sl, w, h, f⟩ => pts_nil.run pins s σ H Q I (f _ _ _ h (TKs.refl H) w)⟩
theorem dts_one {c : Expr} {t : TDT} (h : DT X c t) : PTs X [c] (upT X.K t) := pts_one h
end
/-- elements that leave the store as it is -/
theorem lc_pure {ds : List DV} {st : DG → Prop} {ld : TL} {tt : TDT} {te : TD} {vs : List Nat} {δ : DSt} {G1 : DG} {Q : DK} (f : DV → Option DV) (hsc : ∀ p o, G1 p = none → st (dupd G1 p o)) (hl : ds.length ≤ 1000000)
    (h : ∀ d ∈ ds, ∀ (G : DG) (k1 : DK) (k0 : DG → Prop), (∃ p acc, G1 p = none ∧ G = dupd G1 p (.lst acc)) → (∀ y, f d = some y → k1 y G) → (f d = none → k0 G) →
      ld d (wipeD δ vs) fun δ2 => tt δ2 G fun b G3 => if b = true then te δ2 G3 k1 else k0 G3)
    (q : ∀ p, G1 p = none → Q (.ref p) (dupd G1 p (.lst (ds.filterMap f)))) :
    ∀ p, G1 p = none → ∃ Pv : Nat → List DV → DG → Prop, Pv 0 [] (dupd G1 p (.lst [])) ∧ (∀ i acc G, Pv i acc G → st G) ∧
      (∀ i d acc G, ds[i]? = some d → Pv i acc G → ld d (wipeD δ vs) fun δ2 => tt δ2 G fun b G3 => if b = true then te δ2 G3 fun y G4 => G4 p = some (.lst acc) ∧ acc.length < sizeLine ∧ Pv (i + 1) (acc ++ [y]) (dupd G4 p (.lst (acc ++ [y]))) else Pv (i + 1) acc G3) ∧
      (∀ acc G, Pv ds.length acc G → Q (.ref p) G) := by
  intro p np
  refine ⟨fun i acc G => acc = (ds.take i).filterMap f ∧ i ≤ ds.length ∧ G = dupd G1 p (.lst acc), ⟨rfl, Nat.zero_le _, rfl⟩, fun i acc G ⟨_, _, e⟩ => by rw [e]; exact hsc p _ np, ?_, ?_⟩
  · rintro i d acc G hd ⟨ea, hi, rfl⟩
    have hlt : i < ds.length := (List.getElem?_eq_some_iff.mp hd).1
    have et : ds.take (i + 1) = ds.take i ++ [d] := by rw [List.take_add_one, hd]; rfl
    have la : acc.length ≤ i := by rw [ea]; exact Nat.le_trans (List.length_filterMap_le _ _) (by rw [List.length_take]; omega)
    refine h d (List.mem_of_getElem? hd) _ _ _ ⟨p, acc, np, rfl⟩ (fun y hf => ?_) (fun hf => ?_)
    · refine ⟨dupd_same, midlt (by omega), ?_, hlt, dupd_dupd⟩
      rw [et, List.filterMap_append, ← ea]
      show acc ++ [y] = acc ++ List.filterMap f [d]
      rw [List.filterMap_cons_some hf]; rfl
    · refine ⟨?_, hlt, rfl⟩
      rw [et, List.filterMap_append, ← ea, List.filterMap_cons_none hf, List.filterMap_nil, List.append_nil]
  · rintro acc G ⟨ea, _, rfl⟩
    rw [ea, List.take_length]
    exact q p np
end DD
namespace DD
open PySem PySem.W L2 SX Cm
/-! ### defs -/
abbrev DSp := List DV → DG → DK → Prop
def toSp (K : Frag) (n : Nat) (dsp : DSp) : Sp := fun vs H Q _ => ∃ ds G R, RVs K H vs ds ∧ Wd K H G ∧ ds.length = n ∧ dsp ds G R ∧ Fin K H R Q
theorem _root_.PySem.W.L2.Fun.look {K : Frag} {x qual : Str} {st : Stmt} {f : Addr} {fd : FuncData} (F : Fun K x qual st f fd) : ∃ oc od osl, K.lookup f = some ⟨oc, od, .func fd, osl⟩ := by
  obtain ⟨oc, od, kV, doc, pm, an, cdv, ct, osl, rfl, lk, _⟩ := F.ex
  exact ⟨oc, od, osl, lk⟩
/-- the def nm keeps a promise about data, by level k -/
def Has (P : Program) (w : World) (K : Frag) (mg : Str → Option Value) (base : Heap) (k : Nat) (nm : Str) (ps : List Str) (dsp : DSp) : Prop :=
  ∃ f fd, FnOk P w K mg base CX0 k f fd ps (toSp K ps.length dsp) ∧ L2.Binds K fd ps [] ∧ keepIn K (.ref f) = true ∧ mg nm = some (.ref f) ∧ ∃ oc od osl, K.lookup f = some ⟨oc, od, .func fd, osl⟩
section
variable {P : Program} {w : World} {K : Frag} {mg : Str → Option Value} {base : Heap} {k : Nat} {nm : Str} {ps : List Str} {dsp : DSp}
theorem Has.mono {j : Nat} (h : Has P w K mg base k nm ps dsp) (l : k ≤ j) : Has P w K mg base j nm ps dsp := by
  obtain ⟨f, fd, a, b⟩ := h
  exact ⟨f, fd, a.mono l, b⟩
/-- many promises of one def -/
theorem Has.any {ι : Type} [ne : Nonempty ι] {d : ι → DSp} (h : ∀ i, Has P w K mg base k nm ps (d i)) : Has P w K mg base k nm ps (fun ds G R => ∃ i, d i ds G R) := by
  obtain ⟨i0⟩ := ne
  obtain ⟨f, fd, a, b, kp, m, oc, od, osl, lk⟩ := h i0
  have all : ∀ i, FnOk P w K mg base CX0 k f fd ps (toSp K ps.length (d i)) := fun i => by
    obtain ⟨f', fd', a', b', kp', m', oc', od', osl', lk'⟩ := h i
    rw [m] at m'
    cases m'
    rw [lk] at lk'
    cases lk'
    exact a'
  refine ⟨f, fd, ⟨fun vs H Q E ⟨ds, G, R, r, w, l, ⟨i, h⟩, f⟩ => (all i).len vs H Q E ⟨ds, G, R, r, w, l, h, f⟩, fun A outer s H args us vs Q E hr he hb hv ⟨ds, G, R, r, w, l, ⟨i, h⟩, f⟩ => (all i).run A outer s H args us vs Q E hr he hb hv ⟨ds, G, R, r, w, l, h, f⟩⟩, b, kp, m, oc, od, osl, lk⟩
theorem Has.imp {dsp' : DSp} (h : Has P w K mg base k nm ps dsp) (i : ∀ ds G R, dsp' ds G R → dsp ds G R) : Has P w K mg base k nm ps dsp' := by
  obtain ⟨f, fd, a, b⟩ := h
  exact ⟨f, fd, a.imp fun vs H Q E ⟨ds, G, R, r, w, l, h, f⟩ => ⟨ds, G, R, r, w, l, i ds G R h, f⟩, b⟩
end
section
variable {X : Cx} {k : Nat} {nm : Str} {ps : List Str} {dsp : DSp} {e : Expr} {es : List Expr} {ts : TDA} {p pos : Pos}
def dCall (n : Nat) (dsp : DSp) (t : TDA) : TD := fun δ G Q => t δ G fun ds G1 => ds.length = n ∧ dsp ds G1 Q
theorem de_call (h : Has X.prog X.w X.K X.mg X.base k nm ps dsp) (hr : Room k X.A) (hg : Gl X nm) (ha : DA X (e :: es) ts) (hdb : (nm == ("__debug__" : Str)) = false := by decide) (he : starEach (e :: es) X.env = (false, eval e X.env) :: starEach es X.env := by rfl) (hpl : (backTo pos (starEach es X.env)).any (·.1) = false := by rfl) :
    DE X (.Call (.Name nm p) (e :: es) [] pos) (dCall ps.length dsp ts) := by
  obtain ⟨f, fd, F, b, kp, m, _⟩ := h
  refine PE_mono (pe_call F hr hg m kp b .nil (pass0 (X := X)) ha hdb he hpl) fun σ H Q ⟨δ, G, R, sl, w, h, f⟩ => ⟨δ, G, _, sl, w, h, fun ds G1 vs H1 h1 t1 w1 r1 => ?_⟩
  show toSp X.K ps.length dsp (vs ++ []) H1 Q E0
  rw [List.append_nil]
  exact ⟨ds, G1, R, r1, w1, h1.1, h1.2, f.step t1⟩
end
def dstart (N : List Str) (ds : List DV) : DSt := ds.map some ++ List.replicate (N.length - ds.length) none
theorem Sl.nones {K : Frag} {H : Hp} : ∀ n : Nat, Sl K H (List.replicate n none) (List.replicate n none)
  | 0 => .nil
  | n + 1 => .non (Sl.nones n)
theorem Sl.somes {K : Frag} {H : Hp} {σ : St} {δ : DSt} (h : Sl K H σ δ) : ∀ {vs : List V} {ds : List DV}, RVs K H vs ds → Sl K H (vs.map some ++ σ) (ds.map some ++ δ)
  | _, _, .nil => h
  | _, _, .cons r t => .cons r (Sl.somes h t)
theorem sl_start {K : Frag} {H : Hp} {N : List Str} {vs : List V} {ds : List DV} (r : RVs K H vs ds) : Sl K H (L2.start N vs) (dstart N ds) := by
  unfold L2.start dstart
  rw [r.len]
  exact Sl.somes (Sl.nones _) r
/-- what is told of the store behind a def: less than is known -/
def Less (R : DK) : DK := fun d G => ∃ G', Sub G' G ∧ R d G'
theorem Less.of {R : DK} {d : DV} {G : DG} (h : R d G) : Less R d G := ⟨G, Sub.refl G, h⟩
section
variable {P : Program} {w : World} {K : Frag} {mg : Str → Option Value} {base : Heap}
theorem links_def {H : Hp} {R : DK} {Q : VK} (f : Fin K H R Q) : Links K H { nx := fun _ G => Less R .non G, rt := Less R } { nx := fun _ H' => Q .non H', rt := Q } :=
  ⟨fun σ δ G H' ⟨G', s, r⟩ t w sl => f _ G' _ H' r t (w.sub s) .non, fun d G v H' ⟨G', s, r⟩ t w rv => f _ G' _ H' r t (w.sub s) rv, fun _ _ _ _ h => h.elim, fun _ _ _ _ h => h.elim⟩
/-- a def by its body, over data -/
theorem has_mk {nm : Str} {st : Stmt} {f : Addr} {fd : FuncData} {N ps : List Str} {k : Nat} {dsp : DSp} (F : Fun K nm nm st f fd) (b : L2.Binds K fd ps []) (m : mg nm = some (.ref f)) (S : FnScope N ps (defScope st))
    (body : ∀ (cdv : Value) (A : Around) (outer : List Env) (s : Shared) (H : Hp) (E : XK), Room k (A.deeper (PyProof.Rows.envOfC nm (defScope st) s.heap.objs.size f cdv)) → ∀ ds G R, ds.length = ps.length → dsp ds G R →
      ∃ t, DSs (cxOf CX0 P w K mg base N nm (defScope st) f cdv A outer s H E).nox (defBody st) t ∧ t { nx := fun _ G => Less R .non G, rt := Less R } (dstart N ds) G) : Has P w K mg base (k + 1) nm ps dsp := by
  refine ⟨f, fd, F.ok S (fun vs H Q E h => ?_) (fun cdv A outer s H vs Q E hr h => ?_), b, F.kp, m, F.look⟩
  · obtain ⟨ds, G, R, r, w, l, _⟩ := h
    rw [r.len]; exact l
  · obtain ⟨ds, G, R, r, wd, l, h, fin⟩ := h
    obtain ⟨t, h1, h2⟩ := body cdv A outer s H E hr ds G R l h
    exact ⟨_, h1, _, _, G, sl_start r, wd, links_def fin, h2⟩
end
/-! ### things of which only something is known -/
theorem Wd.abs_keep {K : Frag} {H H' : Hp} {G : DG} {d : Addr} {L : List Addr} {φ : Hp → Prop} (w : Wd K H G) (e : G d = some (.abs L φ)) (kp : Kp L H H') (t : TKs K H H') (hφ : φ H') (hl : ∀ b ∈ L, ∃ xs, H' b = some (.lst xs)) : Wd K H' G := by
  obtain ⟨O, w⟩ := w
  obtain ⟨md, _, _, loc, ow⟩ := w.ob d _ e
  have nL : ∀ a o, G a = some o → a ≠ d → a ∉ L := fun a o ea ne m => by
    have := ow a m ne
    have := (w.own a d this).1
    rw [ea] at this; cases this
  have nO : ∀ b a, O b = some a → a ≠ d → b ∉ L := fun b a eb ne m => by
    by_cases hbd : b = d
    · have := (w.own b a eb).1
      rw [hbd, e] at this; cases this
    · have := ow b m hbd
      rw [eb] at this
      exact ne (Option.some.inj this)
  refine ⟨O, ⟨fun b a eb => ?_, fun a o ea => ?_⟩⟩
  · obtain ⟨h1, xs, h2⟩ := w.own b a eb
    by_cases had : a = d
    · by_cases hm : b ∈ L
      · exact ⟨h1, hl b hm⟩
      · exact ⟨h1, xs, kp b _ hm h2⟩
    · exact ⟨h1, xs, kp b _ (nO b a eb had) h2⟩
  · by_cases had : a = d
    · subst had
      rw [e] at ea
      cases ea
      exact ⟨md, hl a md, hφ, loc, ow⟩
    · refine OR.keep w t ea fun b hb => ?_
      obtain ⟨u, hu, nb⟩ : ∃ u, H b = some u ∧ b ∉ L := by
        rcases hb with rfl | hb
        · obtain ⟨u, hu⟩ := (w.ob _ o ea).some
          exact ⟨u, hu, nL _ o ea had⟩
        · obtain ⟨_, xs, h⟩ := w.own b a hb
          exact ⟨_, h, nO b a hb had⟩
      rw [hu, kp b u nb hu]
/-- nothing but one thing is known -/
theorem wd_one {K : Frag} {H : Hp} {d : Addr} {L : List Addr} {φ : Hp → Prop} (md : d ∈ L) (hφ : φ H) (hl : ∀ b ∈ L, ∃ xs, H b = some (.lst xs)) (loc : ∀ H1 H2, (∀ b ∈ L, H1 b = H2 b) → φ H1 → φ H2) : Wd K H (dupd (fun _ => none) d (.abs L φ)) := by
  refine ⟨fun b => if b ∈ L ∧ b ≠ d then some d else none, ⟨fun b a e => ?_, fun a o e => ?_⟩⟩
  · by_cases h : b ∈ L ∧ b ≠ d
    · exact ⟨dupd_ne h.2, hl b h.1⟩
    · rw [if_neg h] at e; cases e
  · by_cases had : a = d
    · subst had
      rw [dupd_same] at e
      cases e
      exact ⟨md, hl a md, hφ, loc, fun b hb hbd => if_pos ⟨hb, hbd⟩⟩
    · rw [dupd_ne had] at e; cases e
end DD
namespace PySem
open Sem (wp)
open AutoSeq1 (wpAny_loadPart')
/-- enumerate(v), v told by its iterator -/
theorem cm_meets_enum {v : Value} {o : Obj} {H : Heap → Prop} (B : Begins v o H) :
    Meets (Builtin.«enumerate.__new__» ⟨[.type "enumerate", v], []⟩) (fun _ R s => H s.heap ∧
      R (.ok (.ret (.ref (s.heap.push o).objs.size))) { s with heap := (s.heap.push o).push { cls := .type "enumerate", data := .fields #[.none, .bool false, .ref s.heap.objs.size, rawInt 0, .none, .none] } }) :=
  .of_wp fun prog w A R s h => by
    obtain ⟨hp, g, d, tk, os⟩ := s; obtain ⟨h1, h⟩ := h
    have hsub := sub_enumerate
    have q1 : ∀ {A' : Around} {E : Value → Shared → Prop} {Q : Value → Shared → Prop}, Q (.ref hp.objs.size) ⟨hp.push o, g, d, tk, os⟩ → wpAny (model prog w) A' (pyIter v) Q E ⟨hp, g, d, tk, os⟩ :=
      fun q => B.iter prog w _ _ ⟨hp, g, d, tk, os⟩ _ h1 q
    wp_walk using q1
    refine wpAny_stack_any fun st => wpAny_pure ?_
    split
    · rename_i c _ _ _ _ _
      cases (c == Value.type "enumerate")
      · wp_walk using q1
        exact ⟨_, rfl, h⟩
      · wp_walk using q1
        exact ⟨_, rfl, h⟩
    · wp_walk using q1
      exact ⟨_, rfl, h⟩
theorem cm_call_enum {prog : Program} {w : World} {A : Around} {E : Value → Shared → Prop} {s : Shared} {v : Value} {o : Obj} {H : Heap → Prop} {Q : Value → Shared → Prop} (B : Begins v o H) (h1 : H s.heap)
    (h : ∀ h', IsEnum h' (s.heap.objs.size + 1) s.heap.objs.size 0 .none → h'.get? s.heap.objs.size = some o → h'.objs.size = s.heap.objs.size + 2 →
      (∀ b o, s.heap.get? b = some o → h'.get? b = some o) → Q (.ref (s.heap.objs.size + 1)) { s with heap := h' }) :
    wpAny (model prog w) A (call (.type "enumerate") [v]) Q E s := by
  refine callType_new F.called_enumerate (by decide) (F.typeCall_enumerate_1 _) (F.newCall_enumerate_1 _) (fun obj => F.args_object_init_2 obj _) F.entry_enumerate_new
    (cm_meets_enum B) ⟨h1, ?_⟩
  have hz : (s.heap.push o).objs.size = s.heap.objs.size + 1 := Heap.size_push ..
  show _ ∧ _
  rw [hz]
  have he : IsEnum ((s.heap.push o).push { cls := .type "enumerate", data := .fields #[.none, .bool false, .ref s.heap.objs.size, rawInt 0, .none, .none] }) (s.heap.objs.size + 1) s.heap.objs.size 0 .none := by
    have := Heap.get?_push_size (s.heap.push o) (o := { cls := .type "enumerate", data := .fields #[.none, .bool false, .ref s.heap.objs.size, rawInt 0, .none, .none] }) rfl
    rw [hz] at this; exact this
  refine ⟨⟨_, he, rfl⟩, h _ he (Heap.get?_push_of_some _ (Heap.get?_push_size _ B.free)) (by rw [Heap.size_push, hz]) fun b o x => Heap.get?_push_of_some _ (Heap.get?_push_of_some _ x)⟩
end PySem
namespace DD
open PySem PySem.W L2 SX Cm PyProof.Rows
def IteT (K : PySem.W.Frag) (a : Addr) : It :=
  ⟨fun i H => ∃ (xs : List V) (x : V), SqT K H a xs ∧ xs[i]? = some x, fun i H v H' => ∃ T x, v = .ref T ∧ H T = none ∧ H' = upd H T (.tup [.int (i : Nat), x]) ∧ ∀ xs, SqT K H a xs → xs[i]? = some x, fun i H => ∃ xs : List V, SqT K H a xs ∧ xs.length = i⟩
theorem turn_enumT {P : Program} {w : World} {K : PySem.W.Frag} {elts : List Expr} {kk : Nat} {tpos : Pos} (a e it : Addr) :
    Turn P w K (.Tuple elts kk tpos) (IteT K a) [e, it] e (fun i h => (∃ old, IsEnum h e it ((i : Nat) : Int) old) ∧ h.IsTupleIter it a i ∧ e ≠ it) where
  mem := by simp
  obj := fun i h st b hb => by
    obtain ⟨⟨old, he⟩, ⟨o, ho, hc, hd⟩, _⟩ := st
    have e' : b = e ∨ b = it := by simpa using hb
    rcases e' with z | z
    · rw [z]; exact ⟨_, he, fun v q => nomatch q⟩
    · rw [z]; exact ⟨o, ho, fun v q => by rw [hd] at q; cases q⟩
  keep := fun i h h' st k => let ⟨⟨old, he⟩, hi, hne⟩ := st; ⟨⟨old, k e (by simp) _ he⟩, hi.at fun o q => k it (by simp) o q, hne⟩
  item := by
    intro X hP hw hK hc i pins s σ H E I hf st hg
    subst hP hw hK
    obtain ⟨⟨old, he⟩, hit, hne⟩ := st
    obtain ⟨xs, x, hq, hx⟩ := hg
    obtain ⟨its, rv, p, hz⟩ := I.tuple hq
    obtain ⟨u, hu, ru⟩ := rv.get hx
    have ht : s.heap.IsTuple a its.toArray := p
    have hel : e < s.heap.objs.size := Heap.lt_size he
    have hil : it < s.heap.objs.size := by obtain ⟨_, q, _⟩ := hit; exact Heap.lt_size q
    have nai : a ≠ it := fun z => by
      obtain ⟨o, ho, hc', hd⟩ := hit
      obtain ⟨o2, ho2, hc2, n2, hd2⟩ := ht
      rw [z, ho] at ho2
      cases ho2
      rw [hd] at hd2; cases hd2
    have nae : e ∉ [it, a] := fun z => by
      rcases List.mem_cons.mp z with z | z
      · exact hne z
      · rw [List.mem_singleton.mp z] at he
        obtain ⟨o2, ho2, hc2, n2, hd2⟩ := ht
        have he' := he
        unfold IsEnum at he'
        rw [ho2] at he'
        cases Option.some.inj he'
        cases hd2
    have D := Draws.tuple (prog := X.prog) (w := X.w) (A := X.A.in1) (show X.A.in1.handled = none from I.ok.hd hc) it a nai its.toArray
    have hlt : i < its.toArray.size := by
      have := (List.getElem?_eq_some_iff.mp hu).1
      simpa using this
    refine wpAny_pyNext_enum_itemD D he ⟨hit, ht⟩ hlt hne nae fun x' h' tk px ho st' hT hsz hk => ?_
    have ex : x' = u := by
      have : its.toArray[i]? = some x' := px
      rw [List.getElem?_toArray, hu] at this
      exact (Option.some.inj this).symm
    subst ex
    refine ⟨_, rfl, wpAny_letOwnedTupleGo_enum (s := { s with heap := h', toks := tk + 1 }) ho fun h'' he' sb => ?_⟩
    have hT2 : h''.get? s.heap.objs.size = some { cls := .type "tuple", data := .seq #[.int i tk, x'] } := (sb.2 _ (Nat.ne_of_gt hel)).trans hT
    have new : ObjOk X.prog X.w (upd H s.heap.objs.size (.tup [.int (i : Nat), x])) h'' s.heap.objs.size (.tup [.int (i : Nat), x]) :=
      ⟨by show 2 ≤ sizeLine; decide, [.int i tk, x'], .cons ⟨_, rfl⟩ (.cons ru .nil), ⟨_, hT2, rfl, _, rfl⟩⟩
    have I1 : Inv X pins σ (upd H s.heap.objs.size (.tup [.int (i : Nat), x])) { s with heap := h'', toks := tk + 1 } :=
      I.turnedNew (ch := [e, it]) (fun b ob hb q => (sb.2 b (fun z => hb (by simp [z]))).trans (hk b ob (fun z => hb (by simp [z])) (fun z => hb (by simp [z])) q)) hf (Nat.le_refl _) new
    refine ⟨.ref s.heap.objs.size, _, I1, rfl, ⟨_, x, rfl, I.hok.fresh (Nat.le_refl _), rfl, fun ys hy => by rw [I.tuple_inj hy hq]; exact hx⟩, ⟨⟨x', ?_⟩, st'.1.at fun o q => (sb.2 it (Ne.symm hne)).trans q, hne⟩, fun b hb => ?_⟩
    · have e1 : ((i + 1 : Nat) : Int) = (i : Int) + 1 := by omega
      rw [e1]; exact he'
    · have hb' : b < s.heap.objs.size := by
        have e' : b = e ∨ b = it := by simpa using hb
        rcases e' with z | z
        · rw [z]; exact hel
        · rw [z]; exact hil
      rw [upd_ne (Nat.ne_of_lt hb')]
      exact (hf b hb).1
  done := by
    intro X hP hw hK hc i pins s σ H E I hf st hg
    subst hP hw hK
    obtain ⟨⟨old, he⟩, hit, hne⟩ := st
    obtain ⟨xs, hq, hx⟩ := hg
    obtain ⟨its, rv, p, hz⟩ := I.tuple hq
    have ht : s.heap.IsTuple a its.toArray := p
    obtain ⟨f0, f1, f2, f3, f4, f5⟩ := hf it (by simp)
    have hl := rv.length
    have nai : a ≠ it := fun z => by
      obtain ⟨o, ho, hc', hd⟩ := hit
      obtain ⟨o2, ho2, hc2, n2, hd2⟩ := ht
      rw [z, ho] at ho2
      cases ho2
      rw [hd] at hd2; cases hd2
    have D := Draws.tuple (prog := X.prog) (w := X.w) (A := X.A.in1) (show X.A.in1.handled = none from I.ok.hd hc) it a nai its.toArray
    have en : i = its.toArray.size := by simp; omega
    refine wpAny_pyNext_enum_endD D he (by rw [← en]; exact ⟨hit, ht⟩) fun h' eb => ⟨rfl, I.turned (t' := s.toks) (fun b o hb q => eb b o hb q) f0 f1 f3 f4 f5⟩
  self := fun A i s Q E st h => let ⟨⟨_, he⟩, _⟩ := st; wpAny_pyIter_enum he h
def iEnumT (K : PySem.W.Frag) (ta : TA) : TI := fun σ H R => ta σ H fun vs H1 => ∃ a xs, vs = [.ref a] ∧ SqT K H1 a xs ∧ R (IteT K a) H1
theorem pi_enumT {X : Cx} {e : Expr} {ta : TA} {p pos tpos : Pos} {elts : List Expr} {kk : Nat} (hg : Gl X "enumerate") (hm : X.mg "enumerate" = none) (ha : PA X [e] ta) (hs : starEach [e] X.env = [(false, eval e X.env)] := by rfl) :
    PI X (.Tuple elts kk tpos) (.Call (.Name "enumerate" p) [e] [] pos) (iEnumT X.K ta) := by
  refine ⟨fun pins s σ H R I h => ?_⟩
  refine Call_ (ld_blt I hg hm boot_enumerate (PyProof.Rows.callWith_type1 (thn (ha.run pos pins s σ H _ I h) fun us s1 ⟨vs, H1, I1, r1, q1⟩ => ?_) hs rfl))
  obtain ⟨a, xs, ex, hq, q⟩ := q1
  subst ex
  cases r1 with
  | cons r rr =>
    cases rr
    cases r
    obtain ⟨its, rv, p', hz⟩ := I1.tuple hq
    refine cm_call_enum (begins_tuple a its.toArray) (show s1.heap.IsTuple a its.toArray from p') fun h' he hit hsz hk => wpAny_pyIter_enum he ?_
    have I2 : Inv X pins σ H1 { s1 with heap := h' } := I1.kept (t' := s1.toks) hk
    refine ⟨s1.heap.objs.size + 1, [s1.heap.objs.size + 1, s1.heap.objs.size], _, _, H1, rfl, I2, turn_enumT a (s1.heap.objs.size + 1) s1.heap.objs.size, ⟨⟨.none, he⟩, ⟨_, hit, rfl, rfl⟩, Nat.succ_ne_self _⟩, fun b hb => ?_, q⟩
    have e' : b = s1.heap.objs.size + 1 ∨ b = s1.heap.objs.size := by simpa using hb
    have hle : s1.heap.objs.size ≤ b := by
      rcases e' with z | z
      · rw [z]; exact Nat.le_add_right _ _
      · rw [z]; exact Nat.le_refl _
    exact I1.fpOk hle (I1.hok.fresh hle)
section
variable {X : Cx} {elts : List Expr} {kk : Nat} {tpos : Pos}
/-- enumerate of a tuple -/
def dIEnumT (t : TDA) : TDI := fun δ G R => t δ G fun xs G1 => ∃ ds, xs = [.tup ds] ∧ R (nmbd ds) (fun _ => True) G1
theorem di_enumT {a : Expr} {t : TDA} {p pos : Pos} (hm : X.mg "enumerate" = none) (hg : Gl X "enumerate") (ha : DA X [a] t) (hs : starEach [a] X.env = [(false, eval a X.env)] := by rfl) : DI X (.Tuple elts kk tpos) (.Call (.Name "enumerate" p) [a] [] pos) (dIEnumT t) :=
  PI_mono (pi_enumT hg hm ha hs) fun σ H R' ⟨δ, G, R, sl, w, q, f⟩ => ⟨δ, G, _, sl, w, q, fun ds G1 vs H1 ⟨xs, e, q1⟩ t1 w1 r1 => by
    subst e
    cases r1 with
    | cons ra rb =>
      cases rb
      obtain ⟨a, us, rfl, s, r⟩ := ra.tupD
      refine ⟨a, us, rfl, s, f _ _ _ _ _ q1 t1 w1 ⟨fun i H2 G2 t2 w2 l2 hi => ?_, fun i H2 G2 x H3 t2 w2 l2 hi y => ?_, fun i H2 G2 t2 w2 l2 hi => ?_⟩⟩
      · rw [nmbd_len] at hi
        obtain ⟨x, hx, _⟩ := r.get (List.getElem?_eq_getElem hi)
        exact ⟨us, x, t2 _ _ s, hx⟩
      · obtain ⟨T, x, rfl, nT, rfl, y⟩ := y
        obtain ⟨d, hd, rd⟩ := (r.mono t2).getV (y us (t2 _ _ s))
        have s' := same_new nT (.tup [.int (i : Nat), x])
        exact ⟨s', _, nmbd_get hd, .tup (SqT.of upd_same) (.cons (.int _) (.cons (rd.mono (.of s')) .nil))⟩
      · rw [nmbd_len] at hi
        exact ⟨us, t2 _ _ s, by rw [r.len]; exact hi.symm⟩⟩
end
end DD
namespace PySem.W
open PySem PySem.Calls PyProof.Rows
section
variable {prog : Program} {w : World} {A : Around} {E : Value → Shared → Prop} {s : Shared}
theorem cm_collect_tup {l : Addr} {vs : List Value} {Q : List Value → Shared → Prop} (hl : s.heap.IsTuple l vs.toArray)
    (h : Q vs { s with heap := (s.heap.push (seqObj "list" #[] 0)).update s.heap.objs.size (Obj.mapSeq (· ++ vs.toArray)) }) (hsz : vs.length ≤ sizeLine := by size_fits) :
    wpAny (model prog w) A (collect (.ref l)) Q E s := by
  obtain ⟨o, ho, hc, n, hd⟩ := id hl
  unfold collect
  refine wpAny_bind (wpAny_runValue (codeAny_builtin entry_proto_collect' ?_))
  show wpAny _ _ (do again (.builtin "list.__iadd__" ⟨[← newList [], .ref l], []⟩)) _ _ s
  refine wpAny_bind (wpAny_newList (wpAny_pure ⟨Code.quiet_builtin _ (by decide +kernel), codeAny_builtin entry_list_iadd' ?_⟩))
  show wpAny _ _ (Builtin.List.listExtendWith (.ref s.heap.objs.size) (.ref l) (.ref s.heap.objs.size)) _ _ { s with heap := s.heap.push (seqObj "list" #[] 0) }
  unfold Builtin.List.listExtendWith
  have ho' : (s.heap.push (seqObj "list" #[] 0)).get? l = some o := Heap.get?_push_of_some _ ho
  refine wpAny_bind (wpAny_typeOf (T := "tuple") ⟨o, ho', hc⟩ ?_)
  have ht : (Value.type "tuple" == Value.type "tuple") = true := by rfl
  rw [if_pos (by rw [ht]; simp)]
  refine wpAny_bind (listItems_at ho' hd ?_)
  refine wpAny_bind (listItems_at (xs := #[]) (n := 0) (Heap.get?_push_size _ rfl) rfl ?_)
  rw [if_neg (by simp)]
  refine wpAny_bind (listUpdate_at (xs := #[]) (n := 0) (Heap.get?_push_size _ rfl) rfl ?_ (Nat.zero_le _) (by show (#[] ++ vs.toArray).size ≤ sizeLine + 1; simp only [Array.size_append, List.size_toArray, List.length_nil]; omega))
  refine wpAny_pure ?_
  show wpAny (model prog w) A (do
      let o ← load s.heap.objs.size
      match o.data with
      | .seq xs _ => pure xs.toList
      | _ => unsupported "internal:collect") Q E { s with heap := (s.heap.push (seqObj "list" #[] 0)).update s.heap.objs.size (Obj.mapSeq (· ++ vs.toArray)) }
  refine wpAny_bind (wpAny_load (get?_update_seq (Heap.get?_push_size _ rfl) _) ?_)
  show wpAny _ _ (pure ((#[] : Array Value) ++ vs.toArray).toList) Q E _
  rw [show ((#[] : Array Value) ++ vs.toArray).toList = vs by simp]
  exact wpAny_pure h
theorem cm_sorted_of_sortT {l : Addr} {vs : List Value} {kw : List (Str × Value)} {Q : Value → Shared → Prop} (hl : s.heap.IsTuple l vs.toArray) (hL : vs.length ≤ sizeLine) (ha1 : argsOk "sorted" ⟨[.ref l], kw⟩) (ha2 : ∀ x, argsOk "list.sort" ⟨[.ref x], kw⟩)
    (body : ∀ E' : Value → Shared → Prop, wpAny (model prog w) A.in1.in1 (Builtin.«list.sort» ⟨[.ref (s.heap.objs.size + 1)], kw⟩) (fun f s' => f = .done (.ret .none) ∧ Q (.ref (s.heap.objs.size + 1)) s') E' { s with heap := copyHeap s.heap vs }) :
    wpAny (model prog w) A (call (.builtin "sorted") [.ref l] kw) Q E s := by
  refine call_function_entry_kw kind_sorted plain_sorted entry_sorted ha1 ?_
  unfold Builtin.«sorted»
  refine wpAny_bind (m := checkCount "sorted" 1 1 _) (wpAny_pure ?_)
  refine wpAny_bind (cm_collect_tup hl ?_ hL)
  refine wpAny_bind (wpAny_newList ?_ hL)
  have hsz : ((s.heap.push (seqObj "list" #[] 0)).update s.heap.objs.size (Obj.mapSeq (· ++ vs.toArray))).objs.size = s.heap.objs.size + 1 := by
    rw [Heap.size_update, size_push']
  show wpAny _ _ _ _ _ { s with heap := copyHeap s.heap vs }
  rw [hsz]
  refine wpAny_bind (wpAny_holding (wpAny_call_entry_kw slot_list_sort ⟨_, copyHeap_at s.heap vs, rfl⟩ entry_list_sort ?body (ha2 _)))
  case body =>
    show wpAny (model prog w) A.in1.in1 (Builtin.«list.sort» ⟨[.ref (s.heap.objs.size + 1)], kw⟩) _ _ _
    refine wpAny_mono (body _) (fun f s' hf => ?_) fun _ _ e => e
    obtain ⟨rfl, hq⟩ := hf
    exact ⟨_, rfl, wpAny_pure ⟨_, rfl, hq⟩⟩
theorem cm_sorted_dataT {β : Type} {vs : List Value} {bs : List β} {enc : β → PyData} {R : Value → β → Prop} {l : Addr} {Q : Value → Shared → Prop} (hl : s.heap.IsTuple l vs.toArray) (e : EachIs R vs bs) (er : EachIs (fun v b => ∃ as, Reads s.heap v (enc b) as) vs bs) (hal : AllAlike (bs.map enc)) (hk : Sortable (bs.map enc)) (hL : bs.length ≤ sizeLine)
    (hu : ∀ b, b ∈ bs → A.units + 2 + (enc b).depth < cLine) (h : ∀ out, out.length = bs.length → EachIs R out (bs.mergeSort (dataLe false enc)) → Q (.ref (s.heap.objs.size + 1)) { s with heap := sortedAll s.heap vs (List.toArray out) }) :
    wpAny (model prog w) A (call (.builtin "sorted") [.ref l]) Q E s := by
  have er' : EachIs (fun v b => ∃ as, Reads (sortingHeap (copyHeap s.heap vs) (s.heap.objs.size + 1) vs) v (enc b) as) vs bs := er.mono fun _ _ ⟨as, r⟩ => ⟨as, PyProof.Rows.Reads.keeps (fun _ _ => sorting_copy_old) r⟩
  have hL' : vs.length ≤ sizeLine := by rw [e.length]; exact hL
  exact cm_sorted_of_sortT hl hL' (args_sorted1 _) (fun _ => args_list_sort _) fun _ => list_sort_vals (s := { s with heap := copyHeap s.heap vs }) (copyHeap_at s.heap vs) (SortsAt.data (s := { s with heap := sortingHeap (copyHeap s.heap vs) (s.heap.objs.size + 1) vs }) (each_map (R := fun v d => ∃ as, Reads (sortingHeap (copyHeap s.heap vs) (s.heap.objs.size + 1) vs) v d as) enc er') hal hk (bound_map hu)) hL'
    ⟨rfl, h _ (by rw [sortVals_length false rfl]; exact e.length) (sortVals_data false e er' hal)⟩
end
end PySem.W
namespace DD
open PySem PySem.W L2 SX Cm PyProof.Rows
def plE (p : List Int) : PyData := .tuple (p.map .int)
theorem each_zip {vs : List Value} {bs : List (List Int)} : ∀ (h : vs.length = bs.length), EachIs (fun v (b : Value × List Int) => v = b.1) vs (vs.zip bs) := by
  induction vs generalizing bs with
  | nil => intro _; exact .nil
  | cons v r ih =>
    intro h
    cases bs with
    | nil => cases h
    | cons b s => exact .cons rfl (ih (by simpa using h))
theorem each_fst {out : List Value} {zs : List (Value × List Int)} (h : EachIs (fun v (b : Value × List Int) => v = b.1) out zs) : out = zs.map (·.1) := by
  induction h with
  | nil => rfl
  | cons r _ ih => rw [List.map_cons, ← r, ← ih]
/-- sorted of a tuple of places that rise already -/
def rSortT (K : Frag) : List V → Hp → VK → Prop := fun xs H Q => ∃ (a : Addr) (vs : List V) (pls : List (List Int)), xs = [.ref a] ∧ SqT K H a vs ∧ DpAll K H vs (pls.map plE) ∧ (∀ p ∈ pls, p ≠ []) ∧ pls.Pairwise (fun p q => ¬ q < p) ∧ ∀ r, H r = none → Q (.ref r) (upd H r (.lst vs))
theorem dpAll_len {K : Frag} {H : Hp} : ∀ {vs : List V} {ds : List PyData}, DpAll K H vs ds → vs.length = ds.length
  | _, _, .nil => rfl
  | _, _, .cons _ t => congrArg (· + 1) (dpAll_len t)
theorem readsAll_zip {h : Heap} : ∀ {us : List Value} {bs : List (List Int)} {as : List Addr}, ReadsAll h us (bs.map plE) as → EachIs (fun v (b : Value × List Int) => ∃ as, Reads h v (plE b.2) as) us (us.zip bs)
  | _, [], _, r => by cases r; exact .nil
  | _, b :: bs, _, r => by
    cases r with
    | cons r1 r2 => exact .cons ⟨_, r1⟩ (readsAll_zip r2)
theorem cr_sortT {X : Cx} (hu : X.A.units + 64 < cLine) : CallR X (.builtin "sorted") (rSortT X.K) := by
  intro pins s σ H vs us Q I r h
  obtain ⟨a, ws, pls, rfl, hs, hd, hne, hpw, q⟩ := h
  obtain ⟨its, rv, hl, hz⟩ := I.tuple hs
  rw [Vals.ref1 r]
  obtain ⟨as, hr⟩ := Dp.readsAll I _ _ its hd rv
  have l1 : its.length = pls.length := by
    have := dpAll_len hd
    rw [List.length_map] at this
    rw [← rv.length, this]
  have ezip : (its.zip pls).map (·.1) = its := List.map_fst_zip (by omega)
  have ezip2 : (its.zip pls).map (·.2) = pls := List.map_snd_zip (by omega)
  have al : ∀ x y : List Int, alike (plE x) (plE y) = true := fun x y => by
    show alike (.tuple (x.map .int)) (.tuple (y.map .int)) = true
    simp only [alike]
    exact alike_ints x y
  refine cm_sorted_dataT (bs := its.zip pls) (enc := fun b => plE b.2) (show s.heap.IsTuple a its.toArray from hl) (each_zip l1) (readsAll_zip hr) (AllAlike.of fun b b' => al _ _) (.inl fun d hm => ?_) ?_ (fun b hb => ?_) fun out ho he => ?_
  · obtain ⟨b, hb, rfl⟩ := List.mem_map.mp hm
    have hb2 : b.2 ∈ pls := by rw [← ezip2]; exact List.mem_map.mpr ⟨b, hb, rfl⟩
    cases hp : b.2 with
    | nil => exact absurd hp (hne _ hb2)
    | cons x r => exact ⟨.int x, r.map .int, by show PyData.tuple _ = _; rw [List.map_cons]⟩
  · rw [List.length_zip, l1, Nat.min_self, ← l1, ← rv.length]; exact hz
  · have : (plE b.2).depth = 1 := by
      show (PyData.tuple (b.2.map .int)).depth = 1
      simp only [PyData.depth, depth_ints]
    rw [this]; omega
  · have hsorted : (its.zip pls).mergeSort (dataLe false fun b => plE b.2) = its.zip pls := by
      refine List.mergeSort_of_pairwise ?_
      have : ((its.zip pls).map (·.2)).Pairwise (fun p q => ¬ q < p) := by rw [ezip2]; exact hpw
      rw [List.pairwise_map] at this
      refine this.imp fun {x y} hxy => ?_
      show (!dataLt (plE y.2) (plE x.2)) = true
      unfold plE
      rw [dataLt_tuple]
      show (!rowLt (y.2.map .int) (x.2.map .int)) = true
      rw [dataLt_ints, decide_eq_false hxy]; rfl
    rw [hsorted] at he
    have eo := each_fst he
    rw [ezip] at eo
    rw [eo]
    obtain ⟨ep, he'⟩ := PyProof.Rows.sortedAll_at s.heap its its.toArray
    exact ⟨.ref _, upd H (s.heap.objs.size + 1) (.lst ws), I.laid (t' := s.toks) (fun _ _ => PyProof.Rows.sortedAll_old) (Nat.le_succ _) ⟨hz, its, ep, rv, he'⟩, rfl, q _ (I.hok.fresh (Nat.le_succ _))⟩
def plD (p : List Int) : DV := .tup (p.map .int)
section
variable {X : Cx}
def bSortT : DC
  | [.tup ds], G, Q => ∃ pls : List (List Int), ds = pls.map plD ∧ (∀ p ∈ pls, p ≠ []) ∧ pls.Pairwise (fun p q => ¬ q < p) ∧ ∀ r, G r = none → Q (.ref r) (dupd G r (.lst ds))
  | _, _, _ => False
theorem pures_ints : ∀ p : List Int, pures (p.map DV.int) = true
  | [] => rfl
  | x :: r => by show (true && _) = true; rw [pures_ints r]; rfl
theorem pures_pl : ∀ ps : List (List Int), pures (ps.map plD) = true
  | [] => rfl
  | p :: r => by show (pures _ && _) = true; rw [pures_ints p, pures_pl r]; rfl
theorem dats_ints : ∀ p : List Int, dats (p.map DV.int) = p.map .int
  | [] => rfl
  | x :: r => by show PyData.int x :: _ = _; rw [dats_ints r]; rfl
theorem dats_pl : ∀ ps : List (List Int), dats (ps.map plD) = ps.map plE
  | [] => rfl
  | p :: r => by show PyData.tuple (dats (p.map DV.int)) :: dats (r.map plD) = _; rw [dats_ints p, dats_pl r]; rfl
theorem cd_sortT (hu : X.A.units + 64 < cLine) : CallD X (.builtin "sorted") bSortT := by
  refine ⟨_, cr_sortT hu, fun ds vs H G R Q r w h f => ?_⟩
  cases r with
  | nil => exact h.elim
  | cons rv rt =>
    cases rt with
    | cons _ _ => cases rv <;> exact h.elim
    | nil =>
      cases rv with
      | tup s r =>
        rename_i a xs ds
        obtain ⟨pls, rfl, h1, h2, q⟩ := h
        have hd := r.dp (pures_pl pls)
        rw [dats_pl] at hd
        refine ⟨a, xs, pls, rfl, s, hd, h1, h2, fun l nl => ?_⟩
        have s' := same_new nl (.lst xs)
        exact f _ _ _ _ (q l (w.free nl)) (TKs.of s') (w.new nl fun O => ⟨_, upd_same, r.mono (.of s')⟩) (.ref l)
      | _ => exact h.elim
end
end DD
namespace DD
open PySem PySem.W L2 SX Cm
/-- the names of built-ins are still theirs -/
structure BI (mg : Str → Option Value) : Prop where
  len : mg "len" = none
  isi : mg "isinstance" = none
  int : mg "int" = none
  str : mg "str" = none
  tup : mg "tuple" = none
  lst : mg "list" = none
  bool : mg "bool" = none
  dct : mg "dict" = none
  all : mg "all" = none
  any : mg "any" = none
  sum : mg "sum" = none
  sorted : mg "sorted" = none
  set : mg "set" = none
  range : mg "range" = none
  enum : mg "enumerate" = none
  zip : mg "zip" = none
  rev : mg "reversed" = none
/-- the def nm stands at its place -/
def At (K : Frag) (mg : Str → Option Value) (nm : Str) (st : Stmt) (ps : List Str) : Prop := ∃ f fd, Fun K nm nm st f fd ∧ L2.Binds K fd ps [] ∧ mg nm = some (.ref f)
section
variable {P : Program} {w : World} {K : Frag} {mg : Str → Option Value} {base : Heap}
theorem at_mk {nm : Str} {st : Stmt} {N ps : List Str} {k : Nat} {dsp : DSp} (a : At K mg nm st ps) (S : FnScope N ps (defScope st))
    (body : ∀ (f : Addr) (cdv : Value) (A : Around) (outer : List Env) (s : Shared) (H : Hp) (E : XK), Room k (A.deeper (PyProof.Rows.envOfC nm (defScope st) s.heap.objs.size f cdv)) → ∀ ds G R, ds.length = ps.length → dsp ds G R →
      ∃ t, DSs (cxOf CX0 P w K mg base N nm (defScope st) f cdv A outer s H E).nox (defBody st) t ∧ t { nx := fun _ G => Less R .non G, rt := Less R } (dstart N ds) G) : Has P w K mg base (k + 1) nm ps dsp := by
  obtain ⟨f, fd, F, b, m⟩ := a
  exact has_mk F b m S (body f)
/-- a promise about the heap gives one about data -/
theorem has_of {nm : Str} {st : Stmt} {ps : List Str} {k : Nat} {sp : Sp} {dsp : DSp} (a : At K mg nm st ps) (h : ∀ f fd, Fun K nm nm st f fd → FnOk P w K mg base CX0 k f fd ps sp) (i : ∀ vs H Q E, toSp K ps.length dsp vs H Q E → sp vs H Q E) : Has P w K mg base k nm ps dsp := by
  obtain ⟨f, fd, F, b, m⟩ := a
  exact ⟨f, fd, (h f fd F).imp i, b, F.kp, m, F.look⟩
end
section
variable {X : Cx}
theorem dv (i : Nat) {x : Str} {pos : Pos} (hN : X.N[i]? = some x := by rfl) (hv : Vis X.env.scope x := by first | exact Or.inl rfl | exact Or.inr (Or.inl rfl) | exact Or.inr (Or.inr rfl)) (hd : (x == ("__debug__" : Str)) = false := by decide)
    (hcd : (x == ("__classdict__" : Str)) = false := by decide) : DE X (.Name x pos) (dVar i) := de_var hN hv hd hcd
/-- reversed(range(n)) -/
def dIRevR (t : TDA) : TDI := fun δ G R => t δ G fun ds G1 => ∃ j : Int, ds = [.int j] ∧ 0 ≤ j ∧ j < 2 ^ 62 ∧ R (rng 0 j.toNat).reverse (fun _ => True) G1
theorem rngRev_get {n i : Nat} (h : i < n) : (rng 0 n).reverse[i]? = some (.int ((n : Int) - 1 - (i : Nat))) := by
  rw [List.getElem?_reverse (by rw [rng_len]; exact h), rng_len, rng_get (by omega)]
  congr 2
  omega
theorem di_revR {a : Expr} {te : TD} {tg : Expr} {p p2 pos pos2 : Pos} (hm : X.mg "reversed" = none) (hm2 : X.mg "range" = none) (hg : Gl X "reversed") (hg2 : Gl X "range") (ha : DE X a te) (hs : starEach [(.Call (.Name "range" p2) [a] [] pos2 : Expr)] X.env = (false, eval (.Call (.Name "range" p2) [a] [] pos2) X.env) :: starEach [] X.env := by rfl) (na : starEach [a] X.env = (false, eval a X.env) :: starEach [] X.env := by rfl) :
    DI X tg (.Call (.Name "reversed" p) [.Call (.Name "range" p2) [a] [] pos2] [] pos) (dIRevR (dCons te dNil)) := by
  refine PI_mono (pi_revR hg hm (prg_1 hg2 hm2 ha na) hs) fun σ H R' ⟨δ, G, R, sl, w, q, f⟩ => ⟨δ, G, _, sl, w, q, fun d G1 v H1 q1 t1 w1 r1 => ?_⟩
  obtain ⟨j, e, j0, j1, q1⟩ := q1
  cases e
  cases r1
  refine ⟨j, rfl, by omega, by omega, by omega, by omega, f _ _ _ _ _ q1 t1 w1 ⟨fun i H2 G2 t2 w2 l2 hi => ?_, fun i H2 G2 x H3 t2 w2 l2 hi y => ?_, fun i H2 G2 t2 w2 l2 hi => ?_⟩⟩
  · rw [List.length_reverse, rng_len] at hi
    show i < (j - 0).toNat
    omega
  · rw [List.length_reverse, rng_len] at hi
    obtain ⟨rfl, rfl⟩ := y
    refine ⟨Same.refl _, _, rngRev_get hi, ?_⟩
    have : (0 : Int) + (((j - 0).toNat : Nat) : Int) - 1 + (i : Nat) * (-1) = ((j.toNat : Nat) : Int) - 1 - (i : Nat) := by omega
    rw [this]
    exact .int _
  · rw [List.length_reverse, rng_len] at hi
    show (j - 0).toNat ≤ i
    omega
end
end DD
/-! things, words and rows as they are, and as data -/
namespace DD
open PySem PySem.W L2 SX Cm
theorem iT {A B : Prop} {c : Bool} (h : A) (hc : c = true := by rfl) : if c = true then A else B := by rw [if_pos hc]; exact h
theorem iF {A B : Prop} {c : Bool} (h : B) (hc : c = false := by rfl) : if c = true then A else B := by rw [if_neg (by rw [hc]; exact Bool.false_ne_true)]; exact h
theorem ly1 {i : Nat} {d : DV} {δ : DSt} {G : DG} {k : DSt → Bool → DG → Prop} (h : k (δ.set i (some d)) true G) : l1 i d δ (fun δ2 => dYes δ2 G (k δ2)) := h
theorem ly2 {i j : Nat} {a b : DV} {δ : DSt} {G : DG} {k : DSt → Bool → DG → Prop} (h : k ((δ.set i (some a)).set j (some b)) true G) : l2 i j (.tup [a, b]) δ (fun δ2 => dYes δ2 G (k δ2)) := ⟨a, b, rfl, h⟩
theorem lt1' {i : Nat} {d : DV} {δ : DSt} {k : DSt → Prop} (h : k (δ.set i (some d))) : l1 i d δ k := h
theorem Sub.at_ {G G' : DG} {p : Addr} {o : DO} (s : Sub G G') (h : G' p = some o) : Sub (dupd G p o) G' := fun a u e => by
  by_cases z : a = p
  · subst z; rw [dupd_same] at e; rw [h]; exact e
  · rw [dupd_ne z] at e; exact s a u e
theorem Sub.nonew {G G' : DG} {p : Addr} (s : Sub G G') (n : G' p = none) : G p = none := by
  cases e : G p with
  | none => rfl
  | some o => rw [s p o e] at n; cases n
theorem ne_some {G : DG} {a b : Addr} {o : DO} (h : G a = some o) (n : G b = none) : a ≠ b := fun z => by rw [z, n] at h; cases h
theorem sz0 : (0 : Nat) ≤ sizeLine := by decide
theorem sz1 : (1 : Nat) ≤ sizeLine := by decide
theorem sz2 : (2 : Nat) ≤ sizeLine := by decide
theorem sz3 : (3 : Nat) ≤ sizeLine := by decide
theorem sz4 : (4 : Nat) ≤ sizeLine := by decide
theorem sz6 : (6 : Nat) ≤ sizeLine := by decide
mutual
inductive Th where
  | num (n : Int)
  | row (ws : List Wo)
  | lst (ts : List Th)
inductive Wo where
  | txt (z : Str)
  | push (t : Th)
end
mutual
def eT : Th → DV
  | .num n => .tup [.str "number", .int n]
  | .row ws => .tup [.str "row", .tup (eWs ws)]
  | .lst ts => .tup [.str "list", .tup (eTs ts)]
def eW : Wo → DV
  | .txt z => .str z
  | .push t => .tup [.str "push", eT t]
def eWs : List Wo → List DV
  | [] => []
  | w :: r => eW w :: eWs r
def eTs : List Th → List DV
  | [] => []
  | t :: r => eT t :: eTs r
end
mutual
/-- how many parts in all -/
def szT : Th → Nat
  | .num _ => 1
  | .row ws => 1 + szWs ws
  | .lst ts => 1 + szTs ts
def szW : Wo → Nat
  | .txt _ => 1
  | .push t => 1 + szT t
def szWs : List Wo → Nat
  | [] => 0
  | w :: r => szW w + szWs r
def szTs : List Th → Nat
  | [] => 0
  | t :: r => szT t + szTs r
end
mutual
def dpT : Th → Nat
  | .num _ => 0
  | .row ws => 1 + dpWs ws
  | .lst ts => 1 + dpTs ts
def dpW : Wo → Nat
  | .txt _ => 0
  | .push t => dpT t
def dpWs : List Wo → Nat
  | [] => 0
  | w :: r => max (dpW w) (dpWs r)
def dpTs : List Th → Nat
  | [] => 0
  | t :: r => max (dpT t) (dpTs r)
end
mutual
/-- its texts are texts -/
def txT : Th → Bool
  | .num _ => true
  | .row ws => txWs ws
  | .lst ts => txTs ts
def txW : Wo → Bool
  | .txt z => PyData.strOk z
  | .push t => txT t
def txWs : List Wo → Bool
  | [] => true
  | w :: r => txW w && txWs r
def txTs : List Th → Bool
  | [] => true
  | t :: r => txT t && txTs r
end
theorem eWs_len : ∀ ws, (eWs ws).length = ws.length
  | [] => rfl
  | w :: r => congrArg (· + 1) (eWs_len r)
theorem eTs_len : ∀ ws, (eTs ws).length = ws.length
  | [] => rfl
  | w :: r => congrArg (· + 1) (eTs_len r)
theorem eWs_map : ∀ ws, eWs ws = ws.map eW
  | [] => rfl
  | w :: r => by show eW w :: eWs r = _; rw [eWs_map r]; rfl
theorem eTs_map : ∀ ws, eTs ws = ws.map eT
  | [] => rfl
  | w :: r => by show eT w :: eTs r = _; rw [eTs_map r]; rfl
theorem szW_pos : ∀ w, 1 ≤ szW w
  | .txt _ => Nat.le_refl 1
  | .push t => by show 1 ≤ 1 + _; omega
theorem szT_pos : ∀ t, 1 ≤ szT t
  | .num _ => Nat.le_refl 1
  | .row _ => by show 1 ≤ 1 + _; omega
  | .lst _ => by show 1 ≤ 1 + _; omega
theorem szWs_len : ∀ ws, ws.length ≤ szWs ws
  | [] => Nat.le_refl 0
  | w :: r => by have := szW_pos w; have := szWs_len r; show r.length + 1 ≤ szW w + szWs r; omega
theorem szTs_len : ∀ ws, ws.length ≤ szTs ws
  | [] => Nat.le_refl 0
  | w :: r => by have := szT_pos w; have := szTs_len r; show r.length + 1 ≤ szT w + szTs r; omega
theorem szWs_app : ∀ a b, szWs (a ++ b) = szWs a + szWs b
  | [], b => (Nat.zero_add _).symm
  | w :: r, b => by show szW w + szWs (r ++ b) = szW w + szWs r + szWs b; rw [szWs_app r b]; omega
theorem szTs_app : ∀ a b, szTs (a ++ b) = szTs a + szTs b
  | [], b => (Nat.zero_add _).symm
  | w :: r, b => by show szT w + szTs (r ++ b) = szT w + szTs r + szTs b; rw [szTs_app r b]; omega
theorem dpWs_app : ∀ a b, dpWs (a ++ b) = max (dpWs a) (dpWs b)
  | [], b => by show dpWs b = max 0 _; omega
  | w :: r, b => by show max (dpW w) (dpWs (r ++ b)) = max (max (dpW w) (dpWs r)) (dpWs b); rw [dpWs_app r b]; omega
theorem dpTs_app : ∀ a b, dpTs (a ++ b) = max (dpTs a) (dpTs b)
  | [], b => by show dpTs b = max 0 _; omega
  | w :: r, b => by show max (dpT w) (dpTs (r ++ b)) = max (max (dpT w) (dpTs r)) (dpTs b); rw [dpTs_app r b]; omega
theorem txWs_app : ∀ a b, txWs (a ++ b) = (txWs a && txWs b)
  | [], b => rfl
  | w :: r, b => by show (txW w && txWs (r ++ b)) = (txW w && txWs r && txWs b); rw [txWs_app r b, Bool.and_assoc]
theorem txTs_app : ∀ a b, txTs (a ++ b) = (txTs a && txTs b)
  | [], b => rfl
  | w :: r, b => by show (txT w && txTs (r ++ b)) = (txT w && txTs r && txTs b); rw [txTs_app r b, Bool.and_assoc]
/-- a row, a thing: not too deep, not too large, of texts -/
structure GW (k m : Nat) (ws : List Wo) : Prop where
  dp : dpWs ws ≤ k
  sz : szWs ws ≤ m
  tx : txWs ws = true
structure GT (k m : Nat) (t : Th) : Prop where
  dp : dpT t ≤ k
  sz : szT t ≤ m
  tx : txT t = true
structure GTs (k m : Nat) (ts : List Th) : Prop where
  dp : dpTs ts ≤ k
  sz : szTs ts ≤ m
  tx : txTs ts = true
theorem GW.nil {k m : Nat} : GW k m [] := ⟨Nat.zero_le _, Nat.zero_le _, rfl⟩
theorem GTs.nil {k m : Nat} : GTs k m [] := ⟨Nat.zero_le _, Nat.zero_le _, rfl⟩
theorem GW.app {k m m' : Nat} {a b : List Wo} (h : GW k m a) (g : GW k m' b) : GW k (m + m') (a ++ b) :=
  ⟨by rw [dpWs_app]; have := h.dp; have := g.dp; omega, by rw [szWs_app]; have := h.sz; have := g.sz; omega, by rw [txWs_app, h.tx, g.tx]; rfl⟩
theorem GTs.app {k m m' : Nat} {a b : List Th} (h : GTs k m a) (g : GTs k m' b) : GTs k (m + m') (a ++ b) :=
  ⟨by rw [dpTs_app]; have := h.dp; have := g.dp; omega, by rw [szTs_app]; have := h.sz; have := g.sz; omega, by rw [txTs_app, h.tx, g.tx]; rfl⟩
theorem GW.left {k m : Nat} {a b : List Wo} (h : GW k m (a ++ b)) : GW k m a := by
  obtain ⟨h1, h2, h3⟩ := h
  rw [dpWs_app] at h1; rw [szWs_app] at h2; rw [txWs_app, Bool.and_eq_true] at h3
  exact ⟨by omega, by omega, h3.1⟩
theorem GW.txt {k : Nat} {z : Str} (h : PyData.strOk z = true) : GW k 1 [.txt z] := ⟨by show max 0 0 ≤ k; omega, Nat.le_refl 1, by show (PyData.strOk z && true) = true; rw [h]; rfl⟩
theorem GW.push {k m : Nat} {t : Th} (h : GT k m t) : GW k (m + 1) [.push t] := ⟨by show max (dpT t) 0 ≤ k; have := h.dp; omega, by show 1 + szT t + 0 ≤ m + 1; have := h.sz; omega, by show (txT t && true) = true; rw [h.tx]; rfl⟩
theorem GTs.one {k m : Nat} {t : Th} (h : GT k m t) : GTs k m [t] := ⟨by show max (dpT t) 0 ≤ k; have := h.dp; omega, by show szT t + 0 ≤ m; have := h.sz; omega, by show (txT t && true) = true; rw [h.tx]; rfl⟩
theorem GT.num {k m : Nat} (n : Int) (hm : 1 ≤ m) : GT k m (.num n) := ⟨Nat.zero_le _, hm, rfl⟩
theorem GT.row {k m : Nat} {ws : List Wo} (h : GW k m ws) : GT (k + 1) (m + 1) (.row ws) := ⟨by show 1 + dpWs ws ≤ _; have := h.dp; omega, by show 1 + szWs ws ≤ _; have := h.sz; omega, h.tx⟩
theorem GT.lst {k m : Nat} {ts : List Th} (h : GTs k m ts) : GT (k + 1) (m + 1) (.lst ts) := ⟨by show 1 + dpTs ts ≤ _; have := h.dp; omega, by show 1 + szTs ts ≤ _; have := h.sz; omega, h.tx⟩
theorem GT.up {k m k' m' : Nat} {t : Th} (h : GT k m t) (hk : k ≤ k') (hm : m ≤ m') : GT k' m' t := ⟨Nat.le_trans h.dp hk, Nat.le_trans h.sz hm, h.tx⟩
theorem GW.up {k m k' m' : Nat} {t : List Wo} (h : GW k m t) (hk : k ≤ k') (hm : m ≤ m') : GW k' m' t := ⟨Nat.le_trans h.dp hk, Nat.le_trans h.sz hm, h.tx⟩
theorem GTs.up {k m k' m' : Nat} {t : List Th} (h : GTs k m t) (hk : k ≤ k') (hm : m ≤ m') : GTs k' m' t := ⟨Nat.le_trans h.dp hk, Nat.le_trans h.sz hm, h.tx⟩
/-! comparing them -/
theorem ok_number : PyData.strOk "number" = true := by decide +kernel
theorem ok_row : PyData.strOk "row" = true := by decide +kernel
theorem ok_list : PyData.strOk "list" = true := by decide +kernel
theorem ok_push : PyData.strOk "push" = true := by decide +kernel
mutual
theorem eT_cmp : ∀ t, plain (eT t) = true ∧ dpt (eT t) ≤ 3 * dpT t + 1 ∧ (txT t = true → txB (eT t) = true)
  | .num n => ⟨rfl, by show 1 + max 0 (max 0 0) ≤ _; omega, fun _ => by show (PyData.strOk "number" && (true && true)) = true; rw [ok_number]; rfl⟩
  | .row ws => by
    obtain ⟨a, b, c⟩ := eWs_cmp ws
    refine ⟨by show (true && (plains (eWs ws) && true)) = true; rw [a]; rfl, by show 1 + max 0 (max (1 + dpts (eWs ws)) 0) ≤ 3 * (1 + dpWs ws) + 1; omega, fun h => ?_⟩
    show (PyData.strOk "row" && (txBs (eWs ws) && true)) = true
    rw [ok_row, c h]; rfl
  | .lst ts => by
    obtain ⟨a, b, c⟩ := eTs_cmp ts
    refine ⟨by show (true && (plains (eTs ts) && true)) = true; rw [a]; rfl, by show 1 + max 0 (max (1 + dpts (eTs ts)) 0) ≤ 3 * (1 + dpTs ts) + 1; omega, fun h => ?_⟩
    show (PyData.strOk "list" && (txBs (eTs ts) && true)) = true
    rw [ok_list, c h]; rfl
theorem eW_cmp : ∀ w, plain (eW w) = true ∧ dpt (eW w) ≤ 3 * dpW w + 2 ∧ (txW w = true → txB (eW w) = true)
  | .txt z => ⟨rfl, by show 0 ≤ _; omega, fun h => h⟩
  | .push t => by
    obtain ⟨a, b, c⟩ := eT_cmp t
    refine ⟨by show (true && (plain (eT t) && true)) = true; rw [a]; rfl, by show 1 + max 0 (max (dpt (eT t)) 0) ≤ 3 * dpT t + 2; omega, fun h => ?_⟩
    show (PyData.strOk "push" && (txB (eT t) && true)) = true
    rw [ok_push, c h]; rfl
theorem eWs_cmp : ∀ ws, plains (eWs ws) = true ∧ dpts (eWs ws) ≤ 3 * dpWs ws + 2 ∧ (txWs ws = true → txBs (eWs ws) = true)
  | [] => ⟨rfl, Nat.zero_le _, fun _ => rfl⟩
  | w :: r => by
    obtain ⟨a, b, c⟩ := eW_cmp w
    obtain ⟨a', b', c'⟩ := eWs_cmp r
    refine ⟨by show (plain (eW w) && plains (eWs r)) = true; rw [a, a']; rfl, by show max (dpt (eW w)) (dpts (eWs r)) ≤ 3 * max (dpW w) (dpWs r) + 2; omega, fun h => ?_⟩
    have h' : (txW w && txWs r) = true := h
    rw [Bool.and_eq_true] at h'
    show (txB (eW w) && txBs (eWs r)) = true
    rw [c h'.1, c' h'.2]; rfl
theorem eTs_cmp : ∀ ws, plains (eTs ws) = true ∧ dpts (eTs ws) ≤ 3 * dpTs ws + 1 ∧ (txTs ws = true → txBs (eTs ws) = true)
  | [] => ⟨rfl, Nat.zero_le _, fun _ => rfl⟩
  | w :: r => by
    obtain ⟨a, b, c⟩ := eT_cmp w
    obtain ⟨a', b', c'⟩ := eTs_cmp r
    refine ⟨by show (plain (eT w) && plains (eTs r)) = true; rw [a, a']; rfl, by show max (dpt (eT w)) (dpts (eTs r)) ≤ 3 * max (dpT w) (dpTs r) + 1; omega, fun h => ?_⟩
    have h' : (txT w && txTs r) = true := h
    rw [Bool.and_eq_true] at h'
    show (txB (eT w) && txBs (eTs r)) = true
    rw [c h'.1, c' h'.2]; rfl
end
theorem mem_szW {w : Wo} : ∀ {ws : List Wo}, w ∈ ws → szW w ≤ szWs ws ∧ dpW w ≤ dpWs ws ∧ (txWs ws = true → txW w = true)
  | a :: r, h => by
    rcases List.mem_cons.mp h with rfl | h
    · refine ⟨by show szW w ≤ szW w + szWs r; omega, by show dpW w ≤ max (dpW w) (dpWs r); omega, fun g => ?_⟩
      have g' : (txW w && txWs r) = true := g
      rw [Bool.and_eq_true] at g'; exact g'.1
    · obtain ⟨x, y, z⟩ := mem_szW h
      refine ⟨by show szW w ≤ szW a + szWs r; omega, by show dpW w ≤ max (dpW a) (dpWs r); omega, fun g => ?_⟩
      have g' : (txW a && txWs r) = true := g
      rw [Bool.and_eq_true] at g'; exact z g'.2
theorem mem_szT {w : Th} : ∀ {ws : List Th}, w ∈ ws → szT w ≤ szTs ws ∧ dpT w ≤ dpTs ws ∧ (txTs ws = true → txT w = true)
  | a :: r, h => by
    rcases List.mem_cons.mp h with rfl | h
    · refine ⟨by show szT w ≤ szT w + szTs r; omega, by show dpT w ≤ max (dpT w) (dpTs r); omega, fun g => ?_⟩
      have g' : (txT w && txTs r) = true := g
      rw [Bool.and_eq_true] at g'; exact g'.1
    · obtain ⟨x, y, z⟩ := mem_szT h
      refine ⟨by show szT w ≤ szT a + szTs r; omega, by show dpT w ≤ max (dpT a) (dpTs r); omega, fun g => ?_⟩
      have g' : (txT a && txTs r) = true := g
      rw [Bool.and_eq_true] at g'; exact z g'.2
end DD
/-! readings gone through step by step: one rule for each head -/
namespace DD
open PySem PySem.W L2 SX Cm
section
variable {nx : DSt → DG → Prop} {rt : DK} {bk ct : DSt → DG → Prop} {δ : DSt} {G : DG} {t u : TDS} {Q : DK} {QB : Bool → DG → Prop} {QA : List DV → DG → Prop} {te ta tb tc : TD} {tt tu : TDT} {ts : TDA}
theorem w_next (h : nx δ G) : dNext ⟨nx, rt, bk, ct⟩ δ G := h
theorem w_seq (h : t ⟨u ⟨nx, rt, bk, ct⟩, rt, bk, ct⟩ δ G) : dSeq t u ⟨nx, rt, bk, ct⟩ δ G := h
theorem w_break (h : bk δ G) : dBreak ⟨nx, rt, bk, ct⟩ δ G := h
theorem w_cont (h : ct δ G) : dCont ⟨nx, rt, bk, ct⟩ δ G := h
theorem w_drop (h : te δ G fun _ G1 => nx δ G1) : dDrop te ⟨nx, rt, bk, ct⟩ δ G := h
theorem w_ret (h : te δ G rt) : dRet te ⟨nx, rt, bk, ct⟩ δ G := h
theorem w_retN (h : rt .non G) : dRetN ⟨nx, rt, bk, ct⟩ δ G := h
theorem w_ifS {c : TDT} (h : c δ G fun b G1 => if b = true then t ⟨nx, rt, bk, ct⟩ δ G1 else u ⟨nx, rt, bk, ct⟩ δ G1) : dIfS c t u ⟨nx, rt, bk, ct⟩ δ G := h
theorem w_asg {i : Nat} (h : te δ G fun d G1 => nx (δ.set i (some d)) G1) : dAsg te (gN i) ⟨nx, rt, bk, ct⟩ δ G := h
theorem w_asgS (h : te δ G fun v G1 => ta δ G1 fun o G2 => tb δ G2 fun i G3 => bSet o i v G3 fun G4 => nx δ G4) : dAsg te (gSb ta tb) ⟨nx, rt, bk, ct⟩ δ G := h
theorem w_par {i j : Nat} (h : ts δ G fun ds G1 => ∃ a b, ds = [a, b] ∧ nx ((δ.set i (some a)).set j (some b)) G1) : dPar i j ts ⟨nx, rt, bk, ct⟩ δ G := h
theorem w_parE {k : DV → DV → Prop} {a b : DV} (h : k a b) : ∃ a' b', [a, b] = [a', b'] ∧ k a' b' := ⟨a, b, rfl, h⟩
/-! expressions -/
theorem w_var {i : Nat} {d : DV} (h : δ[i]? = some (some d)) (q : Q d G) : dVar i δ G Q := ⟨d, h, q⟩
theorem w_c {d : DV} (q : Q d G) : dC d δ G Q := q
theorem w_op {b : D2} (h : ta δ G fun x G1 => tb δ G1 fun y G2 => b x y G2 Q) : dOp b ta tb δ G Q := h
theorem w_call {n : Nat} {sp : DSp} (h : ts δ G fun ds G1 => ds.length = n ∧ sp ds G1 Q) : dCall n sp ts δ G Q := h
theorem w_len {n : Nat} {ds : List DV} {A : Prop} (h : A) (e : ds.length = n := by rfl) : ds.length = n ∧ A := ⟨e, h⟩
theorem w_CB {b : DC} (h : ts δ G fun ds G1 => b ds G1 Q) : dCB b ts δ G Q := h
theorem w_tup (h : ts δ G fun ds G1 => ds.length ≤ sizeLine ∧ Q (.tup ds) G1) : dTup ts δ G Q := h
theorem w_lst (h : ts δ G fun ds G1 => ds.length ≤ sizeLine ∧ ∀ p, G1 p = none → Q (.ref p) (dupd G1 p (.lst ds))) : dLst ts δ G Q := h
theorem w_sz {ds : List DV} {A : Prop} (h : A) (e : ds.length ≤ sizeLine := by decide) : ds.length ≤ sizeLine ∧ A := ⟨e, h⟩
theorem w_nil (h : QA [] G) : dNil δ G QA := h
theorem w_cons (h : te δ G fun x G1 => ts δ G1 fun xs G2 => QA (x :: xs) G2) : dCons te ts δ G QA := h
theorem w_sl {tl th : TDO} (h : te δ G fun x G1 => tl δ G1 fun l G2 => th δ G2 fun u G3 => bSl x l u G3 Q) : dSl te tl th δ G Q := h
theorem w_none {QO : Option Int → DG → Prop} (h : QO none G) : dNone δ G QO := h
theorem w_some {QO : Option Int → DG → Prop} (h : te δ G fun d G' => ∃ i, d = .int i ∧ QO (some i) G') : dSome te δ G QO := h
theorem w_exI {k : Int → Prop} {i : Int} (h : k i) : ∃ j, DV.int i = .int j ∧ k j := ⟨i, rfl, h⟩
theorem w_exB {k : Bool → Prop} {i : Bool} (h : k i) : ∃ j, DV.bl i = .bl j ∧ k j := ⟨i, rfl, h⟩
theorem w_exT {k : List DV → Prop} {i : List DV} (h : k i) : ∃ j, DV.tup i = .tup j ∧ k j := ⟨i, rfl, h⟩
theorem w_exS {k : Str → Prop} {i : Str} (h : k i) : ∃ j, DV.str i = .str j ∧ k j := ⟨i, rfl, h⟩
theorem w_rev (h : te δ G fun x G1 => ∃ ds, x = .tup ds ∧ Q (.tup ds.reverse) G1) : dRev te δ G Q := h
theorem w_neg (h : te δ G fun x G1 => ∃ i, x = .int i ∧ Q (.int (-i)) G1) : dNeg te δ G Q := h
theorem w_ifE (h : tt δ G fun c G1 => if c = true then ta δ G1 Q else tb δ G1 Q) : dIf tt ta tb δ G Q := h
theorem w_andV (h : ta δ G fun x G1 => ∃ c, x = .bl c ∧ if c = true then tb δ G1 Q else Q (.bl false) G1) : dAndV ta tb δ G Q := h
theorem w_orV (h : ta δ G fun x G1 => ∃ c, x = .bl c ∧ if c = true then Q (.bl true) G1 else tb δ G1 Q) : dOrV ta tb δ G Q := h
theorem w_notV (h : ta δ G fun x G1 => ∃ c, x = .bl c ∧ Q (.bl (!c)) G1) : dNotV ta δ G Q := h
theorem w_BM {T : String} {b : DM} (h : te δ G fun x G1 => rcv T x G1 ∧ ts δ G1 fun ds G2 => b x ds G2 Q) : dBM T b te ts δ G Q := h
theorem w_BM0 {T : String} {b : DM} (h : te δ G fun x G1 => rcv T x G1 ∧ b x [] G1 Q) : dBM0 T b te δ G Q := h
theorem w_rcvS {z : Str} {A : Prop} (h : A) : rcv "str" (.str z) G ∧ A := ⟨rfl, h⟩
theorem w_rcvL {p : Addr} {ds : List DV} {A : Prop} (e : G p = some (.lst ds)) (h : A) : rcv "list" (.ref p) G ∧ A := ⟨.inl ⟨rfl, ds, .inl e⟩, h⟩
theorem w_rcvD {p : Addr} {ds : List (Key × DV)} {A : Prop} (e : G p = some (.dct ds)) (h : A) : rcv "dict" (.ref p) G ∧ A := ⟨.inr ⟨rfl, ds, e⟩, h⟩
/-! tests -/
theorem w_test (h : te δ G fun d G' => ∃ k, d = .bl k ∧ QB k G') : dTest te δ G QB := h
theorem w_tru (h : te δ G fun d G' => bTru d G' QB) : dTru te δ G QB := h
theorem w_and (h : tt δ G fun c G1 => if c = true then tu δ G1 QB else QB false G1) : dAnd tt tu δ G QB := h
theorem w_or (h : tt δ G fun c G1 => if c = true then QB true G1 else tu δ G1 QB) : dOr tt tu δ G QB := h
theorem w_not (h : tt δ G fun c G1 => QB (!c) G1) : dNot tt δ G QB := h
theorem w_yes (h : QB true G) : dYes δ G QB := h
theorem w_truB {b : Bool} (h : QB b G) : bTru (.bl b) G QB := h
theorem w_truI {i : Int} (h : QB (i != 0) G) : bTru (.int i) G QB := h
theorem w_truN (h : QB false G) : bTru .non G QB := h
theorem w_truT {ds : List DV} (h : QB (!ds.isEmpty) G) : bTru (.tup ds) G QB := h
theorem w_truL {p : Addr} {ds : List DV} (e : G p = some (.lst ds)) (h : QB (!ds.isEmpty) G) : bTru (.ref p) G QB := .inl ⟨ds, .inl e, h⟩
/-! operators -/
theorem w_addI {i j : Int} (h : Q (.int (i + j)) G) : bAdd (.int i) (.int j) G Q := h
theorem w_addS {a b : Str} (l : a.length + b.length ≤ sizeLine) (h : Q (.str (a ++ b)) G) : bAdd (.str a) (.str b) G Q := ⟨l, h⟩
theorem w_addT {a b : List DV} (l : a.length + b.length ≤ sizeLine) (h : Q (.tup (a ++ b)) G) : bAdd (.tup a) (.tup b) G Q := ⟨l, h⟩
theorem w_subI {i j : Int} (h : Q (.int (i - j)) G) : bSub (.int i) (.int j) G Q := h
theorem w_int {C : Int → Int → Prop} {g : Int → Int → DV} {i j : Int} (c : C i j) (h : Q (g i j) G) : bInt C g (.int i) (.int j) G Q := ⟨c, h⟩
theorem w_cmpI {g : Int → Int → Bool} {s : List Nat → List Nat → Bool} {i j : Int} (h : Q (.bl (g i j)) G) : bCmp g s (.int i) (.int j) G Q := h
theorem w_cmpS {g : Int → Int → Bool} {s : List Nat → List Nat → Bool} {i j : Str} (h : Q (.bl (s i.cps.toList j.cps.toList)) G) : bCmp g s (.str i) (.str j) G Q := h
theorem w_eqSS {a b : Str} (h : Q (.bl (decide (a = b))) G) : bEq false (.str a) (.str b) G Q := h
theorem w_eqII {a b : Int} (h : Q (.bl (decide (a = b))) G) : bEq false (.int a) (.int b) G Q := h
theorem w_eqBB {a b : Bool} (h : Q (.bl (decide (a = b))) G) : bEq false (.bl a) (.bl b) G Q := h
theorem w_neSS {a b : Str} (h : Q (.bl (!decide (a = b))) G) : bEq true (.str a) (.str b) G Q := h
theorem w_neII {a b : Int} (h : Q (.bl (!decide (a = b))) G) : bEq true (.int a) (.int b) G Q := h
theorem w_neBB {a b : Bool} (h : Q (.bl (!decide (a = b))) G) : bEq true (.bl a) (.bl b) G Q := h
theorem w_eqSN {a : Str} {n : Bool} (h : Q (.bl n) G) : bEq n (.str a) .non G Q := h
theorem w_eqIN {a : Int} {n : Bool} (h : Q (.bl n) G) : bEq n (.int a) .non G Q := h
theorem w_eqSI {a : Str} {b : Int} {n : Bool} (h : Q (.bl n) G) : bEq n (.str a) (.int b) G Q := h
theorem w_eqIS {a : Int} {b : Str} {n : Bool} (h : Q (.bl n) G) : bEq n (.int a) (.str b) G Q := h
theorem w_eqNS {b : Str} {n : Bool} (h : Q (.bl n) G) : bEq n .non (.str b) G Q := h
theorem w_eqBS {a : Bool} {b : Str} {n : Bool} (h : Q (.bl n) G) : bEq n (.bl a) (.str b) G Q := h
theorem w_eqT0 {a : List DV} (h : Q (.bl a.isEmpty) G) : bEq false (.tup a) (.tup []) G Q := .inl ⟨rfl, rfl, h⟩
theorem w_eqTT {a b : List DV} (ca : Cmps a) (cb : Cmps b) (pa : plains a = true) (pb : plains b = true) (h : Q (.bl (decide (a = b))) G) : bEq false (.tup a) (.tup b) G Q := .inr ⟨ca, cb, by rw [eqvs_plain a b pa pb]; exact h⟩
theorem w_neTT {a b : List DV} (ca : Cmps a) (cb : Cmps b) (pa : plains a = true) (pb : plains b = true) (h : Q (.bl (!decide (a = b))) G) : bEq true (.tup a) (.tup b) G Q := .inr ⟨ca, cb, by rw [eqvs_plain a b pa pb]; exact h⟩
theorem w_eqLL {p q : Addr} {a b : List DV} (ea : G p = some (.lst a)) (eb : G q = some (.lst b)) (ca : Cmps a) (cb : Cmps b) (pa : plains a = true) (pb : plains b = true) (h : Q (.bl (decide (a = b))) G) : bEq false (.ref p) (.ref q) G Q := ⟨a, b, .inl ea, .inl eb, .inr ⟨ca, cb, by rw [eqvs_plain a b pa pb]; exact h⟩⟩
theorem w_neLL {p q : Addr} {a b : List DV} (ea : G p = some (.lst a)) (eb : G q = some (.lst b)) (ca : Cmps a) (cb : Cmps b) (pa : plains a = true) (pb : plains b = true) (h : Q (.bl (!decide (a = b))) G) : bEq true (.ref p) (.ref q) G Q := ⟨a, b, .inl ea, .inl eb, .inr ⟨ca, cb, by rw [eqvs_plain a b pa pb]; exact h⟩⟩
theorem w_isN {x : DV} (h : Q (.bl (decide (x = .non))) G) : bIs false x .non G Q := by cases x <;> exact h
theorem w_isnN {x : DV} (h : Q (.bl (!decide (x = .non))) G) : bIs true x .non G Q := by cases x <;> exact h
theorem w_ix0 {a : DV} {r : List DV} (h : Q a G) : bIx (.tup (a :: r)) (.int 0) G Q := ⟨a, atI_nat (j := 0) rfl, h⟩
theorem w_ix1 {a b : DV} {r : List DV} (h : Q b G) : bIx (.tup (a :: b :: r)) (.int 1) G Q := ⟨b, atI_nat (j := 1) rfl, h⟩
theorem w_ix2 {a b c : DV} {r : List DV} (h : Q c G) : bIx (.tup (a :: b :: c :: r)) (.int 2) G Q := ⟨c, atI_nat (j := 2) rfl, h⟩
theorem w_ix3 {a b c d : DV} {r : List DV} (h : Q d G) : bIx (.tup (a :: b :: c :: d :: r)) (.int 3) G Q := ⟨d, atI_nat (j := 3) rfl, h⟩
theorem w_ixL {p : Addr} {ds : List DV} {i : Int} {d : DV} (e : G p = some (.lst ds)) (l : atI ds i = some d) (h : Q d G) : bIx (.ref p) (.int i) G Q := .inl ⟨ds, d, .inl e, l, h⟩
theorem w_slT {ds : List DV} {lo hi : Option Int} (h : Q (.tup (cutD ds lo hi)) G) : bSl (.tup ds) lo hi G Q := h
/-! calls -/
theorem w_lenT {ds : List DV} (h : Q (.int ds.length) G) : bLen [.tup ds] G Q := h
theorem w_lenS {z : Str} (l : z.length ≤ sizeLine) (h : Q (.int z.length) G) : bLen [.str z] G Q := ⟨l, h⟩
theorem w_lenL {p : Addr} {ds : List DV} (e : G p = some (.lst ds)) (h : Q (.int ds.length) G) : bLen [.ref p] G Q := .inl ⟨ds, .inl e, h⟩
theorem w_isi {x : DV} {t : String} {a : String} {b : Bool} (ht : t ∈ tysK) (ha : TyAt G x a) (hb : tyB a t = b) (h : Q (.bl b) G) : bIsi [x, .ty t] G Q := ⟨ht, a, b, ha, hb, h⟩
theorem w_intB {k : Bool} (h : Q (.int (if k = true then 1 else 0)) G) : bInt1 [.bl k] G Q := h
theorem w_intI {k : Int} (h : Q (.int k) G) : bInt1 [.int k] G Q := h
theorem w_tupT {ds : List DV} (h : Q (.tup ds) G) : bTuple [.tup ds] G Q := h
theorem w_tupL {p : Addr} {ds : List DV} (e : G p = some (.lst ds)) (h : Q (.tup ds) G) : bTuple [.ref p] G Q := ⟨ds, .inl e, h⟩
theorem w_lstT {ds : List DV} (h : ∀ r, G r = none → Q (.ref r) (dupd G r (.lst ds))) : bList [.tup ds] G Q := h
theorem w_lstL {p : Addr} {ds : List DV} (e : G p = some (.lst ds)) (h : ∀ r, G r = none → Q (.ref r) (dupd G r (.lst ds))) : bList [.ref p] G Q := ⟨ds, .inl e, h⟩
theorem w_app {p : Addr} {xs : List DV} {y : DV} (e : G p = some (.lst xs)) (l : xs.length < sizeLine) (h : Q .non (dupd G p (.lst (xs ++ [y])))) : bAppend (.ref p) [y] G Q := ⟨p, xs, y, rfl, rfl, e, l, h⟩
theorem w_pop {p : Addr} {xs : List DV} {y : DV} (e : G p = some (.lst (xs ++ [y]))) (h : Q y (dupd G p (.lst xs))) : bPop (.ref p) [] G Q := ⟨p, xs, y, rfl, rfl, e, h⟩
theorem w_extT {p : Addr} {xs zs : List DV} (e : G p = some (.lst xs)) (l : xs.length + zs.length ≤ sizeLine) (h : Q .non (dupd G p (.lst (xs ++ zs)))) : bExt (.ref p) [.tup zs] G Q := ⟨p, xs, zs, rfl, e, .inl rfl, l, h⟩
theorem w_extL {p q : Addr} {xs zs : List DV} (e : G p = some (.lst xs)) (e' : G q = some (.lst zs)) (l : xs.length + zs.length ≤ sizeLine) (h : Q .non (dupd G p (.lst (xs ++ zs)))) : bExt (.ref p) [.ref q] G Q := ⟨p, xs, zs, rfl, e, .inr ⟨q, rfl, e'⟩, l, h⟩
/-! loops -/
/-- what a loop over ds wants -/
def ForG (ds : List DV) (st : DG → Prop) (tg : TDG) (tb : TDS) (nx : DSt → DG → Prop) (rt : DK) (δ : DSt) (G : DG) : Prop := ∃ Pv : Nat → DSt → DG → Prop, Pv 0 δ G ∧ (∀ i δ G, Pv i δ G → st G) ∧
  (∀ i d δ G, ds[i]? = some d → Pv i δ G → tg d δ G fun δ2 G2 => tb ⟨Pv (i + 1), rt, nx, Pv (i + 1)⟩ δ2 G2) ∧ (∀ δ G, Pv ds.length δ G → nx δ G)
theorem w_for {tg : TDG} {tb : TDS} {ti : TDI} (h : ti δ G fun ds st G1 => ForG ds st tg tb nx rt δ G1) : dFor ti tg tb ⟨nx, rt, bk, ct⟩ δ G := h
/-- what a comprehension over ds wants -/
def LcG (ds : List DV) (st : DG → Prop) (ld : TL) (tt : TDT) (te : TD) (δ : DSt) (G1 : DG) (Q : DK) : Prop := ∀ p, G1 p = none → ∃ Pv : Nat → List DV → DG → Prop, Pv 0 [] (dupd G1 p (.lst [])) ∧ (∀ i acc G, Pv i acc G → st G) ∧
  (∀ i d acc G, ds[i]? = some d → Pv i acc G → ld d δ fun δ2 => tt δ2 G fun b G3 => if b = true then te δ2 G3 fun y G4 => G4 p = some (.lst acc) ∧ acc.length < sizeLine ∧ Pv (i + 1) (acc ++ [y]) (dupd G4 p (.lst (acc ++ [y]))) else Pv (i + 1) acc G3) ∧
  (∀ acc G, Pv ds.length acc G → Q (.ref p) G)
theorem w_lc {ti : TDI} {ld : TL} {vs : List Nat} (h : ti δ G fun ds st G1 => LcG ds st ld tt te (wipeD δ vs) G1 Q) : dLc ti ld tt te vs δ G Q := h
theorem w_while {c : TDT} {tb : TDS} (Pv : Nat → DSt → DG → Prop) (m : Nat) (p : Pv m δ G) (h : ∀ m δ G, Pv m δ G →
  c δ G fun b G1 => if b = true then tb ⟨fun δ' G' => ∃ m', m' < m ∧ Pv m' δ' G', rt, nx, fun δ' G' => ∃ m', m' < m ∧ Pv m' δ' G'⟩ δ G1 else nx δ G1) : dWhile c tb ⟨nx, rt, bk, ct⟩ δ G := ⟨Pv, ⟨m, p⟩, h⟩
variable {RI : List DV → (DG → Prop) → DG → Prop}
theorem wi_tup (h : te δ G fun d G1 => ∃ ds, d = .tup ds ∧ RI ds (fun _ => True) G1) : dITup te δ G RI := h
theorem wi_lst (h : te δ G fun d G1 => ∃ p ds, d = .ref p ∧ Ls G1 p ds ∧ RI ds (fun G => Ls G p ds) G1) : dIList te δ G RI := h
theorem wi_str (h : te δ G fun d G1 => ∃ z, d = .str z ∧ RI (signs z) (fun _ => True) G1) : dIStr te δ G RI := h
theorem wi_rng (h : ts δ G fun ds G1 => ∃ j : Int, ds = [.int j] ∧ -(2 ^ 62) ≤ j ∧ j < 2 ^ 62 ∧ RI (rng 0 j.toNat) (fun _ => True) G1) : dIRng ts δ G RI := h
theorem wi_rng2 (h : ts δ G fun ds G1 => ∃ i j : Int, ds = [.int i, .int j] ∧ (-(2 ^ 62) ≤ i ∧ i < 2 ^ 62 ∧ -(2 ^ 62) ≤ j ∧ j < 2 ^ 62) ∧ RI (rng i (j - i).toNat) (fun _ => True) G1) : dIRng2 ts δ G RI := h
theorem wi_enumT (h : ts δ G fun xs G1 => ∃ ds, xs = [.tup ds] ∧ RI (nmbd ds) (fun _ => True) G1) : dIEnumT ts δ G RI := h
theorem wi_enum (h : ts δ G fun xs G1 => ∃ p ds, xs = [.ref p] ∧ Ls G1 p ds ∧ RI (nmbd ds) (fun G => Ls G p ds) G1) : dIEnum ts δ G RI := h
theorem wi_rev (h : ts δ G fun xs G1 => ∃ p ds, xs = [.ref p] ∧ Ls G1 p ds ∧ RI ds.reverse (fun G => Ls G p ds) G1) : dIRev ts δ G RI := h
theorem wi_revR (h : ts δ G fun ds G1 => ∃ j : Int, ds = [.int j] ∧ 0 ≤ j ∧ j < 2 ^ 62 ∧ RI (rng 0 j.toNat).reverse (fun _ => True) G1) : dIRevR ts δ G RI := h
theorem wx_rng {k : Int → Prop} {j : Int} (h1 : -(2 ^ 62) ≤ j) (h2 : j < 2 ^ 62) (h : k j) : ∃ j' : Int, [DV.int j] = [.int j'] ∧ -(2 ^ 62) ≤ j' ∧ j' < 2 ^ 62 ∧ k j' := ⟨j, rfl, h1, h2, h⟩
theorem wx_revR {k : Int → Prop} {j : Int} (h1 : 0 ≤ j) (h2 : j < 2 ^ 62) (h : k j) : ∃ j' : Int, [DV.int j] = [.int j'] ∧ 0 ≤ j' ∧ j' < 2 ^ 62 ∧ k j' := ⟨j, rfl, h1, h2, h⟩
theorem wx_rng2 {k : Int → Int → Prop} {i j : Int} (h1 : -(2 ^ 62) ≤ i ∧ i < 2 ^ 62 ∧ -(2 ^ 62) ≤ j ∧ j < 2 ^ 62) (h : k i j) : ∃ i' j' : Int, [DV.int i, .int j] = [.int i', .int j'] ∧ (-(2 ^ 62) ≤ i' ∧ i' < 2 ^ 62 ∧ -(2 ^ 62) ≤ j' ∧ j' < 2 ^ 62) ∧ k i' j' := ⟨i, j, rfl, h1, h⟩
theorem wx_lst {k : Addr → List DV → Prop} {p : Addr} {ds : List DV} (e : G p = some (.lst ds)) (h : k p ds) : ∃ p' ds', DV.ref p = .ref p' ∧ Ls G p' ds' ∧ k p' ds' := ⟨p, ds, rfl, .inl e, h⟩
theorem wx_lstA {k : Addr → List DV → Prop} {p : Addr} {ds : List DV} (e : G p = some (.lst ds)) (h : k p ds) : ∃ p' ds', [DV.ref p] = [.ref p'] ∧ Ls G p' ds' ∧ k p' ds' := ⟨p, ds, rfl, .inl e, h⟩
theorem wx_enumT {k : List DV → Prop} {ds : List DV} (h : k ds) : ∃ ds', [DV.tup ds] = [.tup ds'] ∧ k ds' := ⟨ds, rfl, h⟩
/-- a loop with its invariant -/
theorem for_by {ds : List DV} {st : DG → Prop} {tg : TDG} {tb : TDS} (Pv : Nat → DSt → DG → Prop) (hst : ∀ i δ G, Pv i δ G → st G) (p0 : Pv 0 δ G)
  (ps : ∀ i d δ G, ds[i]? = some d → Pv i δ G → tg d δ G fun δ2 G2 => tb ⟨Pv (i + 1), rt, nx, Pv (i + 1)⟩ δ2 G2) (pd : ∀ δ G, Pv ds.length δ G → nx δ G) : ForG ds st tg tb nx rt δ G := ⟨Pv, p0, hst, ps, pd⟩
/-- elements that leave the store as it is: each told by E (or left out, where f says so) -/
theorem lcg_pure {ds : List DV} {st : DG → Prop} {ld : TL} {G1 : DG} (f : DV → Option DV) (hsc : ∀ p o, G1 p = none → st (dupd G1 p o)) (hl : ds.length ≤ 1000000)
    (h : ∀ d ∈ ds, ∀ (G : DG) (k1 : DK) (k0 : DG → Prop), (∃ p acc, G1 p = none ∧ G = dupd G1 p (.lst acc)) → (∀ y, f d = some y → k1 y G) → (f d = none → k0 G) →
      ld d δ fun δ2 => tt δ2 G fun b G3 => if b = true then te δ2 G3 k1 else k0 G3)
    (q : ∀ p, G1 p = none → Q (.ref p) (dupd G1 p (.lst (ds.filterMap f)))) : LcG ds st ld tt te δ G1 Q := by
  have := lc_pure (ds := ds) (st := st) (ld := ld) (tt := tt) (te := te) (vs := []) (δ := δ) (G1 := G1) (Q := Q) f hsc hl h q
  exact this
theorem lcg_each {ds : List DV} {st : DG → Prop} {ld : TL} {G1 : DG} (E : Nat → DV → Prop) (hsc : ∀ p o, G1 p = none → st (dupd G1 p o)) (hl : ds.length ≤ 1000000)
    (h : ∀ i d, ds[i]? = some d → ∀ (G : DG) (k1 : DK) (k0 : DG → Prop), (∃ p acc, G1 p = none ∧ G = dupd G1 p (.lst acc)) → (∀ y, E i y → k1 y G) →
      ld d δ fun δ2 => tt δ2 G fun b G3 => if b = true then te δ2 G3 k1 else k0 G3)
    (q : ∀ p acc, G1 p = none → acc.length = ds.length → (∀ i y, acc[i]? = some y → E i y) → Q (.ref p) (dupd G1 p (.lst acc))) : LcG ds st ld tt te δ G1 Q := by
  intro p np
  refine ⟨fun i acc G => acc.length = i ∧ i ≤ ds.length ∧ (∀ j y, acc[j]? = some y → E j y) ∧ G = dupd G1 p (.lst acc), ⟨rfl, Nat.zero_le _, (fun _ _ h => nomatch h), rfl⟩, fun i acc G ⟨_, _, _, e⟩ => by rw [e]; exact hsc p _ np, ?_, ?_⟩
  · rintro i d acc G hd ⟨ea, hi, he, rfl⟩
    have hlt : i < ds.length := (List.getElem?_eq_some_iff.mp hd).1
    refine h i d hd _ _ _ ⟨p, acc, np, rfl⟩ fun y hy => ⟨dupd_same, midlt (by omega), ?_, hlt, ?_, dupd_dupd⟩
    · rw [List.length_append, ea]; rfl
    · intro j z hz
      by_cases hj : j < acc.length
      · rw [List.getElem?_append_left hj] at hz; exact he j z hz
      · have hj' := (List.getElem?_eq_some_iff.mp hz).1
        rw [List.length_append, List.length_singleton] at hj'
        have : j = i := by omega
        subst this
        rw [List.getElem?_append_right (by omega), ea, Nat.sub_self] at hz
        cases hz
        exact hy
  · rintro acc G ⟨ea, _, he, rfl⟩
    exact q p acc np ea he
theorem g_n {d : DV} {i : Nat} {k : DSt → DG → Prop} (h : k (δ.set i (some d)) G) : gN i d δ G k := h
theorem w_ite {b : Bool} {A B : Prop} (h : b = true → A) (g : b = false → B) : if b = true then A else B := by
  cases b
  · exact iteF (g rfl)
  · exact iteT (h rfl)
theorem w_iteD {p : Prop} [Decidable p] {A B : Prop} (h : p → A) (g : ¬ p → B) : if decide p = true then A else B := by
  by_cases e : p
  · rw [decide_eq_true e]; exact iteT (h e)
  · rw [decide_eq_false e]; exact iteF (g e)
theorem w_iteN {p : Prop} [Decidable p] {A B : Prop} (h : ¬ p → A) (g : p → B) : if (!decide p) = true then A else B := by
  by_cases e : p
  · rw [decide_eq_true e]; exact iteF (g e)
  · rw [decide_eq_false e]; exact iteT (h e)
theorem w_it {b : Bool} {A B : Prop} (e : b = true) (h : A) : if b = true then A else B := by subst e; exact iteT h
theorem w_if0 {b : Bool} {A B : Prop} (e : b = false) (h : B) : if b = true then A else B := by subst e; exact iteF h
end
end DD
namespace DD
open PySem PySem.W L2
theorem ne_ns {G : DG} {a b : Addr} (n : G b = none) (h : ∃ o, G a = some o) : a ≠ b := by
  obtain ⟨o, h⟩ := h
  exact ne_some h n
theorem ne_sn {G : DG} {a b : Addr} (n : G b = none) (h : ∃ o, G a = some o) : b ≠ a := (ne_ns n h).symm
theorem szl {n : Nat} (h : n.ble 64 = true) : n ≤ sizeLine := by
  have := Nat.le_of_ble_eq_true h
  have : 64 ≤ sizeLine := by decide
  omega
end DD
namespace DD
open PySem PySem.W L2
theorem cutD_to {α : Type} (xs : List α) (k : Nat) : cutD xs none (some (k : Int)) = xs.take k := by
  unfold cutD
  rw [HT.sIx_none, HT.sIx_nat, List.drop_zero, Nat.sub_zero]
  rcases Nat.le_total k xs.length with h | h
  · rw [Nat.min_eq_left h]
  · rw [Nat.min_eq_right h, List.take_length, List.take_of_length_le h]
theorem cutD_from {α : Type} (xs : List α) (k : Nat) : cutD xs (some (k : Int)) none = xs.drop k := by
  unfold cutD
  rw [HT.sIx_none, HT.sIx_nat]
  rcases Nat.le_total k xs.length with h | h
  · rw [Nat.min_eq_left h, List.take_of_length_le (by rw [List.length_drop]; omega)]
  · rw [Nat.min_eq_right h, List.drop_length, List.take_nil, List.drop_of_length_le h]
theorem cutD_last {α : Type} (a : List α) (x : α) : cutD (a ++ [x]) none (some (-1)) = a := by
  unfold cutD
  have e : HT.sIx (a ++ [x]).length (a ++ [x]).length (some (-1)) = a.length := by
    rw [show HT.sIx (a ++ [x]).length (a ++ [x]).length (some (-1)) = (if (-1 : Int) < 0 then ((-1 : Int) + ((a ++ [x]).length : Int)).toNat else min (-1 : Int).toNat (a ++ [x]).length) from rfl]
    rw [if_pos (by decide), List.length_append, List.length_singleton]; omega
  rw [HT.sIx_none, e, List.drop_zero, Nat.sub_zero, List.take_left]
end DD
namespace DD
open PySem PySem.W L2
theorem nn_ {G G' : DG} {p : Addr} (n : G' p = none) (s : Sub G G') : G p = none := s.nonew n
theorem lt2' {i j : Nat} {a b : DV} {δ : DSt} {k : DSt → Prop} (h : k ((δ.set i (some a)).set j (some b))) : l2 i j (.tup [a, b]) δ k := ⟨a, b, rfl, h⟩
theorem Less.mk {R : DK} {d : DV} {G G' : DG} (s : Sub G G') (h : R d G) : Less R d G' := ⟨G, s, h⟩
end DD
namespace DD
open PySem PySem.W L2
theorem w_cut {nx : DSt → DG → Prop} {rt : DK} {bk ct : DSt → DG → Prop} {δ : DSt} {G : DG} {t u : TDS} (Mid : DSt → DG → Prop) (h : t ⟨Mid, rt, bk, ct⟩ δ G) (g : ∀ δ' G', Mid δ' G' → u ⟨nx, rt, bk, ct⟩ δ' G') : dCut t u ⟨nx, rt, bk, ct⟩ δ G := ⟨Mid, h, g⟩
theorem app_lt (p a b : List Int) : p ++ a < p ++ b ↔ a < b := by
  induction p with
  | nil => exact Iff.rfl
  | cons x r ih =>
    rw [List.cons_append, List.cons_append, List.cons_lt_cons_iff, ih]
    constructor
    · rintro (h | h)
      · exact absurd h (Int.lt_irrefl _)
      · exact h.2
    · exact fun h => .inr ⟨rfl, h⟩
end DD
namespace DD
open PySem PySem.W L2
theorem decq {p q : Prop} [Decidable p] [Decidable q] (h : p ↔ q) : decide p = decide q := by
  by_cases e : p
  · rw [decide_eq_true e, decide_eq_true (h.mp e)]
  · rw [decide_eq_false e, decide_eq_false (fun z => e (h.mpr z))]
theorem cmps_of {ds : List DV} (c : Cmp (.tup ds)) : Cmps ds := ⟨c.pu, c.tx, by have := c.dp; have e : dpt (.tup ds) = 1 + dpts ds := rfl; omega⟩
theorem bEq_plain {n : Bool} {x y : DV} {G : DG} {Q : DK} (px : plain x = true) (py : plain y = true) (cx : Cmp x) (cy : Cmp y) (h : Q (.bl (ng n (decide (x = y)))) G) : bEq n x y G Q := by
  have gen : Cmp x ∧ Cmp y ∧ Q (.bl (ng n (PyData.eqv (dat x) (dat y)))) G := ⟨cx, cy, by rw [eqv_plain x y px py]; exact h⟩
  have no : decide (x = y) = false → Q (.bl n) G := fun e => by rw [e] at h; cases n <;> exact h
  cases x with
  | non => cases y with
    | str b => exact no (decide_eq_false (by intro z; cases z))
    | _ => exact gen
  | bl a => cases px
  | ref a => cases px
  | ty a => cases px
  | int a => cases y with
    | int b => show Q (.bl (ng n (decide (a = b)))) G; rw [← decq (p := DV.int a = .int b) ⟨fun z => DV.int.inj z, fun z => by rw [z]⟩]; exact h
    | non => exact no (decide_eq_false (by intro z; cases z))
    | str b => exact no (decide_eq_false (by intro z; cases z))
    | _ => exact gen
  | str a => cases y with
    | str b => show Q (.bl (ng n (decide (a = b)))) G; rw [← decq (p := DV.str a = .str b) ⟨fun z => DV.str.inj z, fun z => by rw [z]⟩]; exact h
    | non => exact no (decide_eq_false (by intro z; cases z))
    | int b => exact no (decide_eq_false (by intro z; cases z))
    | _ => exact gen
  | tup a => cases y with
    | tup b =>
      refine .inr ⟨cmps_of cx, cmps_of cy, ?_⟩
      rw [eqvs_plain a b px py, ← decq (p := DV.tup a = .tup b) ⟨fun z => DV.tup.inj z, fun z => by rw [z]⟩]; exact h
    | _ => exact gen
theorem w_eqP {x y : DV} {G : DG} {Q : DK} (px : plain x = true) (py : plain y = true) (cx : Cmp x) (cy : Cmp y) (h : Q (.bl (decide (x = y))) G) : bEq false x y G Q := bEq_plain px py cx cy h
theorem w_neP {x y : DV} {G : DG} {Q : DK} (px : plain x = true) (py : plain y = true) (cx : Cmp x) (cy : Cmp y) (h : Q (.bl (!decide (x = y))) G) : bEq true x y G Q := bEq_plain px py cx cy h
end DD
/-! dicts with texts as keys -/
namespace DD
open PySem PySem.W L2 SX Cm
def valD (kvs : List (Key × DV)) (k : Key) : Option DV := (kvs.find? fun kv => decide (kv.1 = k)).map (·.2)
def putD (kvs : List (Key × DV)) (k : Key) (v : DV) : List (Key × DV) :=
  if (kvs.any fun kv => decide (kv.1 = k)) = true then kvs.map (fun kv => if kv.1 = k then (kv.1, v) else kv) else kvs ++ [(k, v)]
theorem tks_dct {K : Frag} {H : Hp} {d : Addr} {xs ys : List (Key × V)} (h : H d = some (.dK xs)) : TKs K H (upd H d (.dK ys)) := fun a zs e => by
  rcases e with (e | ⟨o, e⟩) | e
  · exact .inl (.inl (by rw [upd_ne (fun z => by rw [z, h] at e; cases e)]; exact e))
  · exact .inl (.inr ⟨o, by rw [upd_ne (fun z => by rw [z, h] at e; cases e)]; exact e⟩)
  · exact .inr e
section
variable {K : Frag} {H : Hp}
theorem KRV.val {vs : List (Key × V)} {ds : List (Key × DV)} (r : KRV K H vs ds) (k : Key) : (valV vs k = none ∧ valD ds k = none) ∨ ∃ v d, valV vs k = some v ∧ valD ds k = some d ∧ RV K H v d := by
  induction r with
  | nil => exact .inl ⟨rfl, rfl⟩
  | @cons k' v d vs ds h t ih =>
    by_cases e : k' = k
    · refine .inr ⟨v, d, valV_pos (p := (k', v)) e, ?_, h⟩
      have e' : decide (k' = k) = true := decide_eq_true e
      unfold valD
      rw [List.find?_cons]
      simp only [e']
      rfl
    · have e1 : valV ((k', v) :: vs) k = valV vs k := valV_neg (p := (k', v)) e
      have e2 : valD ((k', d) :: ds) k = valD ds k := by
        have e' : decide (k' = k) = false := decide_eq_false e
        unfold valD
        rw [List.find?_cons]
        simp only [e']
      rw [e1, e2]; exact ih
theorem KRV.any {vs : List (Key × V)} {ds : List (Key × DV)} (r : KRV K H vs ds) (k : Key) : (vs.any fun kv => decide (kv.1 = k)) = ds.any fun kv => decide (kv.1 = k) := by
  induction r with
  | nil => rfl
  | cons h t ih => rw [List.any_cons, List.any_cons, ih]
theorem KRV.map {vs : List (Key × V)} {ds : List (Key × DV)} (r : KRV K H vs ds) (k : Key) {y : V} {u : DV} (ry : RV K H y u) : KRV K H (vs.map fun kv => if kv.1 = k then (kv.1, y) else kv) (ds.map fun kv => if kv.1 = k then (kv.1, u) else kv) := by
  induction r with
  | nil => exact .nil
  | @cons k' v d vs ds h t ih =>
    rw [List.map_cons, List.map_cons]
    by_cases e : k' = k
    · rw [if_pos e, if_pos e]; exact .cons ry ih
    · rw [if_neg e, if_neg e]; exact .cons h ih
theorem KRV.append {vs vs' : List (Key × V)} {ds ds' : List (Key × DV)} (r : KRV K H vs ds) (r' : KRV K H vs' ds') : KRV K H (vs ++ vs') (ds ++ ds') := by
  induction r with
  | nil => exact r'
  | cons h t ih => exact .cons h ih
theorem KRV.put {vs : List (Key × V)} {ds : List (Key × DV)} (r : KRV K H vs ds) (k : Key) {y : V} {u : DV} (ry : RV K H y u) : KRV K H (putK vs k y) (putD ds k u) := by
  unfold putK putD
  rw [r.any k]
  split
  · exact r.map k ry
  · exact r.append (.cons ry .nil)
theorem KRV.keys {vs : List (Key × V)} {ds : List (Key × DV)} (r : KRV K H vs ds) : vs.map (·.1) = ds.map (·.1) := by
  induction r with
  | nil => rfl
  | cons h t ih => rw [List.map_cons, List.map_cons, ih]
theorem wd_dct {G : DG} {p : Addr} {kvs : List (Key × DV)} (w : Wd K H G) (e : G p = some (.dct kvs)) : ∃ vs, H p = some (.dK vs) ∧ KRV K H vs kvs := by
  obtain ⟨O, w⟩ := w
  exact w.ob p _ e
end
def keyD (z : Str) : Key := .inr z
section
variable {X : Cx}
theorem hu_of {k : Nat} {A : Around} (h : Room k A) : A.units + 1 < cLine := by have := h.units; omega
def dDNew : TD := fun _ G Q => ∀ p, G p = none → Q (.ref p) (dupd G p (.dct []))
theorem de_dnew {pos : Pos} : DE X (.Dict [] [] pos) dDNew := PE_mono pe_dnewK fun σ H Q ⟨δ, G, R, sl, w, q, f⟩ => fun p np => by
  have s := same_new np (.dK [])
  exact f _ _ _ _ (q p (w.free np)) (TKs.of s) (w.new np fun O => ⟨[], upd_same, .nil⟩) (.ref p)
variable {o i e e2 value : Expr} {pos pos' apos cpos : Pos} {td ti tv : TD}
def dDGet (td ti : TD) : TD := fun δ G Q => td δ G fun x G1 => ti δ G1 fun y G2 => ∃ p kvs z v, x = .ref p ∧ y = .str z ∧ G2 p = some (.dct kvs) ∧ valD kvs (keyD z) = some v ∧ Q v G2
theorem de_dget (hu : X.A.units + 1 < cLine) (ho : DE X o td) (hi : DE X i ti) (hs : NoSl i := by rfl) : DE X (.Subscript o i pos) (dDGet td ti) :=
  PE_mono (pe_dget hu ho hi hs) fun σ H Q ⟨δ, G, R, sl, w, q, f⟩ => ⟨δ, G, _, sl, w, q, fun x G1 vx H1 q1 t1 w1 r1 => ⟨δ, G1, _, sl.mono t1, w1, q1, fun y G2 vy H2 ⟨p, kvs, z, v, e1, e2, eG, ev, q2⟩ t2 w2 r2 => by
    subst e1 e2
    cases r1
    cases r2
    obtain ⟨vs, hv, kr⟩ := wd_dct w2 eG
    rcases kr.val (keyD z) with ⟨_, h⟩ | ⟨v', d', h1, h2, rv⟩
    · rw [ev] at h; cases h
    · rw [ev] at h2; cases h2
      refine ⟨p, v', rfl, ?_, f _ _ _ _ q2 (t1.trans t2) w2 rv⟩
      have := DGet.k (k := keyD z) hv
      rw [h1] at this
      exact this⟩⟩
def dDGet2 (td ti tv : TD) : TD := fun δ G Q => td δ G fun x G1 => ∃ p, x = .ref p ∧ (∃ kvs, G1 p = some (.dct kvs)) ∧ ti δ G1 fun y G2 => tv δ G2 fun u G3 => ∃ kvs z, y = .str z ∧ G3 p = some (.dct kvs) ∧ Q ((valD kvs (keyD z)).getD u) G3
theorem de_dget2 (hu : X.A.units + 1 < cLine) (ho : DE X o td) (he : DE X e ti) (hf : DE X e2 tv) (m : M2 X o "get" apos e e2 cpos := by exact ⟨rfl, rfl, rfl, rfl⟩) : DE X (.Call (.Attribute o "get" apos) [e, e2] [] cpos) (dDGet2 td ti tv) :=
  PE_mono (pe_dget2 hu ho he hf m) fun σ H Q ⟨δ, G, R, sl, w, q, f⟩ => ⟨δ, G, _, sl, w, q, fun x G1 vx H1 ⟨p, e1, ⟨kvs1, eG1⟩, q1⟩ t1 w1 r1 => by
    subst e1
    cases r1
    obtain ⟨vs1, hv1, _⟩ := wd_dct w1 eG1
    refine ⟨p, rfl, .inl ⟨vs1, .inl hv1⟩, δ, G1, _, sl.mono t1, w1, q1, fun y G2 vy H2 q2 t2 w2 r2 => ⟨δ, G2, _, sl.mono (t1.trans t2), w2, q2, fun u G3 vu H3 ⟨kvs, z, e2, eG, q3⟩ t3 w3 r3 => ?_⟩⟩
    subst e2
    cases r2
    obtain ⟨vs, hv, kr⟩ := wd_dct w3 eG
    have t13 := (t1.trans t2).trans t3
    refine ⟨_, DGet.k (k := keyD z) hv, ?_⟩
    rcases kr.val (keyD z) with ⟨h1, h2⟩ | ⟨v', d', h1, h2, rv⟩
    · rw [h1]; rw [h2] at q3; exact f _ _ _ _ q3 t13 w3 r3
    · rw [h1]; rw [h2] at q3; exact f _ _ _ _ q3 t13 w3 rv⟩
def dDIn (n : Bool) (ti td : TD) : TD := fun δ G Q => ti δ G fun y G1 => td δ G1 fun x G2 => ∃ p kvs z, x = .ref p ∧ y = .str z ∧ G2 p = some (.dct kvs) ∧ Q (.bl (ng n (valD kvs (keyD z)).isSome)) G2
theorem din_up {K : Frag} {n : Bool} {σ : St} {H : Hp} {Q : VK} (h : up K (dDIn n ti td) σ H Q) : (up K ti) σ H fun y H1 => (up K td) σ H1 fun x H2 => ∃ a o, x = .ref a ∧ DGet H2 a y o ∧ Q (.bl (ng n o.isSome)) H2 := by
  obtain ⟨δ, G, R, sl, w, q, f⟩ := h
  refine ⟨δ, G, _, sl, w, q, fun y G1 vy H1 q1 t1 w1 r1 => ⟨δ, G1, _, sl.mono t1, w1, q1, fun x G2 vx H2 ⟨p, kvs, z, e1, e2, eG, q2⟩ t2 w2 r2 => ?_⟩⟩
  subst e1 e2
  cases r1
  cases r2
  obtain ⟨vs, hv, kr⟩ := wd_dct w2 eG
  refine ⟨p, _, rfl, DGet.k (k := keyD z) hv, ?_⟩
  have e : (valV vs (keyD z)).isSome = (valD kvs (keyD z)).isSome := by
    rcases kr.val (keyD z) with ⟨h1, h2⟩ | ⟨v', d', h1, h2, rv⟩
    · rw [h1, h2]; rfl
    · rw [h1, h2]; rfl
  rw [e]
  exact f _ _ _ _ q2 (t1.trans t2) w2 (.bl _)
theorem de_din (hu : X.A.units + 1 < cLine) (hi : DE X i ti) (ho : DE X o td) (hb : behindInMarks .In o = false := by rfl) : DE X (.Compare i [.In] [o] pos) (dDIn false ti td) :=
  PE_mono (pe_cmp (pc_din hu hi ho) hb) fun σ H Q h => din_up h
theorem de_dnotin (hu : X.A.units + 1 < cLine) (hi : DE X i ti) (ho : DE X o td) (hb : behindInMarks .NotIn o = false := by rfl) : DE X (.Compare i [.NotIn] [o] pos) (dDIn true ti td) :=
  PE_mono (pe_cmp (pc_dnotin hu hi ho) hb) fun σ H Q h => din_up h
theorem dt_of {c : Expr} {t : TD} (h : DE X c t) (hp : ∀ whole, isTrue c X.env whole = (do let v ← whole; standAt c.pos; holding [v] (truthy v)) := by intro _; rfl) : DT X c (dTru t) := dt_e h hp
def dDPut (td ti tv : TD) : TDS := fun D δ G => tv δ G fun v G1 => td δ G1 fun x G2 => ti δ G2 fun y G3 => ∃ p kvs z, x = .ref p ∧ y = .str z ∧ G3 p = some (.dct kvs) ∧ kvs.length < sizeLine ∧ D.nx δ (dupd G3 p (.dct (putD kvs (keyD z) v)))
theorem ds_dput (hu : X.A.units + 1 < cLine) (ho : DE X o td) (hi : DE X i ti) (hv : DE X value tv) (hs : swapsWith value (some (.Subscript o i pos')) pos.line X.env = pure false := by rfl) : DS X (.Assign [.Subscript o i pos'] value pos) (dDPut td ti tv) :=
  PS_mono (ps_dput hu ho hi hv hs) fun D σ H ⟨D', δ, G, sl, w, l, h⟩ => ⟨δ, G, _, sl, w, h, fun v G1 vv H1 q1 t1 w1 r1 => ⟨δ, G1, _, sl.mono t1, w1, q1, fun x G2 vx H2 q2 t2 w2 r2 => ⟨δ, G2, _, sl.mono (t1.trans t2), w2, q2, fun y G3 vy H3 ⟨p, kvs, z, e1, e2, eG, hl, q3⟩ t3 w3 r3 => by
    subst e1 e2
    cases r2
    cases r3
    obtain ⟨vs, hv, kr⟩ := wd_dct w3 eG
    have t13 := (t1.trans t2).trans t3
    have t4 : TKs X.K H3 (upd H3 p (.dK (putK vs (keyD z) vv))) := tks_dct hv
    refine ⟨p, _, rfl, DPut.k (k := keyD z) hv (by rw [kr.len]; exact hl), l.nx _ _ _ _ q3 (t13.trans t4) ?_ (sl.mono (t13.trans t4))⟩
    exact w3.put ⟨_, eG, fun L φ z => by cases z⟩ t4 fun O => ⟨_, upd_same, (kr.put (keyD z) (r1.mono (t2.trans t3))).mono t4⟩⟩⟩⟩
/-- the keys of a dict, sorted -/
def bSortD : DC
  | [.ref p], G, Q => ∃ (kvs : List (Key × DV)) (ks : List Str), G p = some (.dct kvs) ∧ kvs.map (·.1) = ks.map keyD ∧ ks.length < 64 ∧ ∀ ys r, ys.Perm ks → PyProof.Rows.sortedS ys = true → G r = none → Q (.ref r) (dupd G r (.lst (ys.map .str)))
  | _, _, _ => False
theorem cd_sortedD (hc : X.calm = true) : CallD X (.builtin "sorted") bSortD := by
  refine ⟨_, call_sortedD hc, fun ds vs H G R Q r w h f => ?_⟩
  cases r with
  | nil => exact h.elim
  | cons rv rt =>
    cases rt with
    | cons _ _ => cases rv <;> exact h.elim
    | nil =>
      cases rv with
      | ref p =>
        obtain ⟨kvs, ks, eG, hk, hl, q⟩ := h
        obtain ⟨us, hu, kr⟩ := wd_dct w eG
        refine ⟨p, us, ks, rfl, .inl hu, by rw [kr.keys]; exact hk, hl, fun ys l pm so nl => ?_⟩
        have s' := same_new nl (.lst (ys.map V.str))
        exact f _ _ _ _ (q ys l pm so (w.free nl)) (TKs.of s') (w.new nl fun O => ⟨_, upd_same, RVs.strs' ys⟩) (.ref l)
      | _ => exact h.elim
end
end DD
/-! tuple(d) of a dict: its keys -/
namespace DD
open PySem PySem.Spec PyProof.Rows PySem.W
section
variable {prog : Program} {w : World} {A : Around} {E : Value → Shared → Prop} {s : Shared} {T : String} {r d : Addr} {n : Nat} {P : Nat → Value → Prop} {OK : Heap → Prop}
theorem cm_collect {Q : List Value → Shared → Prop} (K : KdlSrc prog w T r d n P OK) (hh : A.handled = none) (hok : OK s.heap) (hlen : n ≤ sizeLine)
    (hQ : ∀ (h' : Heap) (tk : Nat) (acc : Array Value), (∀ b o, s.heap.get? b = some o → h'.get? b = some o) → ItemsOf P acc n → Q acc.toList { s with heap := h', toks := tk }) :
    wpAny (model prog w) A (collect (.ref r)) Q E s := by
  unfold collect
  refine wpAny_bind (wpAny_runValue (codeAny_builtin F.entry_proto_collect ?_))
  rw [Around.under_plainId F.plain_proto_collect _]
  show wpAny _ A.in1 (newList [] >>= fun l => again (.builtin "list.__iadd__" ⟨[l, .ref r], []⟩)) _ _ s
  refine wpAny_bind (wpAny_newObj_type ?_)
  refine wpAny_pure ⟨plainId_quiet F.plain_list_iadd _, codeAny_builtin F.entry_list_iadd ?_⟩
  rw [Around.under_plainId F.plain_list_iadd _]
  show wpAny _ A.in1 (Builtin.List.listExtendWith (.ref s.heap.objs.size) (.ref r) (.ref s.heap.objs.size)) _ _ _
  have hS : (s.heap.push { cls := .type "list", data := .seq ([] : List Value).toArray }).get? s.heap.objs.size = some { cls := .type "list", data := .seq #[] 0 } := Heap.get?_push_size _ rfl
  have hlt := K.there _ hok
  refine wpAny_mono (kdl_extend (A := A) (R := fun rr s' => rr = .ok (.ret (.ref s.heap.objs.size)) ∧ ∃ (h' : Heap) (tk : Nat) (acc : Array Value) (c' : Nat), s' = { s with heap := h', toks := tk } ∧
      (∀ b o, s.heap.get? b = some o → h'.get? b = some o) ∧ h'.get? s.heap.objs.size = some { cls := .type "list", dict := none, data := .seq acc c', slots := #[] } ∧ ItemsOf P acc n)
    (s := { s with heap := s.heap.push { cls := .type "list", data := .seq ([] : List Value).toArray } }) K hh (K.keep _ _ hok fun b _ o e => Heap.get?_push_of_some _ e) s.heap.objs.size (Nat.ne_of_gt hlt.1) (Nat.ne_of_gt hlt.2) _ 0 hS
    (fun h' tk acc c' hk e hi => ⟨rfl, h', tk, acc, c', rfl, fun b o q => hk b o (Nat.ne_of_lt (Heap.lt_size q)) (Heap.get?_push_of_some _ q), e, hi⟩) hlen) (fun fin s' h => ?_) (fun e s' h => ?_)
  · cases fin with
    | done f =>
      obtain ⟨e, h', tk, acc, c', rfl, hk, hS', hi⟩ := h
      cases e
      show wpAny _ A (load s.heap.objs.size >>= _) _ _ _
      exact wpAny_bind (wpAny_load hS' (wpAny_pure (hQ h' tk acc hk hi)))
    | again c' =>
      refine ⟨h.1, codeAny_mono h.2 fun rr s'' hr' => ?_⟩
      obtain ⟨rfl, h', tk, acc, c', rfl, hk, hS', hi⟩ := hr'
      show wpAny _ A (load s.heap.objs.size >>= _) _ _ _
      exact wpAny_bind (wpAny_load hS' (wpAny_pure (hQ h' tk acc hk hi)))
  · exact absurd h.1 (by simp)
theorem cm_code_tuple {Q₁ : Value → Shared → Prop} (K : KdlSrc prog w T r d n P OK) (nt : T ≠ "tuple") (hh : A.handled = none) (hok : OK s.heap) (hlen : n ≤ sizeLine)
    (h : ∀ (h' : Heap) (tk : Nat) (acc : Array Value), (∀ b o, s.heap.get? b = some o → h'.get? b = some o) → ItemsOf P acc n →
      Q₁ (.ref h'.objs.size) { s with heap := h'.push { cls := .type "tuple", data := .seq acc }, toks := tk }) :
    codeAny (model prog w) A (.call (.builtin "tuple.__new__") ⟨[.type "tuple", .ref r], []⟩) (wants Q₁ E) s := by
  refine codeAny_of_tree ?_
  show wpAny _ A.in1 (do checkBuiltinCall "tuple.__new__" ⟨[.type "tuple", .ref r], []⟩; again (.builtin "tuple.__new__" ⟨[.type "tuple", .ref r], []⟩)) _ _ s
  refine wpAny_bind (wpAny_of_eq (F.newCall_tuple_1 _) (wpAny_pure ⟨plainId_quiet F.plain_tuple_new _, codeAny_builtin F.entry_tuple_new ?_⟩))
  rw [Around.under_plainId F.plain_tuple_new _]
  have hsub := sub_tuple_self
  have hinit := init_tuple_lookup
  have hmh := madeHere_tuple
  have hTI : s.TypeIs (.ref r) T := K.type s hok
  have hnt := K.notTuple
  have hh1 : A.in1.handled = none := hh
  wp_walk using wpAny_typeOf hTI, cm_collect (A := A.in1) K hh1 hok hlen
  intro h' tk acc hk hacc
  show wpAny _ _ (Builtin.Tuple.tupleExact acc.toList.toArray >>= fun v => ret v) _ _ _
  unfold Builtin.Tuple.tupleExact
  refine wpAny_bind (wpAny_newObj_type ?_ (by show acc.toList.toArray.size ≤ sizeLine; simp only [Array.toArray_toList]; rw [hacc.1]; exact hlen))
  refine wpAny_pure ?_
  have e : acc.toList.toArray = acc := by simp
  rw [e]
  exact h h' tk acc hk hacc
theorem cm_call_tuple {Q : Value → Shared → Prop} (K : KdlSrc prog w T r d n P OK) (nt : T ≠ "tuple") (hh : A.handled = none) (hok : OK s.heap) (hlen : n ≤ sizeLine)
    (hQ : ∀ (h' : Heap) (tk : Nat) (acc : Array Value), (∀ b o, s.heap.get? b = some o → h'.get? b = some o) → ItemsOf P acc n →
      Q (.ref h'.objs.size) { s with heap := h'.push { cls := .type "tuple", data := .seq acc }, toks := tk }) :
    wpAny (model prog w) A (call (.type "tuple") [.ref r]) Q E s := by
  refine callType_codes (Q₁ := fun obj s₁ => s₁.TypeIs obj "tuple" ∧ Q obj s₁) F.called_tuple (F.typeCall_tuple_1 _) F.entry_object_init
    (cm_code_tuple (A := A.in1) K nt hh hok hlen fun h' tk acc hk hacc => ⟨⟨_, Heap.get?_push_size _ rfl, rfl⟩, hQ h' tk acc hk hacc⟩) fun obj s₁ h₁ => ?_
  exact ⟨h₁.1, F.args_object_init_2 obj _, object_init_meets F.called_tuple.init.lookup F.called_tuple.made (by decide) prog w A.in1 _ s₁ ⟨h₁.1, rfl, h₁.2⟩⟩
end
end DD
namespace DD
open PySem PySem.W L2 SX Cm
section
variable {X : Cx}
theorem call_tupleD (hcalm : X.calm = true) : CallR X (.type "tuple") (fun xs H Q => ∃ (a : Addr) (kvs : List (Key × V)), xs = [.ref a] ∧ Rd H a (.dK kvs) ∧ ∀ p, H p = none → Q (.ref p) (upd H p (.tup (kvs.map fun kv => kV kv.1)))) := by
  intro pins s σ H xs us Q I r q
  obtain ⟨a, kvs, ex, hd, q⟩ := q
  subst ex
  obtain ⟨u, eu, rx⟩ := vals1 r
  subst eu
  cases rx
  obtain ⟨z, lo, vs, rel, dd⟩ := dk_rd I.hok hd
  obtain ⟨ep, hat⟩ := dd.dictAt
  have ek : (kvs.map fun kv => kV kv.1) = vs.map fun p => kV p.1 := by
    have e := congrArg (List.map kV) rel.keys
    rw [List.map_map, List.map_map] at e
    exact e
  refine cm_call_tuple (PySem.W.kdl_dict (knd := mixKind X.prog X.w) (kvs := vs) (ep := ep) lo) (by decide) (I.ok.hd hcalm) hat (by rw [← rel.length]; exact z) fun h' tk acc hk hacc => ?_
  have hv : Vals (vs.map fun p => kV p.1) acc.toList := keys_at (by rw [Array.length_toList]; exact hacc.1) fun j v e => hacc.2 j v (by rw [← Array.getElem?_toList]; exact e)
  have I1 : Inv X pins σ H { s with heap := h', toks := tk } := I.kept (t' := tk) hk
  have I2 : Inv X pins σ (upd H h'.objs.size (.tup (kvs.map fun kv => kV kv.1))) { s with heap := h'.push { cls := .type "tuple", data := .seq acc }, toks := tk } :=
    I1.laid (t' := tk) (fun b o e => Heap.get?_push_of_some _ e) (Nat.le_refl _) (show ObjOk X.prog X.w _ _ _ (.tup (kvs.map fun kv => kV kv.1)) from ⟨by rw [List.length_map]; exact z, acc.toList, by rw [ek]; exact hv, by rw [Array.toArray_toList]; exact PyProof.Rows.IsTup.new h' acc⟩)
  exact ⟨.ref h'.objs.size, _, I2, rfl, q _ (I1.hok.fresh (Nat.le_refl _))⟩
/-- tuple(x) of a list, a tuple or a dict of texts -/
def bTupD : DC
  | [.ref p], G, Q => ∃ (kvs : List (Key × DV)) (ks : List Str), G p = some (.dct kvs) ∧ kvs.map (·.1) = ks.map keyD ∧ Q (.tup (ks.map .str)) G
  | _, _, _ => False
theorem cd_tupD (hc : X.calm = true) : CallD X (.type "tuple") bTupD := by
  refine ⟨_, call_tupleD hc, fun ds vs H G R Q r w h f => ?_⟩
  cases r with
  | nil => exact h.elim
  | cons rv rt =>
    cases rt with
    | cons _ _ => cases rv <;> exact h.elim
    | nil =>
      cases rv with
      | ref p =>
        obtain ⟨kvs, ks, eG, hk, q⟩ := h
        obtain ⟨us, hu, kr⟩ := wd_dct w eG
        have ek : (us.map fun kv => kV kv.1) = ks.map V.str := by
          have e := congrArg (List.map kV) (kr.keys.trans hk)
          rw [List.map_map, List.map_map] at e
          exact e
        refine ⟨p, us, rfl, .inl hu, fun l nl => ?_⟩
        rw [ek]
        have s' := same_new nl (.tup (ks.map V.str))
        exact f _ _ _ _ q (TKs.of s') (w.same s') (.tup (SqT.of upd_same) (RVs.strs' ks))
      | _ => exact h.elim
end
/-! ### comprehensions that make dicts -/
def DcG (ds : List DV) (st : DG → Prop) (ld : TL) (tt : TDT) (tk tv : TD) (δ : DSt) (G1 : DG) (Q : DK) : Prop := ∀ p, G1 p = none → ∃ Pv : Nat → List (Key × DV) → DG → Prop, Pv 0 [] (dupd G1 p (.dct [])) ∧ (∀ i kvs G, Pv i kvs G → st G) ∧
  (∀ i d kvs G, ds[i]? = some d → Pv i kvs G → ld d δ fun δ2 => tt δ2 G fun b G3 => if b = true then tk δ2 G3 fun y G4 => tv δ2 G4 fun u G5 => ∃ z, y = .str z ∧ G5 p = some (.dct kvs) ∧ kvs.length < sizeLine ∧ Pv (i + 1) (putD kvs (keyD z) u) (dupd G5 p (.dct (putD kvs (keyD z) u))) else Pv (i + 1) kvs G3) ∧
  (∀ kvs G, Pv ds.length kvs G → Q (.ref p) G)
def dDc (ti : TDI) (ld : TL) (tt : TDT) (tk tv : TD) (vs : List Nat) : TD := fun δ G Q => ti δ G fun ds st G1 => DcG ds st ld tt tk tv (wipeD δ vs) G1 Q
theorem w_dc {ti : TDI} {ld : TL} {tt : TDT} {tk tv : TD} {vs : List Nat} {δ : DSt} {G : DG} {Q : DK} (h : ti δ G fun ds st G1 => DcG ds st ld tt tk tv (wipeD δ vs) G1 Q) : dDc ti ld tt tk tv vs δ G Q := h
theorem dc_up {K : Frag} {ti : TDI} {g : TG} {ld : TL} {tt : TDT} {tk tv : TD} {vs : List Nat} (lt : LT K vs g ld) {σ : St} {H : Hp} {Q : VK} (h : up K (dDc ti ld tt tk tv vs) σ H Q) : tDc (upI K ti) g (upT K tt) (up K tk) (up K tv) vs σ H Q := by
  obtain ⟨δ, G, R, sl, w, h, f⟩ := h
  refine ⟨δ, G, _, sl, w, h, fun ds st G1 H1 J q t1 w1 j p np => ?_⟩
  obtain ⟨Pv, p0, pst, ps, pd⟩ := q p (w1.free np)
  have s0 : Same H1 (upd H1 p (.dK [])) := same_new np _
  refine ⟨fun i m H2 => ∃ acc G, Pv i acc G ∧ TKs K H1 H2 ∧ Wd K H2 G ∧ i ≤ ds.length ∧ m = ds.length - i, ⟨_, [], _, p0, TKs.of s0, w1.new np fun O => ⟨[], upd_same, .nil⟩, Nat.zero_le _, rfl⟩, ?_⟩
  rintro i m H2 ⟨acc, G2, p2, t2, w2, hi, rfl⟩
  by_cases hlt : i < ds.length
  · refine .inr ⟨j.go i H2 G2 t2 w2 (pst _ _ _ p2) hlt, fun H3 => ∃ acc G, Pv (i + 1) acc G ∧ TKs K H1 H3 ∧ Wd K H3 G, fun H3 ⟨acc3, G3, p3, t3, w3⟩ => ⟨_, by omega, acc3, G3, p3, t3, w3, hlt, rfl⟩, fun x H3 y => ?_⟩
    obtain ⟨s3, d, hd, rd⟩ := j.yld i H2 G2 x H3 t2 w2 (pst _ _ _ p2) hlt y
    have t3 := TKs.of (K := K) s3
    have t13 := t2.trans t3
    have w3 := w2.same s3
    refine lt x d _ (wipeD δ vs) H3 _ _ rd (((sl.mono t1).mono t13).wipe vs) (ps i d acc G2 hd p2) fun σ4 δ4 sl4 e4 q4 => ⟨by rw [e4]; exact wipe_wipe σ vs, δ4, G2, _, sl4, w3, q4, fun b G5 H5 q5 t5 w5 => ?_⟩
    have t15 := t13.trans t5
    cases b with
    | false => exact iteF ⟨acc, G5, q5, t15, w5⟩
    | true =>
      refine iteT ⟨δ4, G5, _, sl4.mono t5, w5, q5, fun y G6 vy H6 q6 t6 w6 r6 => ⟨δ4, G6, _, (sl4.mono t5).mono t6, w6, q6, fun u G7 vu H7 ⟨z, ez, e7, l7, q7⟩ t7 w7 r7 => ?_⟩⟩
      subst ez
      cases r6
      obtain ⟨us, hu, ru⟩ := wd_dct w7 e7
      have t8 : TKs K H7 (upd H7 p (.dK (putK us (keyD z) vu))) := tks_dct hu
      refine ⟨us, keyD z, rfl, hu, by rw [ru.len]; exact l7, _, _, q7, ((t15.trans t6).trans t7).trans t8, ?_⟩
      exact w7.put ⟨_, e7, fun L φ z => by cases z⟩ t8 fun O => ⟨_, upd_same, (ru.put (keyD z) r7).mono t8⟩
  · have e : i = ds.length := by omega
    subst e
    exact .inl ⟨j.stop _ H2 G2 t2 w2 (pst _ _ _ p2) rfl, f _ _ _ _ (pd _ _ p2) (t1.trans t2) w2 (.ref p)⟩
section
variable {X : Cx}
theorem de_dc {kx vx tg iter : Expr} {ifs : List Expr} {scope : Scope} {own : List (Str × Nat)} {pos : Pos} {ti : TDI} {g : TG} {ld : TL} {tt : TDT} {tk tv : TD} (lt : LT X.K (own.map (·.2)) g ld) (hc : X.calm = true) (hN : X.N.Nodup) (hi : DI X tg iter ti) (ok : BlkOk X.N X.env.scope scope own)
    (hg : ∀ (s : Shared) (H : Hp) (C : Addr) (cl : List (Str × Addr)) (fp : List Addr), PG (X.blk s H scope (compEnvC scope cl C X.env) fp) tg g) (ht : ∀ (s : Shared) (H : Hp) (C : Addr) (cl : List (Str × Addr)) (fp : List Addr), PTs (X.blk s H scope (compEnvC scope cl C X.env) fp) ifs (upT X.K tt))
    (hk : ∀ (s : Shared) (H : Hp) (C : Addr) (cl : List (Str × Addr)) (fp : List Addr), PE (X.blk s H scope (compEnvC scope cl C X.env) fp) kx (up X.K tk)) (he : ∀ (s : Shared) (H : Hp) (C : Addr) (cl : List (Str × Addr)) (fp : List Addr), PE (X.blk s H scope (compEnvC scope cl C X.env) fp) vx (up X.K tv)) (hs : ∀ x, foldedSetIterable iter X.env x = pure x := by intro _; rfl) :
    DE X (.DictComp kx vx [⟨tg, iter, ifs, 0⟩] scope pos) (dDc ti ld tt tk tv (own.map (·.2))) := PE_mono (pe_dc hc hN hi ok hg ht hk he hs) fun σ H Q h => dc_up lt h
end
end DD
namespace Cm
open PySem PySem.W L2 SX
/-! ### xs[a:] = ys, another list -/
section
open PySem.Spec PyProof.Rows
variable {prog : Program} {w : World} {A : Around} {E : Value → Shared → Prop} {s : Shared}
theorem bounds_tail {a n : Nat} (h : a ≤ n) : sliceBounds (some (a : Int)) none none n = ((a : Int), (n : Int), 1) := by
  have h1 : ¬ ((a : Int) < 0) := by omega
  simp only [sliceBounds, Option.getD_none, h1, if_false, show (1 : Int) > 0 by decide, if_true]
  congr 1; omega
theorem setItem_tail {l b sl : Addr} {items new : Array Value} {n n2 a : Nat} {vl vu : Value} {Q : Unit → Shared → Prop} (e : s.heap.get? l = some { cls := .type "list", data := .seq items n }) (e2 : s.heap.get? b = some { cls := .type "list", data := .seq new n2 })
    (hne : l ≠ b) (hs : s.heap.IsSliceOf sl vl vu .none) (pl : IsPart vl (some (a : Int))) (pu : IsPart vu none) (ha : a ≤ items.size) (hsz : items.size + new.size ≤ sizeLine)
    (h : Q () { s with heap := s.heap.update l (Obj.mapSeq fun xs => xs.extract 0 a ++ new ++ xs.extract items.size xs.size) }) : wpAny (model prog w) A (setItem (.ref l) (.ref sl) (.ref b)) Q E s := by
  have tl : s.TypeIs (.ref l) "list" := (PySem.IsL.isList e).typeIs
  have tb : s.TypeIs (.ref b) "list" := (PySem.IsL.isList e2).typeIs
  obtain ⟨os, hos, hcs, hds⟩ := id hs
  have ts : s.TypeIs (.ref sl) "slice" := ⟨os, hos, hcs⟩
  have st0 : ¬ ((rawPart none == rawInt 0) = true) := Bool.false_ne_true
  have sr : Builtin.List.listSameRef (.ref l) (.ref b) = false := by
    unfold Builtin.List.listSameRef; exact beq_eq_false_iff_ne.mpr hne
  have mx : (max (a : Int) (items.size : Int)).toNat = items.size := by omega
  have long' : ((fun xs : Array Value => xs.extract 0 a ++ new ++ xs.extract items.size xs.size) items).size ≤ sizeLine + 1 := by
    simp only [Array.size_append, Array.size_extract]; omega
  unfold setItem
  (try with_reducible refine wpAny_holding ?_); (first | refine wpAny_bind (wpAny_pure ?_) | skip)
  refine wpAny_bind (wpAny_sequenceKey tl (by decide) (wpAny_bind (wpAny_callSpecial?_slot (name := Str.ofString "__setitem__") tl slot_list_setitem (wpAny_call_entry slot_list_setitem tl entry_list_setitem ?_ (args_list_setitem _ _ _)))))
  show wpAny _ _ (Builtin.List.listSubscript? (.ref sl) >>= _) _ _ s
  refine wpAny_bind ?_; unfold Builtin.List.listSubscript?
  refine wpAny_bind (wpAny_specialOf ts slice_no_index ?_)
  simp only [Option.isNone_none, if_true]
  refine wpAny_pure ?_
  show wpAny _ _ (typeOf (.ref sl) >>= _) _ _ s
  refine wpAny_bind (wpAny_typeOf ts ?_)
  first | rw [if_neg (by decide)] | refine PySem.W.KFB.if_not (by decide) ?_
  rw [listSliceParts_eq]
  refine wpAny_bind (wpAny_bind (wpAny_field hos hds (x := .none) rfl (wpAny_bind (wpAny_listPart .none ?_)))); rw [if_neg st0]
  refine wpAny_bind (wpAny_field hos hds (x := vl) rfl (wpAny_bind (wpAny_listPart pl (wpAny_bind (wpAny_field hos hds (x := vu) rfl (wpAny_bind (wpAny_listPart pu (wpAny_pure ?_))))))))
  first | simp only [sr, Bool.false_eq_true, if_false] | refine PySem.W.KFB.if_not sr ?_ | (dsimp only; rw [if_neg (by rw [sr]; exact Bool.false_ne_true)])
  refine wpAny_bind (m := Builtin.List.listAllItems (.ref b) "must assign iterable to extended slice") ?_; unfold Builtin.List.listAllItems
  refine wpAny_bind (wpAny_typeOf tb ?_)
  first | refine PySem.W.KFB.if_so (by decide) ?_ | rw [if_pos (by decide)] | simp only [beq_self_eq_true, Bool.true_or, if_true]
  unfold Builtin.List.listItems
  refine wpAny_bind (wpAny_seqItems e2 rfl (wpAny_pure (wpAny_bind (wpAny_bind (wpAny_seqItems e rfl (wpAny_pure ?_))))))
  refine wpAny_bind (wpAny_of_eq ((sliceIndices_raw (some (a : Int)) none none items.size (by simp)).trans (congrArg (pure : Int × Int × Int → Sem (Int × Int × Int)) (bounds_tail ha))) ?_)
  show wpAny _ _ (if ((1 : Int) == 1) = true then _ else _) _ _ s
  rw [if_pos (by decide)]; refine wpAny_bind (wpAny_rule ?_)
  first | simp only [notLongL hsz, Bool.false_eq_true, if_false] | refine PySem.W.KFB.if_not (notLongL hsz) ?_
  (first | refine wpAny_bind (wpAny_pure ?_) | skip)
  show wpAny _ _ (updateSeq l (fun xs => xs.extract 0 ((a : Int)).toNat ++ new ++ xs.extract (max (a : Int) (items.size : Int)).toNat xs.size) >>= _) _ _ s
  rw [mx, Int.toNat_natCast]
  refine wpAny_bind (wpAny_updateSeq (hz := Nat.le_trans (Nat.le_add_right _ _) hsz) (_hz' := long') e rfl (wpAny_bind (wpAny_letGo ?_)))
  first | exact wpAny_bind (wpAny_pure (wpAny_pure ⟨.none, rfl, wpAny_pure h⟩)) | exact wpAny_pure ⟨.none, rfl, wpAny_pure h⟩
variable {X : Cx}
/-- o[lo:] = v -/
def gTail (to tl : TE) : TG := fun v σ H Q => to σ H fun x H1 => tl σ H1 fun y H2 => ∃ (l b : Addr) (a : Int) (xs ys : List V), x = .ref l ∧ v = .ref b ∧ y = .int a ∧ H2 l = some (.lst xs) ∧ H2 b = some (.lst ys) ∧ l ≠ b ∧ 0 ≤ a ∧ a ≤ xs.length ∧ xs.length + ys.length ≤ sizeLine ∧ Q σ (upd H2 l (.lst (xs.take a.toNat ++ ys)))
theorem pg_tail {o lo : Expr} {to tl : TE} {p2 pos : Pos} (ho : PE X o to) (hi : PE X lo tl) : PG X (.Subscript o (.Slice (some lo) none none p2) pos) (gTail to tl) := by
  refine ⟨fun pins s σ H v u Q I r h => ?_⟩
  rw [arm_assign_Subscript]
  refine wpAny_bind (wpAny_holding (thn (ho.run pins s σ H _ I h) fun ov s1 ⟨x, H1, I1, r1, q1⟩ => wpAny_bind (wpAny_holding ?_)))
  refine wpAny_Slice ?_
  rw [evalPart_some]
  refine thn (hi.run pins s1 σ H1 _ I1 q1) fun vl s2 ⟨y, H2, I2, r2, q2⟩ => ?_
  rw [evalPart_none]
  refine wpAny_pure (wpAny_pure ?_)
  obtain ⟨l, b, a, xs, ys, rfl, rfl, rfl, hl, hb, ne, a0, a1, hz, q⟩ := q2
  cases r1
  obtain rfl : u = Value.ref b := r
  obtain ⟨t, rfl⟩ := r2
  have I3 : Inv X pins σ H2 { s2 with heap := s2.heap.push { cls := .type "slice", data := .fields #[.int a t, .none, .none] } } := I2.kept (t' := s2.toks) fun b ob q => Heap.get?_push_of_some _ q
  refine wpAny_bind (wpAny_standAt (wpAny_bind (wpAny_holding ?_)))
  obtain ⟨z, its, n, rv, hln, e⟩ := I3.lstM hl
  obtain ⟨z2, its2, n2, rv2, hln2, e2⟩ := I3.lstM hb
  obtain ⟨a', rfl⟩ := Int.eq_ofNat_of_zero_le a0
  refine setItem_tail (a := a') e e2 ne (Heap.IsSliceOf.new ..) (.int _ _) .none (by rw [List.size_toArray]; omega) (by rw [List.size_toArray, List.size_toArray]; omega) (wpAny_release ⟨σ, _, ?_, q⟩)
  refine I3.lset (its' := its.take a' ++ its2) (t' := s2.toks) hl e ?_ (Vals.append (rv.take _) rv2) ?_
  · have := splice_eq its its2 a' its.length
    rw [List.drop_of_length_le (Nat.le_refl _), List.append_nil] at this
    rw [← this, List.size_toArray]
  · rw [List.length_append, List.length_take]; omega
end
end Cm
/-! del xs[a:] -/
namespace Cm
open PySem PySem.W L2 SX
section
open PySem.Spec PyProof.Rows
variable {prog : Program} {w : World} {A : Around} {E : Value → Shared → Prop} {s : Shared}
theorem cut_sel {α : Type} (f : α × Nat → Option α) : ∀ (xs : List α) (k a : Nat), (∀ x j, k ≤ j → j < k + xs.length → f (x, j) = if a ≤ j then none else some x) → (xs.zipIdx k).filterMap f = xs.take (a - k)
  | [], _, _, _ => by simp
  | x :: r, k, a, h => by
    have ih := cut_sel f r (k + 1) a fun y j h1 h2 => h y j (by omega) (by rw [List.length_cons]; omega)
    have hk := h x k (Nat.le_refl k) (by rw [List.length_cons]; omega)
    rw [List.zipIdx_cons]
    by_cases hak : a ≤ k
    · rw [if_pos hak] at hk
      rw [List.filterMap_cons_none hk, ih, show a - (k + 1) = 0 by omega, show a - k = 0 by omega]; rfl
    · rw [if_neg hak] at hk
      rw [List.filterMap_cons_some hk, ih, show a - k = (a - (k + 1)) + 1 by omega]; rfl
theorem delItem_tail {l sl : Addr} {items : Array Value} {n a : Nat} {vl vu : Value} {Q : Unit → Shared → Prop} (e : s.heap.get? l = some { cls := .type "list", data := .seq items n })
    (hs : s.heap.IsSliceOf sl vl vu .none) (pl : IsPart vl (some (a : Int))) (pu : IsPart vu none) (ha : a ≤ items.size) (hsz : items.size ≤ sizeLine)
    (h : ∀ F : Array Value → Array Value, F items = (items.toList.take a).toArray → Q () { s with heap := s.heap.update l (Obj.mapSeq F) }) : wpAny (model prog w) A (delItem (.ref l) (.ref sl)) Q E s := by
  have tl : s.TypeIs (.ref l) "list" := (PySem.IsL.isList e).typeIs
  obtain ⟨os, hos, hcs, hds⟩ := id hs
  have ts : s.TypeIs (.ref sl) "slice" := ⟨os, hos, hcs⟩
  have st0 : ¬ ((rawPart none == rawInt 0) = true) := Bool.false_ne_true
  refine wpAny_delItem_slot tl (by decide) F.slot_list_delitem (wpAny_call_entry F.slot_list_delitem tl F.entry_list_delitem ?_ (F.args_list_delitem_2 _ _))
  show wpAny _ _ (Builtin.List.listSubscript? (.ref sl) >>= _) _ _ s
  refine wpAny_bind ?_; unfold Builtin.List.listSubscript?
  refine wpAny_bind (wpAny_specialOf ts slice_no_index ?_)
  simp only [Option.isNone_none, if_true]
  refine wpAny_pure ?_
  show wpAny _ _ (typeOf (.ref sl) >>= _) _ _ s
  refine wpAny_bind (wpAny_typeOf ts ?_)
  first | rw [if_neg (by decide)] | refine PySem.W.KFB.if_not (by decide) ?_
  rw [listSliceParts_eq]
  refine wpAny_bind (wpAny_bind (wpAny_field hos hds (x := .none) rfl (wpAny_bind (wpAny_listPart .none ?_)))); rw [if_neg st0]
  refine wpAny_bind (wpAny_field hos hds (x := vl) rfl (wpAny_bind (wpAny_listPart pl (wpAny_bind (wpAny_field hos hds (x := vu) rfl (wpAny_bind (wpAny_listPart pu (wpAny_pure ?_))))))))
  unfold Builtin.List.listItems
  refine wpAny_bind (wpAny_bind (wpAny_seqItems e rfl (wpAny_pure ?_)))
  refine wpAny_bind (wpAny_of_eq ((sliceIndices_raw (some (a : Int)) none none items.size (by simp)).trans (congrArg (pure : Int × Int × Int → Sem (Int × Int × Int)) (bounds_tail ha))) ?_)
  refine wpAny_bind (wpAny_rule ?_)
  refine wpAny_bind ?_
  unfold Builtin.List.listUpdate
  refine wpAny_updateSeq (hz := hsz) (_hz' := ?_) e rfl (wpAny_bind (wpAny_letGo ?_))
  · refine wpAny_bind (wpAny_pure (wpAny_pure ⟨.none, rfl, h _ ?_⟩))
    refine congrArg List.toArray ((cut_sel _ items.toList 0 a fun x j _ h2 => ?_).trans (by rw [Nat.sub_zero]))
    rw [Array.length_toList, Nat.zero_add] at h2
    show (if (if (1 : Int) > 0 then decide ((a : Int) ≤ (j : Int)) && decide ((j : Int) < (items.size : Int)) && (((j : Int) - (a : Int)) % 1 == 0) else decide ((items.size : Int) < (j : Int)) && decide ((j : Int) ≤ (a : Int)) && (((a : Int) - (j : Int)) % (-1) == 0)) = true then none else some x) = if a ≤ j then none else some x
    rw [if_pos (show (1 : Int) > 0 by decide), Int.emod_one, decide_eq_true (show (j : Int) < (items.size : Int) by omega)]
    by_cases haj : a ≤ j
    · rw [if_pos haj, decide_eq_true (show (a : Int) ≤ (j : Int) by omega)]; rfl
    · rw [if_neg haj, decide_eq_false (show ¬ (a : Int) ≤ (j : Int) by omega)]; rfl
  · refine Nat.le_trans ?_ (Nat.le_succ_of_le hsz)
    show (List.filterMap _ items.toList.zipIdx).toArray.size ≤ items.size
    rw [List.size_toArray]
    refine Nat.le_trans (List.length_filterMap_le _ _) ?_
    rw [List.length_zipIdx, Array.length_toList]; exact Nat.le_refl _
variable {X : Cx}
def tDelT (to tl : TE) : TS := fun D σ H => to σ H fun x H1 => tl σ H1 fun y H2 => ∃ (l : Addr) (a : Int) (xs : List V), x = .ref l ∧ y = .int a ∧ H2 l = some (.lst xs) ∧ 0 ≤ a ∧ a ≤ xs.length ∧ D.nx σ (upd H2 l (.lst (xs.take a.toNat)))
theorem ps_delT {o lo : Expr} {to tl : TE} {p2 tpos pos : Pos} (ho : PE X o to) (hi : PE X lo tl) : PS X (.Delete [.Subscript o (.Slice (some lo) none none p2) tpos] pos) (tDelT to tl) := by
  refine ⟨fun pins s σ H D I h => ?_⟩
  refine wpAny_Delete (wpAny_deleteEach_cons (wpAny_delete_Subscript (thn (ho.run pins s σ H _ I h) fun u s1 ⟨x, H1, I1, r1, q1⟩ => ?_)))
  refine wpAny_Slice ?_
  rw [evalPart_some]
  refine thn (hi.run pins s1 σ H1 _ I1 q1) fun vl s2 ⟨y, H2, I2, r2, q2⟩ => ?_
  rw [evalPart_none]
  refine wpAny_pure (wpAny_pure ?_)
  obtain ⟨l, a, xs, rfl, rfl, hl, a0, a1, q⟩ := q2
  cases r1
  obtain ⟨t, rfl⟩ := r2
  have I3 : Inv X pins σ H2 { s2 with heap := s2.heap.push { cls := .type "slice", data := .fields #[.int a t, .none, .none] } } := I2.kept (t' := s2.toks) fun b ob q => Heap.get?_push_of_some _ q
  obtain ⟨z, its, n, rv, hln, e⟩ := I3.lstM hl
  obtain ⟨a', rfl⟩ := Int.eq_ofNat_of_zero_le a0
  refine delItem_tail (a := a') e (Heap.IsSliceOf.new ..) (.int _ _) .none (by rw [List.size_toArray]; omega) (by rw [List.size_toArray]; omega) fun F hF => wpAny_deleteEach_nil ⟨σ, _, ?_, q⟩
  refine I3.lset (its' := its.take a') (t' := s2.toks) hl e hF (rv.take _) ?_
  rw [List.length_take]; omega
end
end Cm
namespace DD
open PySem PySem.W L2 SX Cm
section
variable {X : Cx}
def dDelT (to tl : TD) : TDS := fun D δ G => to δ G fun x G1 => tl δ G1 fun y G2 => ∃ (l : Addr) (a : Int) (xs : List DV), x = .ref l ∧ y = .int a ∧ G2 l = some (.lst xs) ∧ 0 ≤ a ∧ a ≤ xs.length ∧ D.nx δ (dupd G2 l (.lst (xs.take a.toNat)))
theorem ds_delT {o lo : Expr} {to tl : TD} {p2 tpos pos : Pos} (ho : DE X o to) (hi : DE X lo tl) : DS X (.Delete [.Subscript o (.Slice (some lo) none none p2) tpos] pos) (dDelT to tl) :=
  PS_mono (ps_delT ho hi) fun D σ H ⟨D', δ, G, sl, w, l, h⟩ => ⟨δ, G, _, sl, w, h, fun x G1 vx H1 q1 t1 w1 r1 => ⟨δ, G1, _, sl.mono t1, w1, q1, fun y G2 vy H2 ⟨p, a, xs, e1, e2, eG, a0, a1, q2⟩ t2 w2 r2 => by
    subst e1 e2
    cases r1
    cases r2
    obtain ⟨us, hu, r⟩ := wd_list w2 eG
    obtain ⟨t3, w3⟩ := put_lst w2 eG hu (r.take a.toNat)
    exact ⟨p, a, us, rfl, rfl, hu, a0, by rw [r.len]; exact a1, l.nx _ _ _ _ q2 ((t1.trans t2).trans t3) w3 (sl.mono ((t1.trans t2).trans t3))⟩⟩⟩
end
theorem w_delT {nx : DSt → DG → Prop} {rt : DK} {bk ct : DSt → DG → Prop} {δ : DSt} {G : DG} {to tl : TD} (h : to δ G fun x G1 => tl δ G1 fun y G2 => ∃ (l : Addr) (a : Int) (xs : List DV), x = .ref l ∧ y = .int a ∧ G2 l = some (.lst xs) ∧ 0 ≤ a ∧ a ≤ xs.length ∧ nx δ (dupd G2 l (.lst (xs.take a.toNat)))) : dDelT to tl ⟨nx, rt, bk, ct⟩ δ G := h
end DD
/-! methods of texts over data -/
namespace DD
open PySem PySem.W L2 SX Cm
section
variable {X : Cx}
def bUpper : DM := fun x ds G Q => ∃ a, x = .str a ∧ ds = [] ∧ a.length ≤ 5592405 ∧ Q (.str (Txt.upper a)) G
theorem md_upper : MtD X "str.upper" bUpper := by
  refine ⟨_, mt_upper, fun x ds vx vs H G R Q rx rs w h f => ?_⟩
  obtain ⟨a, rfl, rfl, hl, q⟩ := h
  cases rx
  cases rs
  exact ⟨a, rfl, rfl, hl, f _ _ _ _ q (TKs.refl H) w (.str _)⟩
theorem RVs.strsV {K : Frag} {H : Hp} : ∀ {v : List V} {ns : List Str}, RVs K H v (ns.map DV.str) → v = ns.map V.str
  | _, [], .nil => rfl
  | _, n :: r, .cons h t => by cases h; rw [RVs.strsV t]; rfl
/-- a.join(xs): xs a list or a tuple of texts -/
def bJoin : DM := fun x ds G Q => ∃ (a : Str) (ys : List Str), x = .str a ∧ ((∃ p, ds = [.ref p] ∧ Ls G p (ys.map .str)) ∨ ds = [.tup (ys.map .str)]) ∧ (ys.map (·.length)).sum + ys.length * a.length ≤ 16777216 ∧ Q (.str (Txt.join a ys)) G
theorem md_join : MtD X "str.join" bJoin := by
  refine ⟨_, mt_join, fun x ds vx vs H G R Q rx rs w h f => ?_⟩
  obtain ⟨a, ys, rfl, hd, hl, q⟩ := h
  cases rx
  rcases hd with ⟨p, rfl, l⟩ | rfl
  · cases rs with
    | cons r rt =>
      cases rt
      cases r
      obtain ⟨us, hs, r⟩ := wd_seq w l
      rw [r.strsV] at hs
      exact ⟨a, p, ys, rfl, rfl, .inl hs, hl, f _ _ _ _ q (TKs.refl H) w (.str _)⟩
  · cases rs with
    | cons r rt =>
      cases rt
      obtain ⟨p, us, rfl, hs, r⟩ := r.tupD
      rw [r.strsV] at hs
      exact ⟨a, p, ys, rfl, rfl, .inr hs, hl, f _ _ _ _ q (TKs.refl H) w (.str _)⟩
/-- a.split(b) -/
def bSplit : DM := fun x ds G Q => ∃ (a b : Str), x = .str a ∧ ds = [.str b] ∧ (b.length == 0) = false ∧ a.length + 2 ≤ sizeLine ∧ ∀ p, G p = none → Q (.ref p) (dupd G p (.lst ((Txt.split a b).map .str)))
theorem md_split : MtD X "str.split" bSplit := by
  refine ⟨_, mt_split, fun x ds vx vs H G R Q rx rs w h f => ?_⟩
  obtain ⟨a, b, rfl, rfl, hb, hl, q⟩ := h
  cases rx
  cases rs with
  | cons r rt =>
    cases rt
    cases r
    refine ⟨a, b, rfl, rfl, hb, hl, fun p np => ?_⟩
    have s' := same_new np (.lst ((Txt.split a b).map V.str))
    exact f _ _ _ _ (q p (w.free np)) (TKs.of s') (w.new np fun O => ⟨_, upd_same, RVs.strs' _⟩) (.ref p)
theorem w_upper {z : Str} {G : DG} {Q : DK} (l : z.length ≤ 5592405) (h : Q (.str (Txt.upper z)) G) : bUpper (.str z) [] G Q := ⟨z, rfl, rfl, l, h⟩
theorem w_join {a : Str} {ys : List Str} {p : Addr} {G : DG} {Q : DK} (e : G p = some (.lst (ys.map .str))) (l : (ys.map (·.length)).sum + ys.length * a.length ≤ 16777216) (h : Q (.str (Txt.join a ys)) G) : bJoin (.str a) [.ref p] G Q := ⟨a, ys, rfl, .inl ⟨p, rfl, .inl e⟩, l, h⟩
theorem w_split {a b : Str} {G : DG} {Q : DK} (hb : (b.length == 0) = false) (hl : a.length + 2 ≤ sizeLine) (h : ∀ p, G p = none → Q (.ref p) (dupd G p (.lst ((Txt.split a b).map .str)))) : bSplit (.str a) [.str b] G Q := ⟨a, b, rfl, rfl, hb, hl, h⟩
end
end DD
/-! kinds as they are, and as data -/
namespace DD
open PySem PySem.W L2 SX Cm
mutual
inductive Kd where
  | num
  | opn (z : Str)
  | lst (k : Kd)
  | row (a b : Sk)
inductive Sk where
  | mk (r : Str) (ks : List Kd)
end
def Sk.rest : Sk → Str
  | .mk r _ => r
def Sk.ks : Sk → List Kd
  | .mk _ ks => ks
mutual
def eK : Kd → DV
  | .num => .tup [.str "number"]
  | .opn z => .tup [.str "open", .str z]
  | .lst k => .tup [.str "list", eK k]
  | .row a b => .tup [.str "row", eS a, eS b]
def eS : Sk → DV
  | .mk r ks => .tup [.str r, .tup (eKs ks)]
def eKs : List Kd → List DV
  | [] => []
  | k :: r => eK k :: eKs r
end
def eR (p : Sk × Sk) : DV := .tup [eS p.1, eS p.2]
theorem eKs_map : ∀ ks, eKs ks = ks.map eK
  | [] => rfl
  | k :: r => by show eK k :: eKs r = _; rw [eKs_map r]; rfl
theorem eKs_len (ks : List Kd) : (eKs ks).length = ks.length := by rw [eKs_map, List.length_map]
theorem eKs_app (a b : List Kd) : eKs (a ++ b) = eKs a ++ eKs b := by rw [eKs_map, eKs_map, eKs_map, List.map_append]
theorem eS_eq (s : Sk) : eS s = .tup [.str s.rest, .tup (eKs s.ks)] := by cases s; rfl
mutual
/-- how many parts -/
def szK : Kd → Nat
  | .num => 1
  | .opn _ => 1
  | .lst k => 1 + szK k
  | .row a b => 1 + szS a + szS b
def szS : Sk → Nat
  | .mk _ ks => 1 + szKs ks
def szKs : List Kd → Nat
  | [] => 0
  | k :: r => szK k + szKs r
end
mutual
def dpK : Kd → Nat
  | .num => 0
  | .opn _ => 0
  | .lst k => 1 + dpK k
  | .row a b => 1 + max (dpS a) (dpS b)
def dpS : Sk → Nat
  | .mk _ ks => dpKs ks
def dpKs : List Kd → Nat
  | [] => 0
  | k :: r => max (dpK k) (dpKs r)
end
mutual
/-- its open things and its rests -/
def NK (P R : Str → Prop) : Kd → Prop
  | .num => True
  | .opn z => P z
  | .lst k => NK P R k
  | .row a b => NS P R a ∧ NS P R b
def NS (P R : Str → Prop) : Sk → Prop
  | .mk r ks => R r ∧ NKs P R ks
def NKs (P R : Str → Prop) : List Kd → Prop
  | [] => True
  | k :: r => NK P R k ∧ NKs P R r
end
theorem szK_pos : ∀ k, 1 ≤ szK k
  | .num => Nat.le_refl 1
  | .opn _ => Nat.le_refl 1
  | .lst k => by show 1 ≤ 1 + _; omega
  | .row a b => by show 1 ≤ 1 + _ + _; omega
theorem szS_pos : ∀ k, 1 ≤ szS k
  | .mk _ _ => by show 1 ≤ 1 + _; omega
theorem szKs_len : ∀ ks, ks.length ≤ szKs ks
  | [] => Nat.le_refl 0
  | k :: r => by have := szK_pos k; have := szKs_len r; show r.length + 1 ≤ szK k + szKs r; omega
theorem szKs_app : ∀ a b, szKs (a ++ b) = szKs a + szKs b
  | [], b => (Nat.zero_add _).symm
  | k :: r, b => by show szK k + szKs (r ++ b) = szK k + szKs r + szKs b; rw [szKs_app r b]; omega
theorem dpKs_app : ∀ a b, dpKs (a ++ b) = max (dpKs a) (dpKs b)
  | [], b => by show dpKs b = max 0 _; omega
  | k :: r, b => by show max (dpK k) (dpKs (r ++ b)) = max (max (dpK k) (dpKs r)) (dpKs b); rw [dpKs_app r b]; omega
theorem NKs_app {P R : Str → Prop} : ∀ a b, NKs P R (a ++ b) ↔ NKs P R a ∧ NKs P R b
  | [], b => ⟨fun h => ⟨trivial, h⟩, fun h => h.2⟩
  | k :: r, b => ⟨fun h => ⟨⟨h.1, ((NKs_app r b).mp h.2).1⟩, ((NKs_app r b).mp h.2).2⟩, fun h => ⟨h.1.1, (NKs_app r b).mpr ⟨h.1.2, h.2⟩⟩⟩
theorem mem_szK {k : Kd} : ∀ {ks : List Kd}, k ∈ ks → szK k ≤ szKs ks ∧ dpK k ≤ dpKs ks
  | a :: r, h => by
    rcases List.mem_cons.mp h with rfl | h
    · exact ⟨by show szK k ≤ szK k + szKs r; omega, by show dpK k ≤ max (dpK k) (dpKs r); omega⟩
    · obtain ⟨x, y⟩ := mem_szK h
      exact ⟨by show szK k ≤ szK a + szKs r; omega, by show dpK k ≤ max (dpK a) (dpKs r); omega⟩
theorem mem_NK {P R : Str → Prop} {k : Kd} : ∀ {ks : List Kd}, k ∈ ks → NKs P R ks → NK P R k
  | a :: r, h, g => by
    rcases List.mem_cons.mp h with rfl | h
    · exact g.1
    · exact mem_NK h g.2
mutual
theorem NK.imp {P R P' R' : Str → Prop} (hp : ∀ z, P z → P' z) (hr : ∀ z, R z → R' z) : ∀ k, NK P R k → NK P' R' k
  | .num, _ => trivial
  | .opn z, h => hp z h
  | .lst k, h => NK.imp hp hr k h
  | .row a b, h => ⟨NS.imp hp hr a h.1, NS.imp hp hr b h.2⟩
theorem NS.imp {P R P' R' : Str → Prop} (hp : ∀ z, P z → P' z) (hr : ∀ z, R z → R' z) : ∀ k, NS P R k → NS P' R' k
  | .mk r ks, h => ⟨hr r h.1, NKs.imp hp hr ks h.2⟩
theorem NKs.imp {P R P' R' : Str → Prop} (hp : ∀ z, P z → P' z) (hr : ∀ z, R z → R' z) : ∀ k, NKs P R k → NKs P' R' k
  | [], _ => trivial
  | k :: r, h => ⟨NK.imp hp hr k h.1, NKs.imp hp hr r h.2⟩
end
/-! ### filling -/
mutual
def fK (f : Str → Kd) (g : Str → Sk) : Kd → Kd
  | .num => .num
  | .opn z => f z
  | .lst k => .lst (fK f g k)
  | .row a b => .row (fS f g a) (fS f g b)
def fS (f : Str → Kd) (g : Str → Sk) : Sk → Sk
  | .mk r ks => .mk (g r).rest ((g r).ks ++ fKs f g ks)
def fKs (f : Str → Kd) (g : Str → Sk) : List Kd → List Kd
  | [] => []
  | k :: r => fK f g k :: fKs f g r
end
theorem fKs_map (f : Str → Kd) (g : Str → Sk) : ∀ ks, fKs f g ks = ks.map (fK f g)
  | [] => rfl
  | k :: r => by show fK f g k :: fKs f g r = _; rw [fKs_map f g r]; rfl
theorem fKs_len (f : Str → Kd) (g : Str → Sk) (ks : List Kd) : (fKs f g ks).length = ks.length := by rw [fKs_map, List.length_map]
mutual
theorem fK_congr {f f' : Str → Kd} {g g' : Str → Sk} {P R : Str → Prop} (hf : ∀ z, P z → f z = f' z) (hg : ∀ r, R r → g r = g' r) : ∀ k, NK P R k → fK f g k = fK f' g' k
  | .num, _ => rfl
  | .opn z, h => hf z h
  | .lst k, h => by show Kd.lst _ = Kd.lst _; rw [fK_congr hf hg k h]
  | .row a b, h => by show Kd.row _ _ = Kd.row _ _; rw [fS_congr hf hg a h.1, fS_congr hf hg b h.2]
theorem fS_congr {f f' : Str → Kd} {g g' : Str → Sk} {P R : Str → Prop} (hf : ∀ z, P z → f z = f' z) (hg : ∀ r, R r → g r = g' r) : ∀ k, NS P R k → fS f g k = fS f' g' k
  | .mk r ks, h => by show Sk.mk _ _ = Sk.mk _ _; rw [hg r h.1, fKs_congr hf hg ks h.2]
theorem fKs_congr {f f' : Str → Kd} {g g' : Str → Sk} {P R : Str → Prop} (hf : ∀ z, P z → f z = f' z) (hg : ∀ r, R r → g r = g' r) : ∀ k, NKs P R k → fKs f g k = fKs f' g' k
  | [], _ => rfl
  | k :: r, h => by show _ :: _ = _ :: _; rw [fK_congr hf hg k h.1, fKs_congr hf hg r h.2]
end
/-! one filling and then another one -/
mutual
theorem fK_fK (f f' : Str → Kd) (g g' : Str → Sk) : ∀ k, fK f' g' (fK f g k) = fK (fun z => fK f' g' (f z)) (fun r => fS f' g' (g r)) k
  | .num => rfl
  | .opn z => rfl
  | .lst k => by show Kd.lst _ = Kd.lst _; rw [fK_fK f f' g g' k]
  | .row a b => by show Kd.row _ _ = Kd.row _ _; rw [fS_fS f f' g g' a, fS_fS f f' g g' b]
theorem fS_fS (f f' : Str → Kd) (g g' : Str → Sk) : ∀ k, fS f' g' (fS f g k) = fS (fun z => fK f' g' (f z)) (fun r => fS f' g' (g r)) k
  | .mk r ks => by
    have h : g r = .mk (g r).rest (g r).ks := by cases g r; rfl
    show Sk.mk (g' (g r).rest).rest ((g' (g r).rest).ks ++ fKs f' g' ((g r).ks ++ fKs f g ks)) = Sk.mk (fS f' g' (g r)).rest ((fS f' g' (g r)).ks ++ fKs (fun z => fK f' g' (f z)) (fun r => fS f' g' (g r)) ks)
    rw [← fKs_fKs f f' g g' ks]
    generalize g r = s at *
    cases s with
    | mk r2 ks2 =>
      show Sk.mk (g' r2).rest ((g' r2).ks ++ fKs f' g' (ks2 ++ fKs f g ks)) = Sk.mk (g' r2).rest (((g' r2).ks ++ fKs f' g' ks2) ++ fKs f' g' (fKs f g ks))
      rw [fKs_map f' g' (ks2 ++ fKs f g ks), List.map_append, ← fKs_map, ← fKs_map, List.append_assoc]
theorem fKs_fKs (f f' : Str → Kd) (g g' : Str → Sk) : ∀ ks, fKs f' g' (fKs f g ks) = fKs (fun z => fK f' g' (f z)) (fun r => fS f' g' (g r)) ks
  | [] => rfl
  | k :: r => by show _ :: _ = _ :: _; rw [fK_fK f f' g g' k, fKs_fKs f f' g g' r]
end
mutual
theorem fK_id : ∀ k, fK .opn (fun r => .mk r []) k = k
  | .num => rfl
  | .opn z => rfl
  | .lst k => by show Kd.lst _ = Kd.lst _; rw [fK_id k]
  | .row a b => by show Kd.row _ _ = Kd.row _ _; rw [fS_id a, fS_id b]
theorem fS_id : ∀ k, fS .opn (fun r => .mk r []) k = k
  | .mk r ks => by show Sk.mk _ ([] ++ _) = Sk.mk _ _; rw [List.nil_append, fKs_id ks]; rfl
theorem fKs_id : ∀ ks, fKs .opn (fun r => .mk r []) ks = ks
  | [] => rfl
  | k :: r => by show _ :: _ = _ :: _; rw [fK_id k, fKs_id r]
end
/-! ### marks -/
mutual
def mkK : Kd → List Str
  | .num => [("number" : Str)]
  | .opn z => [z]
  | .lst k => ("{" : Str) :: (mkK k ++ [("}" : Str)])
  | .row a b => ("[" : Str) :: (mkS a ++ ("--" : Str) :: (mkS b ++ [("]" : Str)]))
def mkS : Sk → List Str
  | .mk r ks => (if r = ("" : Str) then [] else [r]) ++ mkKs ks
def mkKs : List Kd → List Str
  | [] => []
  | k :: r => mkK k ++ mkKs r
end
def mkR (p : Sk × Sk) : List Str := mkS p.1 ++ ("--" : Str) :: mkS p.2
theorem mkKs_flat : ∀ ks, mkKs ks = ks.flatMap mkK
  | [] => rfl
  | k :: r => by show mkK k ++ mkKs r = _; rw [mkKs_flat r, List.flatMap_cons]
mutual
theorem mkK_len : ∀ k, (mkK k).length + 1 ≤ 4 * szK k
  | .num => by show 1 + 1 ≤ 4; omega
  | .opn z => by show 1 + 1 ≤ 4; omega
  | .lst k => by have := mkK_len k; show (mkK k ++ [("}" : Str)]).length + 1 + 1 ≤ 4 * (1 + szK k); rw [List.length_append, List.length_singleton]; omega
  | .row a b => by
    have := mkS_len a; have := mkS_len b
    show (mkS a ++ ("--" : Str) :: (mkS b ++ [("]" : Str)])).length + 1 + 1 ≤ 4 * (1 + szS a + szS b)
    rw [List.length_append, List.length_cons, List.length_append, List.length_singleton]; omega
theorem mkS_len : ∀ k, (mkS k).length + 1 ≤ 4 * szS k
  | .mk r ks => by
    have := mkKs_len ks
    show ((if r = ("" : Str) then [] else [r]) ++ mkKs ks).length + 1 ≤ 4 * (1 + szKs ks)
    rw [List.length_append]
    have : (if r = ("" : Str) then [] else [r] : List Str).length ≤ 1 := by split <;> simp
    omega
theorem mkKs_len : ∀ k, (mkKs k).length ≤ 4 * szKs k
  | [] => Nat.zero_le _
  | k :: r => by have := mkK_len k; have := mkKs_len r; show (mkK k ++ mkKs r).length ≤ 4 * (szK k + szKs r); rw [List.length_append]; omega
end
/-! ### comparing kinds -/
theorem ok_open : PyData.strOk "open" = true := by decide +kernel
mutual
theorem eK_cmp : ∀ t, plain (eK t) = true ∧ dpt (eK t) ≤ 3 * dpK t + 1 ∧ (NK (fun z => PyData.strOk z = true) (fun z => PyData.strOk z = true) t → txB (eK t) = true)
  | .num => ⟨rfl, by show 1 + max 0 0 ≤ _; omega, fun _ => by show (PyData.strOk "number" && true) = true; rw [ok_number]; rfl⟩
  | .opn z => ⟨rfl, by show 1 + max 0 (max 0 0) ≤ _; omega, fun h => by show (PyData.strOk "open" && (PyData.strOk z && true)) = true; rw [ok_open, show PyData.strOk z = true from h]; rfl⟩
  | .lst k => by
    obtain ⟨a, b, c⟩ := eK_cmp k
    refine ⟨by show (true && (plain (eK k) && true)) = true; rw [a]; rfl, by show 1 + max 0 (max (dpt (eK k)) 0) ≤ 3 * (1 + dpK k) + 1; omega, fun h => ?_⟩
    show (PyData.strOk "list" && (txB (eK k) && true)) = true
    rw [ok_list, c h]; rfl
  | .row p q => by
    obtain ⟨a, b, c⟩ := eS_cmp p
    obtain ⟨a', b', c'⟩ := eS_cmp q
    refine ⟨by show (true && (plain (eS p) && (plain (eS q) && true))) = true; rw [a, a']; rfl, by show 1 + max 0 (max (dpt (eS p)) (max (dpt (eS q)) 0)) ≤ 3 * (1 + max (dpS p) (dpS q)) + 1; omega, fun h => ?_⟩
    show (PyData.strOk "row" && (txB (eS p) && (txB (eS q) && true))) = true
    rw [ok_row, c h.1, c' h.2]; rfl
theorem eS_cmp : ∀ t, plain (eS t) = true ∧ dpt (eS t) ≤ 3 * dpS t + 3 ∧ (NS (fun z => PyData.strOk z = true) (fun z => PyData.strOk z = true) t → txB (eS t) = true)
  | .mk r ks => by
    obtain ⟨a, b, c⟩ := eKs_cmp ks
    refine ⟨by show (true && (plains (eKs ks) && true)) = true; rw [a]; rfl, by show 1 + max 0 (max (1 + dpts (eKs ks)) 0) ≤ 3 * dpKs ks + 3; omega, fun h => ?_⟩
    show (PyData.strOk r && (txBs (eKs ks) && true)) = true
    rw [show PyData.strOk r = true from h.1, c h.2]; rfl
theorem eKs_cmp : ∀ ts, plains (eKs ts) = true ∧ dpts (eKs ts) ≤ 3 * dpKs ts + 1 ∧ (NKs (fun z => PyData.strOk z = true) (fun z => PyData.strOk z = true) ts → txBs (eKs ts) = true)
  | [] => ⟨rfl, Nat.zero_le _, fun _ => rfl⟩
  | k :: r => by
    obtain ⟨a, b, c⟩ := eK_cmp k
    obtain ⟨a', b', c'⟩ := eKs_cmp r
    refine ⟨by show (plain (eK k) && plains (eKs r)) = true; rw [a, a']; rfl, by show max (dpt (eK k)) (dpts (eKs r)) ≤ 3 * max (dpK k) (dpKs r) + 1; omega, fun h => ?_⟩
    show (txB (eK k) && txBs (eKs r)) = true
    rw [c h.1, c' h.2]; rfl
end
abbrev okS (z : Str) : Prop := PyData.strOk z = true
theorem cmp_S {s : Sk} (h : NS okS okS s) (d : dpS s ≤ 18) : Cmp (eS s) := by
  obtain ⟨a, b, c⟩ := eS_cmp s
  exact ⟨plain_pure _ a, c h, by omega⟩
theorem cmp_R {p : Sk × Sk} (h1 : NS okS okS p.1) (h2 : NS okS okS p.2) (d1 : dpS p.1 ≤ 18) (d2 : dpS p.2 ≤ 18) : Cmp (eR p) := by
  obtain ⟨a, b, c⟩ := eS_cmp p.1
  obtain ⟨a', b', c'⟩ := eS_cmp p.2
  refine ⟨by show (pure_ (eS p.1) && (pure_ (eS p.2) && true)) = true; rw [plain_pure _ a, plain_pure _ a']; rfl, by show (txB (eS p.1) && (txB (eS p.2) && true)) = true; rw [c h1, c' h2]; rfl, by show 1 + max (dpt (eS p.1)) (max (dpt (eS p.2)) 0) ≤ 60; omega⟩
theorem plain_R (p : Sk × Sk) : plain (eR p) = true := by
  show (plain (eS p.1) && (plain (eS p.2) && true)) = true
  rw [(eS_cmp p.1).1, (eS_cmp p.2).1]; rfl
mutual
theorem eK_inj : ∀ a b, eK a = eK b → a = b
  | .num, .num, _ => rfl
  | .opn z, .opn y, h => by
    have h' : DV.tup [.str "open", .str z] = .tup [.str "open", .str y] := h
    simp only [DV.tup.injEq, List.cons.injEq, DV.str.injEq, and_true, true_and] at h'
    rw [h']
  | .lst a, .lst b, h => by
    have h' : DV.tup [.str "list", eK a] = .tup [.str "list", eK b] := h
    simp only [DV.tup.injEq, List.cons.injEq, and_true, true_and] at h'
    rw [eK_inj a b h']
  | .row a b, .row c d, h => by
    have h' : DV.tup [.str "row", eS a, eS b] = .tup [.str "row", eS c, eS d] := h
    simp only [DV.tup.injEq, List.cons.injEq, and_true, true_and] at h'
    rw [eS_inj a c h'.1, eS_inj b d h'.2]
  | .num, .opn z, h => by have h' : DV.tup [.str "number"] = .tup [.str "open", .str z] := h; simp at h'
  | .num, .lst a, h => by have h' : DV.tup [.str "number"] = .tup [.str "list", eK a] := h; simp at h'
  | .num, .row a b, h => by have h' : DV.tup [.str "number"] = .tup [.str "row", eS a, eS b] := h; simp at h'
  | .opn z, .num, h => by have h' : DV.tup [.str "open", .str z] = .tup [.str "number"] := h; simp at h'
  | .opn z, .lst a, h => by
    have h' : DV.tup [.str "open", .str z] = .tup [.str "list", eK a] := h
    simp only [DV.tup.injEq, List.cons.injEq, DV.str.injEq, and_true] at h'
    exact absurd h'.1 (by decide +kernel)
  | .opn z, .row a b, h => by have h' : DV.tup [.str "open", .str z] = .tup [.str "row", eS a, eS b] := h; simp at h'
  | .lst a, .num, h => by have h' : DV.tup [.str "list", eK a] = .tup [.str "number"] := h; simp at h'
  | .lst a, .opn z, h => by
    have h' : DV.tup [.str "list", eK a] = .tup [.str "open", .str z] := h
    simp only [DV.tup.injEq, List.cons.injEq, DV.str.injEq, and_true] at h'
    exact absurd h'.1 (by decide +kernel)
  | .lst k, .row a b, h => by have h' : DV.tup [.str "list", eK k] = .tup [.str "row", eS a, eS b] := h; simp at h'
  | .row a b, .num, h => by have h' : DV.tup [.str "row", eS a, eS b] = .tup [.str "number"] := h; simp at h'
  | .row a b, .opn z, h => by have h' : DV.tup [.str "row", eS a, eS b] = .tup [.str "open", .str z] := h; simp at h'
  | .row a b, .lst k, h => by have h' : DV.tup [.str "row", eS a, eS b] = .tup [.str "list", eK k] := h; simp at h'
theorem eS_inj : ∀ a b, eS a = eS b → a = b
  | .mk r ks, .mk r' ks', h => by
    have h' : DV.tup [.str r, .tup (eKs ks)] = .tup [.str r', .tup (eKs ks')] := h
    simp only [DV.tup.injEq, List.cons.injEq, DV.str.injEq, and_true] at h'
    rw [h'.1, eKs_inj ks ks' h'.2]
theorem eKs_inj : ∀ a b, eKs a = eKs b → a = b
  | [], [], _ => rfl
  | [], _ :: _, h => nomatch h
  | _ :: _, [], h => nomatch h
  | x :: r, y :: s, h => by
    have h' : eK x :: eKs r = eK y :: eKs s := h
    rw [List.cons.injEq] at h'
    rw [eK_inj x y h'.1, eKs_inj r s h'.2]
end
end DD
/-! decks of the form [cells, number, number], as a thing of the store -/
namespace DD
open PySem PySem.W L2 SX Cm
/-- a deck stands at d, its cells at c -/
structure Deck (H : Hp) (d c : Addr) : Prop where
  ne : d ≠ c
  at_ : ∃ (s k : Int), H d = some (.lst [.ref c, .int s, .int k])
  cells : ∃ ms : List Int, H c = some (.lst (ms.map V.int)) ∧ ms.length ≤ 1000
theorem Deck.new {H : Hp} {d c p : Addr} {o : HO} (D : Deck H d c) (h : H p = none) : Deck (upd H p o) d c := by
  obtain ⟨s, k, e⟩ := D.at_
  obtain ⟨ms, e2, l⟩ := D.cells
  exact ⟨D.ne, ⟨s, k, kn e h⟩, ms, kn e2 h, l⟩
theorem Deck.same {H H' : Hp} {d c : Addr} (D : Deck H d c) (s : Same H H') : Deck H' d c := by
  obtain ⟨a, k, e⟩ := D.at_
  obtain ⟨ms, e2, l⟩ := D.cells
  exact ⟨D.ne, ⟨a, k, s _ _ e⟩, ms, s _ _ e2, l⟩
theorem Deck.nd {H : Hp} {d c p : Addr} (D : Deck H d c) (h : H p = none) : p ∉ [d, c] := by
  obtain ⟨a, k, e⟩ := D.at_
  obtain ⟨ms, e2, l⟩ := D.cells
  intro z
  rcases List.mem_cons.mp z with z | z
  · rw [z, e] at h; cases h
  · rw [List.mem_singleton.mp z, e2] at h; cases h
theorem Deck.put {H : Hp} {d c p : Addr} {o : HO} (D : Deck H d c) (h : p ∉ [d, c]) : Deck (upd H p o) d c := by
  obtain ⟨s, k, e⟩ := D.at_
  obtain ⟨ms, e2, l⟩ := D.cells
  have h1 : d ≠ p := fun z => h (by rw [← z]; exact List.mem_cons_self ..)
  have h2 : c ≠ p := fun z => h (by rw [← z]; exact List.mem_cons_of_mem _ (List.mem_singleton.mpr rfl))
  exact ⟨D.ne, ⟨s, k, by rw [upd_ne h1]; exact e⟩, ms, by rw [upd_ne h2]; exact e2, l⟩

section
def spDeck (K : PySem.W.Frag) : Sp := fun vs H Q _ => ∃ (a : Addr) (ns : List Int), vs = [.ref a] ∧ SqL K H a (ns.map V.int) ∧ ns.length ≤ 63 ∧
  ∀ (d c : Addr) (H' : Hp), Same H H' → H d = none → H c = none → Deck H' d c → Q (.ref d) H'
def spTake : Sp := fun vs H Q _ => ∃ (d c : Addr) (m : Int), vs = [.ref d, .int m] ∧ Deck H d c ∧ 0 < m ∧ m < 2 ^ 64 ∧
  ∀ (r : Int) (H' : Hp), 0 ≤ r → r < m → Kp [d, c] H H' → Deck H' d c → Q (.int r) H'
end
def dkO (d c : Addr) : DO := .abs [d, c] (fun H => Deck H d c)
theorem deck_loc {d c : Addr} (H1 H2 : Hp) (h : ∀ b ∈ [d, c], H1 b = H2 b) (D : Deck H1 d c) : Deck H2 d c := by
  obtain ⟨s, k, e⟩ := D.at_
  obtain ⟨ms, e2, l⟩ := D.cells
  exact ⟨D.ne, ⟨s, k, by rw [← h d (List.mem_cons_self ..)]; exact e⟩, ms, by rw [← h c (List.mem_cons_of_mem _ (List.mem_singleton.mpr rfl))]; exact e2, l⟩
theorem deck_lst {H : Hp} {d c : Addr} (D : Deck H d c) : ∀ b ∈ [d, c], ∃ xs, H b = some (.lst xs) := fun b hb => by
  obtain ⟨s, k, e⟩ := D.at_
  obtain ⟨ms, e2, l⟩ := D.cells
  rcases List.mem_cons.mp hb with z | z
  · rw [z]; exact ⟨_, e⟩
  · rw [List.mem_singleton.mp z]; exact ⟨_, e2⟩
/-- there is a deck -/
def HasDk (G : DG) (d : Addr) : Prop := ∃ c, G d = some (dkO d c)
def SP_draw : DSp := fun ds G R => ∃ d m, ds = [.ref d, .int m] ∧ HasDk G d ∧ 0 < m ∧ m < 2 ^ 64 ∧ ∀ r, 0 ≤ r → r < m → R (.int r) G
abbrev A_L_draw : List Str := ["_law_deck_here", "_law_most"]

theorem HasDk.new {G : DG} {d p : Addr} {o : DO} (h : HasDk G d) (n : G p = none) : HasDk (dupd G p o) d := by
  obtain ⟨c, h⟩ := h
  exact ⟨c, by rw [dupd_ne (ne_some h n)]; exact h⟩
theorem HasDk.put {G : DG} {d p : Addr} {o : DO} (h : HasDk G d) (n : d ≠ p) : HasDk (dupd G p o) d := by
  obtain ⟨c, h⟩ := h
  exact ⟨c, by rw [dupd_ne n]; exact h⟩
theorem HasDk.sub {G G' : DG} {d : Addr} (h : HasDk G d) (s : Sub G G') : HasDk G' d := by
  obtain ⟨c, h⟩ := h
  exact ⟨c, s _ _ h⟩
theorem HasDk.ne {G : DG} {d p : Addr} {ds : List DV} (h : HasDk G d) (e : G p = some (.lst ds)) : d ≠ p := fun z => by
  obtain ⟨c, h⟩ := h
  rw [z, e] at h; cases h
theorem HasDk.neD {G : DG} {d p : Addr} {ds : List (Key × DV)} (h : HasDk G d) (e : G p = some (.dct ds)) : d ≠ p := fun z => by
  obtain ⟨c, h⟩ := h
  rw [z, e] at h; cases h
theorem HasDk.neC {G : DG} {d p : Addr} (h : HasDk G d) (e : G p = some .cnt) : d ≠ p := fun z => by
  obtain ⟨c, h⟩ := h
  rw [z, e] at h; cases h
section
variable {P : Program} {w : World} {K : Frag} {mg : Str → Option Value} {base : Heap}
theorem has_draw {st : Stmt} (a : At K mg "_law_draw" st A_L_draw) (h : ∀ f fd, Fun K "_law_draw" "_law_draw" st f fd → FnOk P w K mg base CX0 2 f fd A_L_draw spTake) : Has P w K mg base 2 "_law_draw" A_L_draw SP_draw := by
  refine has_of a h fun vs H Q E ⟨ds, G, R, r, wd, l, ⟨d, m, e, ⟨c, hk⟩, m0, m1, q⟩, fin⟩ => ?_
  subst e
  cases r with
  | cons r1 r2 =>
    cases r2 with
    | cons r2 r3 =>
      cases r3
      cases r1
      cases r2
      obtain ⟨O, wo⟩ := id wd
      obtain ⟨_, _, D, _⟩ := wo.ob d _ hk
      refine ⟨d, c, m, rfl, D, m0, m1, fun r H' r0 r1 kp D' => ?_⟩
      have t : TKs K H H' := TKs.kp kp (deck_lst D)
      exact fin _ G _ H' (q r r0 r1) t (wd.abs_keep hk kp t D' (deck_lst D')) (.int r)
end
def spLaw (K : PySem.W.Frag) : Sp := fun vs H Q _ => ∃ (a : Addr) (ns : List Int), vs = [.ref a] ∧ SqL K H a (ns.map V.int) ∧ ns.length ≤ 63 ∧ ∀ H', Q (.bl true) H'
theorem law_go {K : Frag} {t : TDS} {nx : St → Hp → Prop} {rt : VK} {bk ct : St → Hp → Prop} {σ : St} {δ : DSt} {H : Hp} {d c : Addr} (dk : Deck H d c) (sl : Sl K H σ δ) (q : ∀ H', rt (.bl true) H') (h : ∀ G, HasDk G d → t ⟨fun _ _ => False, fun v _ => v = .bl true, fun _ _ => False, fun _ _ => False⟩ δ G) : upS K t ⟨nx, rt, bk, ct⟩ σ H := by
  refine ⟨⟨fun _ _ => False, fun v _ => v = .bl true, fun _ _ => False, fun _ _ => False⟩, δ, _, sl, wd_one (d := d) (L := [d, c]) (φ := fun H => Deck H d c) (List.mem_cons_self ..) dk (deck_lst dk) deck_loc, ?_, h _ ⟨c, dupd_same⟩⟩
  exact ⟨fun _ _ _ _ h => h.elim, fun v G u H' e t w r => by cases e; cases r; exact q _, fun _ _ _ _ h => h.elim, fun _ _ _ _ h => h.elim⟩
theorem pick {α : Type} {xs : List α} {r : Int} {n : Nat} (h0 : 0 ≤ r) (h1 : r < n) (hl : xs.length = n) : ∃ x, x ∈ xs ∧ atI xs r = some x := by
  obtain ⟨i, rfl⟩ := Int.eq_ofNat_of_zero_le h0
  have hi : i < xs.length := by omega
  exact ⟨xs[i], List.getElem_mem hi, atI_nat (List.getElem?_eq_getElem hi)⟩
theorem int2 {α : Type} {a b : α} (t : Bool) : atI [a, b] (if t = true then (1 : Int) else 0) = some (if t = true then b else a) := by
  cases t
  · exact atI_nat (j := 0) rfl
  · exact atI_nat (j := 1) rfl
theorem tx_ok {z : Str} {n : Nat} (h : Tx z n) : PyData.strOk z = true := by
  show z.cps.all _ = true
  rw [Array.all_eq_true']
  intro c hc
  exact decide_eq_true (h.ch c (by simpa using hc))
/-! lists -/
def dRevL (te : TD) : TD := fun δ G Q => te δ G fun x G1 => ∃ p ds, x = .ref p ∧ Ls G1 p ds ∧ ∀ r, G1 r = none → Q (.ref r) (dupd G1 r (.lst ds.reverse))
theorem de_revL {X : Cx} {e : Expr} {te : TD} {k : Nat} {p1 p2 p3 pos : Pos} (he : DE X e te) : DE X (.Subscript e (.Slice none none (some (.UnaryOp .USub (.Constant (.int 1) k p1) p2)) p3) pos) (dRevL te) := by
  refine PE_mono (L2.pe_revL he) fun σ H Q ⟨δ, G, R, sl, w, q, f⟩ => ⟨δ, G, _, sl, w, q, fun x G1 vx H1 q1 t1 w1 r1 => ?_⟩
  obtain ⟨p, ds, rfl, ls, q⟩ := q1
  cases r1
  obtain ⟨xs, s, r⟩ := wd_seq w1 ls
  refine ⟨p, xs, rfl, s, fun r' nr => ?_⟩
  have s' := same_new nr (.lst xs.reverse)
  exact f _ _ _ _ (q r' (w1.free nr)) (t1.trans (TKs.of s')) (w1.new nr fun O => ⟨_, upd_same, r.reverse.mono (.of s')⟩) (.ref r')
theorem w_revL {te : TD} {δ : DSt} {G : DG} {Q : DK} (h : te δ G fun x G1 => ∃ p ds, x = .ref p ∧ Ls G1 p ds ∧ ∀ r, G1 r = none → Q (.ref r) (dupd G1 r (.lst ds.reverse))) : dRevL te δ G Q := h
end DD
/-! more steps: dicts, targets, signs -/
namespace DD
open PySem PySem.W L2 SX Cm
section
variable {nx : DSt → DG → Prop} {rt : DK} {bk ct : DSt → DG → Prop} {δ : DSt} {G : DG} {Q : DK} {te td ti tv : TD}
theorem w_dnew (h : ∀ p, G p = none → Q (.ref p) (dupd G p (.dct []))) : dDNew δ G Q := h
theorem w_dget (h : td δ G fun x G1 => ti δ G1 fun y G2 => ∃ p kvs z v, x = .ref p ∧ y = .str z ∧ G2 p = some (.dct kvs) ∧ valD kvs (keyD z) = some v ∧ Q v G2) : dDGet td ti δ G Q := h
theorem wx_dget {k : DV → Prop} {p : Addr} {kvs : List (Key × DV)} {z : Str} {v : DV} (e : G p = some (.dct kvs)) (ev : valD kvs (keyD z) = some v) (h : k v) : ∃ p' kvs' z' v', DV.ref p = .ref p' ∧ DV.str z = .str z' ∧ G p' = some (.dct kvs') ∧ valD kvs' (keyD z') = some v' ∧ k v' := ⟨p, kvs, z, v, rfl, rfl, e, ev, h⟩
theorem w_dget2 (h : td δ G fun x G1 => ∃ p, x = .ref p ∧ (∃ kvs, G1 p = some (.dct kvs)) ∧ ti δ G1 fun y G2 => tv δ G2 fun u G3 => ∃ kvs z, y = .str z ∧ G3 p = some (.dct kvs) ∧ Q ((valD kvs (keyD z)).getD u) G3) : dDGet2 td ti tv δ G Q := h
theorem wx_get {k : Addr → Prop} {p : Addr} {kvs : List (Key × DV)} (e : G p = some (.dct kvs)) (h : k p) : ∃ p', DV.ref p = .ref p' ∧ (∃ kvs, G p' = some (.dct kvs)) ∧ k p' := ⟨p, rfl, ⟨kvs, e⟩, h⟩
theorem wx_get2 {k : List (Key × DV) → Str → Prop} {p : Addr} {kvs : List (Key × DV)} {z : Str} (e : G p = some (.dct kvs)) (h : k kvs z) : ∃ kvs' z', DV.str z = .str z' ∧ G p = some (.dct kvs') ∧ k kvs' z' := ⟨kvs, z, rfl, e, h⟩
theorem w_din {n : Bool} (h : ti δ G fun y G1 => td δ G1 fun x G2 => ∃ p kvs z, x = .ref p ∧ y = .str z ∧ G2 p = some (.dct kvs) ∧ Q (.bl (ng n (valD kvs (keyD z)).isSome)) G2) : dDIn n ti td δ G Q := h
theorem wx_in {k : List (Key × DV) → Str → Prop} {p : Addr} {kvs : List (Key × DV)} {z : Str} (e : G p = some (.dct kvs)) (h : k kvs z) : ∃ p' kvs' z', DV.ref p = .ref p' ∧ DV.str z = .str z' ∧ G p' = some (.dct kvs') ∧ k kvs' z' := ⟨p, kvs, z, rfl, rfl, e, h⟩
theorem w_dput (h : tv δ G fun v G1 => td δ G1 fun x G2 => ti δ G2 fun y G3 => ∃ p kvs z, x = .ref p ∧ y = .str z ∧ G3 p = some (.dct kvs) ∧ kvs.length < sizeLine ∧ nx δ (dupd G3 p (.dct (putD kvs (keyD z) v)))) : dDPut td ti tv ⟨nx, rt, bk, ct⟩ δ G := h
theorem wx_put {k : Addr → List (Key × DV) → Str → Prop} {p : Addr} {kvs : List (Key × DV)} {z : Str} (e : G p = some (.dct kvs)) (l : kvs.length < sizeLine) (h : k p kvs z) : ∃ p' kvs' z', DV.ref p = .ref p' ∧ DV.str z = .str z' ∧ G p' = some (.dct kvs') ∧ kvs'.length < sizeLine ∧ k p' kvs' z' := ⟨p, kvs, z, rfl, rfl, e, l, h⟩
/-! targets -/
variable {k : DSt → DG → Prop}
theorem w_asgT {n : Nat} {t : TDGs} (h : te δ G fun d G1 => gT n t d δ G1 nx) : dAsg te (gT n t) ⟨nx, rt, bk, ct⟩ δ G := h
theorem g_T {n : Nat} {t : TDGs} {ds : List DV} (h : t ds δ G k) (e : ds.length = n := by rfl) : gT n t (.tup ds) δ G k := ⟨ds, rfl, e, h⟩
theorem g_C {i : Nat} {u : TDGs} {d : DV} {r : List DV} (h : u r (δ.set i (some d)) G k) : gNC (gN i) u (d :: r) δ G k := ⟨d, r, rfl, h⟩
theorem g_0 (h : k δ G) : gN0 [] δ G k := ⟨rfl, h⟩
theorem bset_l {p : Addr} {ds : List DV} {i : Nat} {v : DV} {k : DG → Prop} (e : G p = some (.lst ds)) (hi : i < ds.length) (h : k (dupd G p (.lst (ds.set i v)))) : bSet (.ref p) (.int (i : Int)) v G k := .inl ⟨ds, i, e, by unfold ixN; rw [if_pos (by omega), if_pos (by omega)]; rfl, h⟩
theorem bset_0 {p : Addr} {x : DV} {r : List DV} {v : DV} {k : DG → Prop} (e : G p = some (.lst (x :: r))) (h : k (dupd G p (.lst (v :: r)))) : bSet (.ref p) (.int 0) v G k := bset_l (i := 0) e (by simp) h
/-! signs, texts, lists -/
theorem w_inS {n : Bool} {c : Nat} {b : Str} (h : Q (.bl (ng n (decide (c ∈ b.cps.toList)))) G) : bIn n (.str ⟨#[c]⟩) (.str b) G Q := ⟨c, rfl, h⟩
theorem w_inT {n : Bool} {z : Str} {ds : List DV} (hd : ds.all flatD = true) (h : Q (.bl (ng n (inD (.str z) ds))) G) : bIn n (.str z) (.tup ds) G Q := ⟨rfl, hd, h⟩
theorem w_inL {n : Bool} {z : Str} {p : Addr} {ds : List DV} (e : G p = some (.lst ds)) (hd : ds.all flatD = true) (h : Q (.bl (ng n (inD (.str z) ds))) G) : bIn n (.str z) (.ref p) G Q := ⟨ds, .inl e, rfl, hd, h⟩
theorem flat_strs : ∀ zs : List Str, (zs.map DV.str).all flatD = true
  | [] => rfl
  | z :: r => by rw [List.map_cons, List.all_cons, flat_strs r]; rfl
theorem inD_strs (z : Str) : ∀ zs : List Str, inD (.str z) (zs.map .str) = decide (z ∈ zs)
  | [] => (decide_eq_false (fun h => nomatch h)).symm
  | y :: r => by
    have ih := inD_strs z r
    unfold inD at ih ⊢
    rw [List.map_cons, List.map_cons]
    unfold inV at ih ⊢
    rw [List.any_cons, ih]
    have e : eqV (toV (.str y)) (toV (.str z)) = decide (y = z) := by
      show (y == z) = _
      by_cases h : y = z
      · rw [h, decide_eq_true rfl, beq_self_eq_true]
      · rw [decide_eq_false h, beq_eq_false_iff_ne.mpr h]
    rw [e]
    by_cases h : y = z
    · rw [decide_eq_true h, Bool.true_or, decide_eq_true (by rw [h]; exact List.mem_cons_self ..)]
    · rw [decide_eq_false h, Bool.false_or]
      exact decq ⟨fun g => List.mem_cons_of_mem _ g, fun g => by
        rcases List.mem_cons.mp g with g | g
        · exact absurd g.symm h
        · exact g⟩
theorem w_ixS {z : Str} {i : Int} {c : Nat} (l : z.length ≤ sizeLine) (h : atI z.cps.toList i = some c) (q : Q (.str ⟨#[c]⟩) G) : bIx (.str z) (.int i) G Q := ⟨l, c, h, q⟩
theorem w_slS {z : Str} {lo hi : Option Int} (l : z.length ≤ sizeLine) (h : Q (.str (cutS z lo hi)) G) : bSl (.str z) lo hi G Q := ⟨l, h⟩
theorem w_slL {p : Addr} {ds : List DV} {lo hi : Option Int} (e : G p = some (.lst ds)) (h : ∀ r, G r = none → Q (.ref r) (dupd G r (.lst (cutD ds lo hi)))) : bSl (.ref p) lo hi G Q := ⟨ds, .inl e, h⟩
theorem w_addL {p q : Addr} {xs ys : List DV} (ep : G p = some (.lst xs)) (eq : G q = some (.lst ys)) (l : xs.length + ys.length ≤ sizeLine) (h : ∀ r, G r = none → Q (.ref r) (dupd G r (.lst (xs ++ ys)))) : bAdd (.ref p) (.ref q) G Q := ⟨xs, ys, ep, eq, l, h⟩
theorem w_exR {k : List DV → Prop} {ds : List DV} (h : k ds) : ∃ ds', DV.tup ds = .tup ds' ∧ k ds' := ⟨ds, rfl, h⟩
theorem w_allL {p : Addr} {bs : List Bool} (e : G p = some (.lst (bs.map DV.bl))) (h : Q (.bl (bs.all id)) G) : bAll [.ref p] G Q := ⟨bs, .inl e, h⟩
theorem w_anyL {p : Addr} {bs : List Bool} (e : G p = some (.lst (bs.map DV.bl))) (h : Q (.bl (bs.any id)) G) : bAny [.ref p] G Q := ⟨bs, .inl e, h⟩
theorem w_strI {i : Int} (l : i.natAbs.log2 < 1920) (h : Q (.str (toString i)) G) : bStr1 [.int i] G Q := ⟨l, h⟩
theorem w_lnz {i j : Int} {g : Int → Int → DV} (c : 0 < j) (h : Q (g i j) G) : bInt (fun _ j => 0 < j) g (.int i) (.int j) G Q := ⟨c, h⟩
end
theorem Sub.put {G G' : DG} {p : Addr} {o : DO} (s : Sub G G') (n : G p = none) : Sub G (dupd G' p o) := s.new n
theorem Sub.nonew' {G G' : DG} {p : Addr} (s : Sub G G') (n : G' p = none) : G p = none := s.nonew n
end DD
/-! steps that leave the store behind them unnamed -/
namespace DD
open PySem PySem.W L2 SX Cm
/-- all but p as ahead -/
def Upd (G : DG) (p : Addr) (G' : DG) : Prop := ∀ a, a ≠ p → G' a = G a
theorem Upd.mk {G : DG} {p : Addr} {o : DO} : Upd G p (dupd G p o) := fun a h => dupd_ne h
theorem Upd.tr {A B C : DG} {p : Addr} (h : Upd A p B) (g : Upd B p C) : Upd A p C := fun a n => (g a n).trans (h a n)
theorem Upd.refl (A : DG) (p : Addr) : Upd A p A := fun _ _ => rfl
/-- what is told of a store that is changed at p alone -/
theorem Upd.eq {G G' : DG} {p : Addr} {o : DO} (u : Upd G p G') (e : G' p = some o) : G' = dupd G p o := by
  funext a
  by_cases h : a = p
  · rw [h, e, dupd_same]
  · rw [u a h, dupd_ne h]
theorem sub_get {G G' : DG} {a : Addr} {o : DO} (s : Sub G G') (h : G a = some o) : G' a = some o := s _ _ h
theorem upd_get {G G' : DG} {a p : Addr} {o : DO} (u : Upd G p G') (h : G a = some o) (n : a ≠ p) : G' a = some o := (u _ n).trans h
theorem sub_tr {B G G' : DG} (s2 : Sub G G') (s1 : Sub B G) : Sub B G' := s1.trans s2
theorem sub_up {B G G' : DG} {p : Addr} (u : Upd G p G') (s : Sub B G) (n : B p = none) : Sub B G' := fun a o e => by
  have : a ≠ p := fun z => by rw [z, n] at e; cases e
  rw [u a this]; exact s a o e
theorem upd_in {B G G' : DG} {p : Addr} (u : Upd G p G') (s : Upd B p G) : Upd B p G' := s.tr u
theorem dk_sub {G G' : DG} {d : Addr} (s : Sub G G') (h : HasDk G d) : HasDk G' d := h.sub s
theorem dk_upd {G G' : DG} {d p : Addr} (u : Upd G p G') (h : HasDk G d) (e : ∃ ds, G p = some (.lst ds)) : HasDk G' d := by
  obtain ⟨ds, e⟩ := e
  have n := h.ne e
  obtain ⟨c, h⟩ := h
  exact ⟨c, (u d n).trans h⟩
theorem dk_updD {G G' : DG} {d p : Addr} (u : Upd G p G') (h : HasDk G d) (e : ∃ ds, G p = some (.dct ds)) : HasDk G' d := by
  obtain ⟨ds, e⟩ := e
  have n := h.neD e
  obtain ⟨c, h⟩ := h
  exact ⟨c, (u d n).trans h⟩
@[elab_as_elim] theorem abs_new {G : DG} {p : Addr} {o : DO} {M : DG → Prop} (np : G p = none) (h : ∀ G', Sub G G' → G' p = some o → M G') : M (dupd G p o) := h _ ((Sub.refl G).new np) dupd_same
@[elab_as_elim] theorem abs_upd {G : DG} {p : Addr} {o o' : DO} {M : DG → Prop} (e : G p = some o') (h : ∀ G', Upd G p G' → G' p = some o → M G') : M (dupd G p o) := h _ Upd.mk dupd_same
/-! comprehensions whose elements leave the store as it is -/
theorem lcs_pure {ds : List DV} {st : DG → Prop} {ld : TL} {tt : TDT} {te : TD} {δ : DSt} {G1 : DG} {Q : DK} (f : DV → Option DV) (hsc : ∀ G, Sub G1 G → st G) (hl : ds.length ≤ 1000000)
    (h : ∀ d ∈ ds, ∀ (G : DG) (k1 : DK) (k0 : DG → Prop), Sub G1 G → (∀ y, f d = some y → k1 y G) → (f d = none → k0 G) →
      ld d δ fun δ2 => tt δ2 G fun b G3 => if b = true then te δ2 G3 k1 else k0 G3)
    (q : ∀ p G', G1 p = none → Sub G1 G' → G' p = some (.lst (ds.filterMap f)) → Q (.ref p) G') : LcG ds st ld tt te δ G1 Q :=
  lcg_pure f (fun p o np => hsc _ ((Sub.refl G1).new np)) hl (fun d hd G k1 k0 ⟨p, acc, np, e⟩ h1 h0 => h d hd G k1 k0 (by rw [e]; exact (Sub.refl G1).new np) h1 h0) fun p np => q p _ np ((Sub.refl G1).new np) dupd_same
theorem lcs_each {ds : List DV} {st : DG → Prop} {ld : TL} {tt : TDT} {te : TD} {δ : DSt} {G1 : DG} {Q : DK} (E : Nat → DV → Prop) (hsc : ∀ G, Sub G1 G → st G) (hl : ds.length ≤ 1000000)
    (h : ∀ i d, ds[i]? = some d → ∀ (G : DG) (k1 : DK) (k0 : DG → Prop), Sub G1 G → (∀ y, E i y → k1 y G) →
      ld d δ fun δ2 => tt δ2 G fun b G3 => if b = true then te δ2 G3 k1 else k0 G3)
    (q : ∀ p G' acc, G1 p = none → Sub G1 G' → G' p = some (.lst acc) → acc.length = ds.length → (∀ i y, acc[i]? = some y → E i y) → Q (.ref p) G') : LcG ds st ld tt te δ G1 Q :=
  lcg_each E (fun p o np => hsc _ ((Sub.refl G1).new np)) hl (fun i d hd G k1 k0 ⟨p, acc, np, e⟩ h1 => h i d hd G k1 k0 (by rw [e]; exact (Sub.refl G1).new np) h1) fun p acc np la he => q p _ acc np ((Sub.refl G1).new np) dupd_same la he
/-- elements that may make objects of their own: the store grows -/
theorem lcs_grow {ds : List DV} {st : DG → Prop} {ld : TL} {tt : TDT} {te : TD} {δ : DSt} {G1 : DG} {Q : DK} (E : Nat → DV → Prop) (hsc : ∀ G, Sub G1 G → st G) (hl : ds.length ≤ 1000000)
    (h : ∀ i d, ds[i]? = some d → ∀ (G : DG) (k1 : DK) (k0 : DG → Prop), Sub G1 G → (∀ y G', E i y → Sub G G' → k1 y G') →
      ld d δ fun δ2 => tt δ2 G fun b G3 => if b = true then te δ2 G3 k1 else k0 G3)
    (q : ∀ p G' acc, G1 p = none → Sub G1 G' → G' p = some (.lst acc) → acc.length = ds.length → (∀ i y, acc[i]? = some y → E i y) → Q (.ref p) G') : LcG ds st ld tt te δ G1 Q := by
  intro p np
  refine ⟨fun i acc G => acc.length = i ∧ i ≤ ds.length ∧ (∀ j y, acc[j]? = some y → E j y) ∧ Sub G1 G ∧ G p = some (.lst acc), ⟨rfl, Nat.zero_le _, (fun _ _ h => nomatch h), (Sub.refl G1).new np, dupd_same⟩, fun i acc G ⟨_, _, _, s, _⟩ => hsc G s, ?_, ?_⟩
  · rintro i d acc G hd ⟨ea, hi, he, sG, ep⟩
    have hlt : i < ds.length := (List.getElem?_eq_some_iff.mp hd).1
    refine h i d hd _ _ _ sG fun y G' hy s' => ⟨s' _ _ ep, midlt (by omega), ?_, hlt, ?_, sub_up (Upd.mk (G := G') (p := p)) (sG.trans s') np, dupd_same⟩
    · rw [List.length_append, ea]; rfl
    · intro j z hz
      by_cases hj : j < acc.length
      · rw [List.getElem?_append_left hj] at hz; exact he j z hz
      · have hj' := (List.getElem?_eq_some_iff.mp hz).1
        rw [List.length_append, List.length_singleton] at hj'
        have : j = i := by omega
        subst this
        rw [List.getElem?_append_right (by omega), ea, Nat.sub_self] at hz
        cases hz
        exact hy
  · rintro acc G ⟨ea, _, he, sG, ep⟩
    exact q p G acc np sG ep ea he
/-- a dict by a comprehension -/
theorem dcs_pure {ds : List DV} {st : DG → Prop} {ld : TL} {tt : TDT} {tk tv : TD} {δ : DSt} {G1 : DG} {Q : DK} (f : DV → Option (Str × DV)) (hsc : ∀ G, Sub G1 G → st G) (hl : ds.length ≤ 1000000)
    (h : ∀ d ∈ ds, ∀ (G : DG) (k1 : Str → DV → DG → Prop) (k0 : DG → Prop), Sub G1 G → (∀ z y, f d = some (z, y) → k1 z y G) → (f d = none → k0 G) →
      ld d δ fun δ2 => tt δ2 G fun b G3 => if b = true then tk δ2 G3 fun y G4 => tv δ2 G4 fun u G5 => ∃ z, y = .str z ∧ k1 z u G5 else k0 G3)
    (q : ∀ p G', G1 p = none → Sub G1 G' → G' p = some (.dct ((ds.filterMap f).foldl (fun kvs x => putD kvs (keyD x.1) x.2) [])) → Q (.ref p) G') : DcG ds st ld tt tk tv δ G1 Q := by
  intro p np
  have len : ∀ xs : List (Str × DV), (xs.foldl (fun kvs x => putD kvs (keyD x.1) x.2) []).length ≤ xs.length := by
    have go : ∀ (xs : List (Str × DV)) (kvs : List (Key × DV)), (xs.foldl (fun kvs x => putD kvs (keyD x.1) x.2) kvs).length ≤ kvs.length + xs.length := by
      intro xs
      induction xs with
      | nil => intro kvs; exact Nat.le_refl _
      | cons x r ih =>
        intro kvs
        have h1 := ih (putD kvs (keyD x.1) x.2)
        have h2 : (putD kvs (keyD x.1) x.2).length ≤ kvs.length + 1 := by
          unfold putD
          split
          · rw [List.length_map]; omega
          · rw [List.length_append, List.length_singleton]; omega
        show (r.foldl _ (putD kvs (keyD x.1) x.2)).length ≤ kvs.length + (r.length + 1)
        omega
    intro xs
    have := go xs []
    rw [List.length_nil, Nat.zero_add] at this
    exact this
  refine ⟨fun i kvs G => i ≤ ds.length ∧ kvs = ((ds.take i).filterMap f).foldl (fun kvs x => putD kvs (keyD x.1) x.2) [] ∧ Sub G1 G ∧ G p = some (.dct kvs), ⟨Nat.zero_le _, rfl, (Sub.refl G1).new np, dupd_same⟩, fun i acc G ⟨_, _, s, _⟩ => hsc G s, ?_, ?_⟩
  · rintro i d kvs G hd ⟨hi, ek, sG, ep⟩
    have hlt : i < ds.length := (List.getElem?_eq_some_iff.mp hd).1
    have et : ds.take (i + 1) = ds.take i ++ [d] := by rw [List.take_add_one, hd]; rfl
    have lk : kvs.length ≤ i := by
      rw [ek]
      refine Nat.le_trans (len _) (Nat.le_trans (List.length_filterMap_le _ _) ?_)
      rw [List.length_take]; omega
    refine h d (List.mem_of_getElem? hd) G (fun z u G5 => G5 p = some (.dct kvs) ∧ kvs.length < sizeLine ∧ (i + 1 ≤ ds.length ∧ putD kvs (keyD z) u = ((ds.take (i + 1)).filterMap f).foldl (fun kvs x => putD kvs (keyD x.1) x.2) [] ∧ Sub G1 (dupd G5 p (.dct (putD kvs (keyD z) u))) ∧ (dupd G5 p (.dct (putD kvs (keyD z) u))) p = some (.dct (putD kvs (keyD z) u)))) _ sG (fun z y e => ⟨ep, midlt (by omega), hlt, ?_, sub_up (Upd.mk (G := G) (p := p)) sG np, dupd_same⟩) (fun e => ⟨hlt, ?_, sG, ep⟩)
    · rw [et, List.filterMap_append, List.foldl_append, ← ek]
      show _ = (List.filterMap f [d]).foldl _ kvs
      rw [List.filterMap_cons_some e]; rfl
    · rw [et, List.filterMap_append, List.filterMap_cons_none e, List.filterMap_nil, List.append_nil]; exact ek
  · rintro kvs G ⟨_, ek, sG, ep⟩
    rw [List.take_length] at ek
    rw [ek] at ep
    exact q p G np sG ep
end DD
namespace Cm
open PySem PySem.W L2 SX
/-! ### any value: None, truths, numbers, texts, tuples of such; lists and dicts are not looked into -/
mutual
inductive Bt (K : Frag) (L : List Addr) (H : Hp) : V → PyData → Prop
  | non : Bt K L H .non .none
  | bl (b : Bool) : Bt K L H (.bl b) (.bool b)
  | int (i : Int) : Bt K L H (.int i) (.int i)
  | str {x : Str} (h : Tx x 100) : Bt K L H (.str x) (.str x)
  | lst {a : Addr} {xs : List V} : a ∉ L → H a = some (.lst xs) → Bt K L H (.ref a) (.list [])
  | dct {a : Addr} {kvs : List (Key × V)} : a ∉ L → H a = some (.dK kvs) → Bt K L H (.ref a) (.dict [])
  | tup {a : Addr} {xs : List V} {ds : List PyData} : SqT K H a xs → BtAll K L H xs ds → Bt K L H (.ref a) (.tuple ds)
inductive BtAll (K : Frag) (L : List Addr) (H : Hp) : List V → List PyData → Prop
  | nil : BtAll K L H [] []
  | cons {v : V} {vs : List V} {d : PyData} {ds : List PyData} : Bt K L H v d → BtAll K L H vs ds → BtAll K L H (v :: vs) (d :: ds)
end
/-- what such a value needs to stay -/
structure BKs (K : Frag) (L : List Addr) (H H' : Hp) : Prop where
  tk : TKs K H H'
  kp : Kp L H H'
theorem BKs.of {K : Frag} {L : List Addr} {H H' : Hp} (s : Same H H') : BKs K L H H' := ⟨TKs.of s, fun a o _ e => s a o e⟩
theorem BKs.trans {K : Frag} {L : List Addr} {H H1 H2 : Hp} (a : BKs K L H H1) (b : BKs K L H1 H2) : BKs K L H H2 := ⟨a.tk.trans b.tk, a.kp.trans b.kp⟩
mutual
theorem Bt.mono {K : Frag} {L : List Addr} {H H' : Hp} (k : BKs K L H H') : ∀ {v : V} {d : PyData}, Bt K L H v d → Bt K L H' v d
  | _, _, .non => .non
  | _, _, .bl b => .bl b
  | _, _, .int i => .int i
  | _, _, .str h => .str h
  | _, _, .lst n h => .lst n (k.kp _ _ n h)
  | _, _, .dct n h => .dct n (k.kp _ _ n h)
  | _, _, .tup h t => .tup (k.tk _ _ h) (BtAll.mono k t)
theorem BtAll.mono {K : Frag} {L : List Addr} {H H' : Hp} (k : BKs K L H H') : ∀ {v : List V} {d : List PyData}, BtAll K L H v d → BtAll K L H' v d
  | _, _, .nil => .nil
  | _, _, .cons h t => .cons (Bt.mono k h) (BtAll.mono k t)
end
theorem BtAll.len {K : Frag} {L : List Addr} {H : Hp} : ∀ {v : List V} {d : List PyData}, BtAll K L H v d → v.length = d.length
  | _, _, .nil => rfl
  | _, _, .cons _ t => congrArg (· + 1) (BtAll.len t)
theorem BtAll.append {K : Frag} {L : List Addr} {H : Hp} : ∀ {v v' : List V} {d d' : List PyData}, BtAll K L H v d → BtAll K L H v' d' → BtAll K L H (v ++ v') (d ++ d')
  | _, _, _, _, .nil, h => h
  | _, _, _, _, .cons h t, h' => .cons h (BtAll.append t h')
theorem BtAll.get {K : Frag} {L : List Addr} {H : Hp} : ∀ {v : List V} {d : List PyData} {i : Nat} {x : V}, BtAll K L H v d → v[i]? = some x → ∃ y, d[i]? = some y ∧ Bt K L H x y
  | _, _, i, x, .nil, h => by simp at h
  | _, _, 0, x, .cons h t, e => ⟨_, rfl, by cases e; exact h⟩
  | _, _, i + 1, x, .cons h t, e => by
    rw [List.getElem?_cons_succ] at e ⊢
    exact BtAll.get t e
theorem Bt.tupD {K : Frag} {L : List Addr} {H : Hp} {v : V} {ds : List PyData} (h : Bt K L H v (.tuple ds)) : ∃ a xs, v = .ref a ∧ SqT K H a xs ∧ BtAll K L H xs ds := by
  cases h with
  | tup h t => exact ⟨_, _, rfl, h, t⟩
def kTupB : PyData → Bool
  | .tuple _ => true
  | _ => false
def kStrB : PyData → Bool
  | .str _ => true
  | _ => false
def kIntB : PyData → Bool
  | .int _ => true
  | .bool _ => true
  | _ => false
def kBoolB : PyData → Bool
  | .bool _ => true
  | _ => false
theorem kTupB_of {d : PyData} (h : kTupB d = true) : ∃ ds, d = .tuple ds := by
  cases d with
  | tuple ds => exact ⟨ds, rfl⟩
  | _ => cases h
theorem kStrB_of {d : PyData} (h : kStrB d = true) : ∃ z, d = .str z := by
  cases d with
  | str z => exact ⟨z, rfl⟩
  | _ => cases h
/-- isinstance of such a value -/
theorem Bt.ty {K : Frag} {L : List Addr} {H : Hp} {v : V} {d : PyData} (h : Bt K L H v d) : ∃ t, TyX K H v t ∧ kitOne K t (.type "tuple") = some (kTupB d) ∧ kitOne K t (.type "str") = some (kStrB d) ∧ kitOne K t (.type "int") = some (kIntB d) ∧ kitOne K t (.type "bool") = some (kBoolB d) := by
  cases h with
  | non => exact ⟨_, .base .non, kit_ty (r := false) (by decide +kernel), kit_ty (r := false) (by decide +kernel), kit_ty (r := false) (by decide +kernel), kit_ty (r := false) (by decide +kernel)⟩
  | bl b => exact ⟨_, .base (.bl _), kit_ty (r := false) (by decide +kernel), kit_ty (r := false) (by decide +kernel), kit_ty (r := true) (by decide +kernel), kit_ty (r := true) (by decide +kernel)⟩
  | int i => exact ⟨_, .base (.int _), kit_ty (r := false) (by decide +kernel), kit_ty (r := false) (by decide +kernel), kit_ty (r := true) (by decide +kernel), kit_ty (r := false) (by decide +kernel)⟩
  | str h => exact ⟨_, .base (.str _), kit_ty (r := false) (by decide +kernel), kit_ty (r := true) (by decide +kernel), kit_ty (r := false) (by decide +kernel), kit_ty (r := false) (by decide +kernel)⟩
  | lst n h => exact ⟨_, .base (.lst h), kit_ty (r := false) (by decide +kernel), kit_ty (r := false) (by decide +kernel), kit_ty (r := false) (by decide +kernel), kit_ty (r := false) (by decide +kernel)⟩
  | dct n h => exact ⟨_, .base (.dK h), kit_ty (r := false) (by decide +kernel), kit_ty (r := false) (by decide +kernel), kit_ty (r := false) (by decide +kernel), kit_ty (r := false) (by decide +kernel)⟩
  | tup h t => exact ⟨_, tyTup h, kit_ty (r := true) (by decide +kernel), kit_ty (r := false) (by decide +kernel), kit_ty (r := false) (by decide +kernel), kit_ty (r := false) (by decide +kernel)⟩
/-! ### size and depth -/
mutual
def sz : PyData → Nat
  | .tuple ds => 1 + szs ds
  | _ => 1
def szs : List PyData → Nat
  | [] => 0
  | d :: r => sz d + szs r
end
mutual
def dep : PyData → Nat
  | .tuple ds => 1 + deps ds
  | _ => 0
def deps : List PyData → Nat
  | [] => 0
  | d :: r => max (dep d) (deps r)
end
theorem sz_pos (d : PyData) : 1 ≤ sz d := by
  cases d <;> first | (unfold sz; omega) | exact Nat.le_refl 1
theorem szs_mem {d : PyData} : ∀ {ds : List PyData}, d ∈ ds → sz d ≤ szs ds
  | a :: r, h => by
    unfold szs
    rcases List.mem_cons.mp h with rfl | h
    · omega
    · have := szs_mem h; omega
theorem szs_len : ∀ (ds : List PyData), ds.length ≤ szs ds
  | [] => Nat.le_refl 0
  | a :: r => by
    have h1 := szs_len r
    have h2 := sz_pos a
    unfold szs
    rw [List.length_cons]; omega
theorem deps_mem {d : PyData} : ∀ {ds : List PyData}, d ∈ ds → dep d ≤ deps ds
  | a :: r, h => by
    unfold deps
    rcases List.mem_cons.mp h with rfl | h
    · omega
    · have := deps_mem h; omega
theorem szs_append : ∀ (a b : List PyData), szs (a ++ b) = szs a + szs b
  | [], b => by show szs b = 0 + szs b; omega
  | x :: r, b => by
    show sz x + szs (r ++ b) = (sz x + szs r) + szs b
    rw [szs_append r b]; omega
theorem deps_append : ∀ (a b : List PyData), deps (a ++ b) = max (deps a) (deps b)
  | [], b => by show deps b = max 0 (deps b); omega
  | x :: r, b => by
    show max (dep x) (deps (r ++ b)) = max (max (dep x) (deps r)) (deps b)
    rw [deps_append r b]; omega
theorem sz_tuple (ds : List PyData) : sz (.tuple ds) = 1 + szs ds := by unfold sz; rfl
theorem dep_tuple (ds : List PyData) : dep (.tuple ds) = 1 + deps ds := by unfold dep; rfl
end Cm
namespace K18
open PySem PySem.W L2 SX Cm DD
def top (i : Nat) : Stmt := PySem.Challenge.pw_takeleave_k18_no_texts_of_kinds.main.body.getD i (.Pass ⟨0, 0, 0, 0⟩)
abbrev s_p_marks_of_text : Stmt := top 11
abbrev s_p_is_figures : Stmt := top 15
abbrev s_p_is_open_thing : Stmt := top 18
abbrev s_p_is_open_rest : Stmt := top 19
abbrev s_p_is_lettered : Stmt := top 20
abbrev s_p_read_kind : Stmt := top 23
abbrev s_p_read_mark : Stmt := top 24
abbrev s_p_close_level : Stmt := top 25
abbrev s_L_deck : Stmt := top 27
abbrev s_L_draw : Stmt := top 28
abbrev s_L_name : Stmt := top 29
abbrev s_L_kind : Stmt := top 30
abbrev s_L_stack : Stmt := top 31
abbrev s_L_row_kind : Stmt := top 32
abbrev s_L_words : Stmt := top 33
abbrev s_L_stack_words : Stmt := top 34
abbrev s_L_row_words : Stmt := top 35
abbrev s_L_opens : Stmt := top 36
abbrev s_L_is_name : Stmt := top 37
abbrev s_L_read_kind : Stmt := top 38
abbrev s_L_read_stack : Stmt := top 39
abbrev s_L_read_pair : Stmt := top 40
abbrev s_L_read : Stmt := top 41
abbrev s_L_told : Stmt := top 42
abbrev s_L_bent : Stmt := top 43
abbrev s_L_law : Stmt := top 44
section
variable {P : Program} {w : World} {K : Frag} {mg : Str → Option Value} {base : Heap}
theorem scDeck : FnScope ["_law_script", "_law_seed", "_law_cell"] ["_law_script"] (defScope s_L_deck) := ⟨rfl, rfl, rfl, by decide +kernel, rfl, by decide +kernel, by decide +kernel⟩
theorem ok_deck {f : Addr} {fd : FuncData} (F : Fun K "_law_deck" "_law_deck" s_L_deck f fd) (B : BI mg) : FnOk P w K mg base CX0 1 f fd ["_law_script"] (spDeck K) := by
  refine F.ok scDeck (fun vs H Q E h => ?_) (fun cdv A outer s H vs Q E hr h => ?_)
  · obtain ⟨a, ns, rfl, _⟩ := h
    rfl
  obtain ⟨a, ns, rfl, hS, h63, q⟩ := h
  refine ⟨_, pss_cons (ps_set (i := 1) scDeck.nd rfl (.inl rfl) pe_int)
    (pss_cons (ps_for PassesOwn.never rfl (pi_list (pe_slice sl_list (pv 0) po_none (po_some pe_int))) (pg_name (i := 2) scDeck.nd rfl (.inl rfl))
      (pss_one (ps_set (i := 1) scDeck.nd rfl (.inl rfl) (pe_op op_mod (pe_op op_add (pe_op op_add (pe_op op_mul (pv 1) pe_int) (pe_op op_mod (pv 2) pe_int)) pe_int) pe_int))))
    (pss_one (ps_ret (pe_lst (pa_cons (pe_callTy call_list_of (by rfl) B.lst (by decide +kernel) (pa_cons (pe_slice sl_list (pv 0) po_none (po_some pe_int)) pa_nil)) (pa_cons (pv 1) (pa_cons pe_int pa_nil))))))), ?_⟩
  obtain ⟨ds, e1, l1⟩ := cut_map V.int ns none (some 63)
  refine ⟨_, rfl, 63, rfl, a, _, rfl, hS, fun p1 n1 => ?_⟩
  rw [e1]
  have s1 : Same H (upd H p1 (.lst (ds.map V.int))) := same_new n1 _
  have h1 : upd H p1 (.lst (ds.map V.int)) p1 = some (.lst (ds.map V.int)) := upd_same
  generalize upd H p1 (.lst (ds.map V.int)) = H1 at s1 h1
  refine ⟨p1, rfl, ⟨_, SqL.of h1⟩, for_list (K := K) (a := p1) (xs := ds.map V.int) (fun i σ H' => H' = H1 ∧ ∃ (s : Int) (x2 : Option V), σ = [some (.ref a), some (.int s), x2]) ⟨rfl, 7, none, rfl⟩ (fun i σ H' _ h => ?_) ?_ ?_⟩
  · obtain ⟨rfl, _⟩ := h
    exact SqL.of h1
  · rintro i x σ H' hi ⟨rfl, s, x2, rfl⟩
    obtain ⟨m, rfl⟩ : ∃ m, x = .int m := by
      obtain ⟨m, _, rfl⟩ := List.mem_map.mp (List.mem_of_getElem? hi)
      exact ⟨m, rfl⟩
    refine ⟨_, rfl, _, _, rfl, rfl, .inr ⟨by decide, by decide⟩, _, rfl, _, _, rfl, rfl, (by show (0 : Int) < 2147483629; decide), _, _, rfl, rfl, _, _, rfl, rfl, _, _, rfl, rfl, (by show (0 : Int) < 2147483629; decide), ?_⟩
    exact ⟨rfl, _, _, rfl⟩
  · rintro σ H' ⟨rfl, s, x2, rfl⟩
    refine ⟨_, rfl, 63, rfl, a, _, rfl, s1.seq hS, fun p2 n2 => ?_⟩
    rw [e1]
    have s2 := s1.trans (same_new n2 (.lst (ds.map V.int)))
    refine ⟨p2, _, rfl, .inl (SqL.of upd_same), fun c nc => ?_⟩
    have s3 := s2.trans (same_new nc (.lst (ds.map V.int)))
    have fc : H c = none := s2.free nc
    have ec : upd (upd H' p2 (.lst (ds.map V.int))) c (.lst (ds.map V.int)) c = some (.lst (ds.map V.int)) := upd_same
    refine ⟨_, rfl, (by show 3 ≤ sizeLine; decide), fun d nd => ?_⟩
    refine q d c _ (s3.trans (same_new nd _)) (s3.free nd) fc ⟨(ne_of_none ec nd).symm, ⟨_, _, upd_same⟩, ds, kn ec nd, by omega⟩
theorem scDraw : FnScope ["_law_deck_here", "_law_most", "_law_number", "_law_cell"] ["_law_deck_here", "_law_most"] (defScope s_L_draw) := ⟨rfl, rfl, rfl, by decide +kernel, rfl, by decide +kernel, by decide +kernel⟩
theorem ok_draw {f : Addr} {fd : FuncData} (F : Fun K "_law_draw" "_law_draw" s_L_draw f fd) : FnOk P w K mg base CX0 2 f fd ["_law_deck_here", "_law_most"] spTake := by
  refine F.ok scDraw (fun vs H Q E h => ?_) (fun cdv A outer s H vs Q E hr h => ?_)
  · obtain ⟨d, c, m, rfl, _⟩ := h
    rfl
  obtain ⟨d, c, m, rfl, D, m0, m1, q⟩ := h
  obtain ⟨sm, k, hd⟩ := D.at_
  obtain ⟨ms, hc, hl⟩ := D.cells
  have dm : d ∈ [d, c] := List.mem_cons_self ..
  have cm : c ∈ [d, c] := List.mem_cons_of_mem _ (List.mem_singleton.mpr rfl)
  refine ⟨_, pss_cons (ps_asg (pe_op op_add (pe_ix ix_list (pv 0) pe_int (fun _ _ => rfl)) pe_int) (pg_sub (pv 0) pe_int set_list))
    (pss_cons (ps_if (pt_cmpR (op_eqNil hr.units) (pe_ix ix_list (pv 0) pe_int (fun _ _ => rfl)) (pe_lst pa_nil) (nomark _))
      (pss_cons (ps_set (i := 2) scDraw.nd rfl (.inl rfl) (pe_op op_mod (pe_op op_mul (pe_op op_add (pe_ix ix_list (pv 0) pe_int (fun _ _ => rfl)) (pe_op op_mul pe_int (pe_ix ix_list (pv 0) pe_int (fun _ _ => rfl)))) pe_int) pe_int))
      (pss_one (ps_ret (pe_op op_mod (pe_op op_mod (pe_op op_mul (pe_op op_mod (pe_op op_add (pe_op op_mul (pv 2) (pv 2)) (pe_op op_mul pe_int (pe_ix ix_list (pv 0) pe_int (fun _ _ => rfl)))) pe_int) pe_int) pe_int) (pv 1))))) pss_nil)
    (pss_cons (ps_set (i := 3) scDraw.nd rfl (.inl rfl) (pe_bm PySem.F.plainAttrs_list PySem.F.slot_list_pop PySem.F.type_list_pop mt_popAt (pe_ix ix_list (pv 0) pe_int (fun _ _ => rfl)) (pa_cons pe_int pa_nil)))
    (pss_cons (ps_if (pt_cmpR op_ge (pv 3) (pe_op op_pow pe_int pe_int) (nomark _))
      (pss_cons (ps_expr (pe_bm PySem.F.plainAttrs_list PySem.F.slot_list_insert PySem.F.type_list_insert mt_insert (pe_ix ix_list (pv 0) pe_int (fun _ _ => rfl)) (pa_cons pe_int (pa_cons (pe_op op_fdivW (pv 3) (pv 1)) pa_nil))))
      (pss_one (ps_ret (pe_op op_mod (pv 3) (pv 1))))) pss_nil)
    (pss_cons (ps_set (i := 2) scDraw.nd rfl (.inl rfl) (pe_op op_mod (pe_op op_mul (pe_op op_add (pe_op op_mod (pv 3) pe_int) (pe_op op_mul pe_int (pe_ix ix_list (pv 0) pe_int (fun _ _ => rfl)))) pe_int) pe_int))
    (pss_one (ps_ret (pe_op op_mod (pe_op op_mod (pe_op op_mul (pe_op op_mod (pe_op op_add (pe_op op_mul (pv 2) (pv 2)) (pe_op op_mul pe_int (pv 2))) pe_int) pe_int) pe_int) (pv 1)))))))), ?_⟩
  have ix : ∀ (j : Nat) (v : V) (k' : Int), [V.ref c, .int sm, .int k'][j]? = some v → atI [V.ref c, .int sm, .int k'] (j : Int) = some v := fun j v k' h => atI_nat h
  refine ⟨_, rfl, d, _, _, _, rfl, rfl, SqL.of hd, ix 2 _ k rfl, _, _, rfl, rfl, _, rfl, d, _, _, 2, rfl, rfl, hd, rfl, ?_⟩
  have hd1 : upd H d (.lst [.ref c, .int sm, .int (k + 1)]) d = some (.lst [.ref c, .int sm, .int (k + 1)]) := upd_same
  have hc1 : upd H d (.lst [.ref c, .int sm, .int (k + 1)]) c = some (.lst (ms.map V.int)) := by rw [upd_ne D.ne.symm]; exact hc
  have k1 : Kp [d, c] H (upd H d (.lst [.ref c, .int sm, .int (k + 1)])) := (Kp.refl _ H).own dm
  show tSeq _ _ _ _ (upd H d (.lst [.ref c, .int sm, .int (k + 1)]))
  generalize upd H d (.lst [.ref c, .int sm, .int (k + 1)]) = H1 at hd1 hc1 k1
  refine ⟨_, rfl, d, _, _, _, rfl, rfl, SqL.of hd1, ix 0 _ (k + 1) rfl, (by show 0 ≤ sizeLine; decide), fun p hp => ?_⟩
  have k2 : Kp [d, c] H (upd H1 p (.lst [])) := k1.new hp
  have hd2 := kn (o' := .lst []) hd1 hp
  have hc2 := kn (o' := .lst []) hc1 hp
  refine ⟨c, p, _, rfl, rfl, SqL.of hc2, SqL.of upd_same, _, rfl, ?_⟩
  generalize upd H1 p (.lst []) = H2 at hd2 hc2 k2
  have last : ∀ (x : Int), 0 ≤ x % m ∧ x % m < m := fun x => ⟨Int.emod_nonneg _ (by omega), Int.emod_lt_of_pos _ m0⟩
  have nb : ∀ x : Int, 0 ≤ x % 2147483647 ∧ x % 2147483647 < 2147483647 := fun x => ⟨Int.emod_nonneg _ (by decide), Int.emod_lt_of_pos _ (by decide)⟩
  rcases ms with _ | ⟨n, ns⟩
  · refine iteT ?_
    refine ⟨_, rfl, d, _, _, _, rfl, rfl, SqL.of hd2, ix 1 _ (k + 1) rfl, _, rfl, d, _, _, _, rfl, rfl, SqL.of hd2, ix 2 _ (k + 1) rfl, _, _, rfl, rfl, .inl ⟨by decide, by decide⟩, _, _, rfl, rfl, _, _, rfl, rfl, .inr ⟨by decide, by decide⟩, _, _, rfl, rfl, (by show (0 : Int) < 2147483647; decide), ?_⟩
    generalize e1 : ((sm + 7919 * (k + 1)) * 48271) % 2147483647 = n1
    have b1 : 0 ≤ n1 ∧ n1 < 2147483647 := by rw [← e1]; exact nb _
    refine ⟨_, rfl, _, rfl, _, _, rfl, rfl, .inl ⟨by omega, by omega⟩, _, rfl, d, _, _, _, rfl, rfl, SqL.of hd2, ix 2 _ (k + 1) rfl, _, _, rfl, rfl, .inl ⟨by decide, by decide⟩, _, _, rfl, rfl, _, _, rfl, rfl, (by show (0 : Int) < 2147483629; decide), _, _, rfl, rfl, .inr ⟨by decide, by decide⟩, _, _, rfl, rfl, (by show (0 : Int) < 2147483647; decide), _, rfl, _, _, rfl, rfl, m0, ?_⟩
    exact q _ _ (last _).1 (last _).2 k2 ⟨D.ne, ⟨_, _, hd2⟩, [], hc2, by decide⟩
  · refine iteF ?_
    rw [List.length_cons] at hl
    refine ⟨_, rfl, d, _, _, _, rfl, rfl, SqL.of hd2, ix 0 _ (k + 1) rfl, .inl ⟨rfl, _, SqL.of hc2⟩, c, _, 0, 0, _, rfl, rfl, hc2, by decide, by decide, (by unfold seqIndex?; simp), rfl, ?_⟩
    have hd3 : upd H2 c (.lst (ns.map V.int)) d = some (.lst [.ref c, .int sm, .int (k + 1)]) := by rw [upd_ne D.ne]; exact hd2
    have k3 : Kp [d, c] H (upd H2 c (.lst (ns.map V.int))) := k2.own cm
    have hc3 : upd H2 c (.lst (ns.map V.int)) c = some (.lst (ns.map V.int)) := upd_same
    show tSeq _ _ _ _ (upd H2 c (.lst (ns.map V.int)))
    generalize upd H2 c (.lst (ns.map V.int)) = H3 at hd3 k3 hc3
    refine ⟨_, rfl, _, _, rfl, rfl, ⟨by decide, by decide, by decide⟩, _, _, rfl, rfl, _, rfl, ?_⟩
    refine ite2 (fun _ => ?_) (fun _ => ?_)
    · refine ⟨_, rfl, d, _, _, _, rfl, rfl, SqL.of hd3, ix 0 _ (k + 1) rfl, .inl ⟨rfl, _, SqL.of hc3⟩, _, rfl, _, rfl, _, _, rfl, rfl, wide_div m0 (b := 64) (by omega) (by decide) (by decide), c, _, 0, _, rfl, rfl, hc3, by rw [List.length_map]; exact small1000 (by omega), by decide, by decide, ?_⟩
      refine ⟨_, rfl, _, rfl, _, _, rfl, rfl, m0, ?_⟩
      refine q _ _ (last _).1 (last _).2 (k3.own cm) ⟨D.ne, ⟨_, _, by rw [upd_ne D.ne]; exact hd3⟩, (n / m) :: ns, upd_same, ?_⟩
      rw [List.length_cons]; omega
    · refine ⟨_, rfl, _, _, rfl, rfl, (by show (0 : Int) < 2147483647; decide), _, rfl, d, _, _, _, rfl, rfl, SqL.of hd3, ix 2 _ (k + 1) rfl, _, _, rfl, rfl, .inl ⟨by decide, by decide⟩, _, _, rfl, rfl, _, _, rfl, rfl, .inr ⟨by decide, by decide⟩, _, _, rfl, rfl, (by show (0 : Int) < 2147483647; decide), ?_⟩
      generalize e1 : ((n % 2147483647 + 7919 * (k + 1)) * 48271) % 2147483647 = n1
      have b1 : 0 ≤ n1 ∧ n1 < 2147483647 := by rw [← e1]; exact nb _
      refine ⟨_, rfl, _, rfl, _, _, rfl, rfl, .inl ⟨by omega, by omega⟩, _, rfl, _, _, rfl, rfl, .inl ⟨by decide, by decide⟩, _, _, rfl, rfl, _, _, rfl, rfl, (by show (0 : Int) < 2147483629; decide), _, _, rfl, rfl, .inr ⟨by decide, by decide⟩, _, _, rfl, rfl, (by show (0 : Int) < 2147483647; decide), _, rfl, _, _, rfl, rfl, m0, ?_⟩
      exact q _ _ (last _).1 (last _).2 k3 ⟨D.ne, ⟨_, _, hd3⟩, ns, hc3, by omega⟩
theorem h_draw (a : At K mg "_law_draw" s_L_draw A_L_draw) : Has P w K mg base 2 "_law_draw" A_L_draw SP_draw := has_draw a fun f fd F => ok_draw F
end
end K18
set_option maxHeartbeats 1000000
namespace K18
open PySem PySem.W L2 SX Cm DD
local macro_rules | `(tactic| walk_at "d1") => `(tactic| first | (with_reducible refine w_seq ?_) | (with_reducible refine w_next ?_) | ((with_reducible show dVar _ _ _ _); refine w_var rfl ?_) | (with_reducible refine w_asg ?_) | (with_reducible refine w_cons ?_) | (with_reducible refine w_nil ?_) | (with_reducible refine w_c ?_) | (with_reducible refine w_op ?_) | (with_reducible refine w_call ?_) | (with_reducible refine w_CB ?_) | (with_reducible refine w_ret ?_) | (with_reducible refine w_ifS ?_) | (with_reducible refine w_drop ?_) | (with_reducible refine w_tup ?_) | (with_reducible refine w_lst ?_) | (with_reducible refine w_sl ?_) | (with_reducible refine w_none ?_) | (with_reducible refine w_some ?_) | (with_reducible refine w_BM ?_) | (with_reducible refine w_BM0 ?_) | (with_reducible refine w_test ?_) | (with_reducible refine w_tru ?_) | (with_reducible refine w_and ?_) | (with_reducible refine w_or ?_) | (with_reducible refine w_not ?_) | (with_reducible refine w_yes ?_) | (with_reducible refine w_ifE ?_) | (with_reducible refine w_andV ?_) | (with_reducible refine w_orV ?_) | (with_reducible refine w_notV ?_) | (with_reducible refine w_neg ?_) | (with_reducible refine w_rev ?_) | (with_reducible refine w_exI ?_) | (with_reducible refine w_exB ?_) | (with_reducible refine w_exT ?_) | (with_reducible refine w_exS ?_) | (with_reducible refine w_parE ?_) | (with_reducible refine w_par ?_) | (with_reducible refine w_asgS ?_) | (with_reducible refine w_retN ?_) | (with_reducible refine w_break ?_) | (with_reducible refine w_cont ?_) | (with_reducible refine w_truB ?_) | (with_reducible refine w_truI ?_) | (with_reducible refine w_truN ?_) | (with_reducible refine w_truT ?_) | (with_reducible refine w_addI ?_) | (with_reducible refine w_subI ?_) | (with_reducible refine w_cmpI ?_) | (with_reducible refine w_cmpS ?_) | (with_reducible refine w_eqSS ?_) | (with_reducible refine w_eqII ?_) | (with_reducible refine w_eqBB ?_) | (with_reducible refine w_neSS ?_) | (with_reducible refine w_neII ?_) | (with_reducible refine w_neBB ?_) | (with_reducible refine w_eqSN ?_) | (with_reducible refine w_eqIN ?_) | (with_reducible refine w_eqSI ?_) | (with_reducible refine w_eqIS ?_) | (with_reducible refine w_eqNS ?_) | (with_reducible refine w_eqBS ?_) | (with_reducible refine w_eqT0 ?_) | (with_reducible refine w_ix0 ?_) | (with_reducible refine w_ix1 ?_) | (with_reducible refine w_ix2 ?_) | (with_reducible refine w_ix3 ?_) | (with_reducible refine w_slT ?_) | (with_reducible refine w_lenT ?_) | (with_reducible refine w_intB ?_) | (with_reducible refine w_intI ?_) | (with_reducible refine w_tupT ?_) | (with_reducible refine w_rcvS ?_) | (with_reducible refine ly1 ?_) | (with_reducible refine ly2 ?_) | (with_reducible refine lt1' ?_) | (with_reducible refine lt2' ?_) | (with_reducible refine g_n ?_) | (with_reducible refine w_isN ?_) | (with_reducible refine w_isnN ?_) | (with_reducible refine w_for ?_) | (with_reducible refine w_lc ?_) | (with_reducible refine wi_tup ?_) | (with_reducible refine wi_lst ?_) | (with_reducible refine wi_str ?_) | (with_reducible refine wi_rng ?_) | (with_reducible refine wi_rng2 ?_) | (with_reducible refine wi_enumT ?_) | (with_reducible refine wi_enum ?_) | (with_reducible refine wi_rev ?_) | (with_reducible refine wi_revR ?_) | (with_reducible refine wx_enumT ?_) | (with_reducible refine w_callX ?_) | (with_reducible refine w_methX ?_) | (with_reducible refine w_raise ?_) | (with_reducible refine w_try ?_) | (with_reducible refine w_xSet ?_) | (with_reducible refine w_xExpr ?_) | (with_reducible refine w_xLst ?_) | (with_reducible refine w_xTup ?_) | (with_reducible refine w_xCons ?_) | (with_reducible refine w_xNil ?_) | (with_reducible refine w_xE ?_) | (with_reducible refine w_xCall ?_) | (with_reducible refine w_call0 ?_) | (with_reducible refine w_asgL ?_) | (with_reducible refine w_tupPd ?_) | (with_reducible refine wi_zip ?_) | (with_reducible refine w_dnew ?_) | (with_reducible refine w_dget ?_) | (with_reducible refine w_dget2 ?_) | (with_reducible refine w_din ?_) | (with_reducible refine w_dput ?_) | (with_reducible refine w_asgT ?_) | (with_reducible refine g_C ?_) | (with_reducible refine g_0 ?_) | (with_reducible refine w_inS ?_) | (with_reducible refine w_delT ?_) | (with_reducible refine w_dc ?_) | (with_reducible refine w_revL ?_) | (with_reducible refine wi_revT ?_) | (with_reducible refine w_lstZip ?_) | (with_reducible refine w_chain ?_) | (with_reducible refine w_orT ?_) | ((with_reducible show gT _ _ _ _ _ _); refine g_T ?_ rfl) | ((with_reducible show ∃ p, DV.ref _ = _ ∧ (∃ kvs, _) ∧ _); refine wx_get (by walk_at "gq") ?_) | ((with_reducible show ∃ kvs z, _ = _ ∧ _ = some (DO.dct _) ∧ _); refine wx_get2 (by walk_at "gq") ?_) | ((with_reducible show ∃ p kvs z, _ = _ ∧ _ = _ ∧ _ = some (DO.dct _) ∧ _); refine wx_in (by walk_at "gq") ?_) | ((with_reducible show List.length _ = _ ∧ _); refine w_len ?_ rfl) | ((with_reducible show List.length _ ≤ sizeLine ∧ _); refine w_sz ?_ (szl rfl)) | ((with_reducible show bIx _ (.int _) _ _); first | refine w_ix0 ?_ | refine w_ix1 ?_ | refine w_ix2 ?_ | refine w_ix3 ?_) | ((with_reducible show bIsi [_, _] _ _); first | refine w_isi (by decide) (a := "tuple") rfl rfl ?_ | refine w_isi (by decide) (a := "str") rfl rfl ?_ | refine w_isi (by decide) (a := "int") rfl rfl ?_ | refine w_isi (by decide) (a := "bool") rfl rfl ?_ | refine w_isi (by decide) (a := "NoneType") rfl rfl ?_) | ((with_reducible show ∃ ds, _ = DV.tup ds ∧ _); refine w_exT ?_) | ((with_reducible show ∃ z, _ = DV.str z ∧ _); refine w_exS ?_) | ((with_reducible show ∃ ds, [_] = [DV.tup ds] ∧ _); refine wx_enumT ?_) | ((with_reducible show bSl _ _ _ _ _); refine w_slT ?_) | ((with_reducible show bTuple [_] _ _); refine w_tupT ?_) | ((with_reducible show bLen [_] _ _); refine w_lenT ?_) | ((with_reducible show bTru _ _ _); first | refine w_truT ?_ | refine w_truN ?_ | refine w_truB ?_ | refine w_truI ?_) | ((with_reducible show bEq _ _ _ _ _); first | refine w_eqSS ?_ | refine w_eqII ?_ | refine w_neSS ?_ | refine w_neII ?_ | refine w_eqT0 ?_) | ((with_reducible show bInt _ _ (.int _) (.int _) _ _); refine w_int (by first | decide | exact ⟨by decide, by decide, by decide⟩ | exact .inl ⟨by decide, by decide⟩ | exact .inr ⟨by decide, by decide⟩) ?_) | ((with_reducible show if _ = true then _ else _); first | refine w_it (by first | rfl | decide +kernel) ?_ | refine w_if0 (by first | rfl | decide +kernel) ?_) | ((with_reducible show rcv "list" (.ref _) _ ∧ _); refine w_rcvL (by walk_at "gq") ?_) | ((with_reducible show bTuple [.ref _] _ _); refine w_tupL (by walk_at "gq") ?_) | ((with_reducible show bLen [.ref _] _ _); refine w_lenL (by walk_at "gq") ?_) | ((with_reducible show bTru (.ref _) _ _); refine w_truL (by walk_at "gq") ?_) | ((with_reducible show ∃ _ _, DV.ref _ = _ ∧ Ls _ _ _ ∧ _); refine wx_lst (by walk_at "gq") ?_) | ((with_reducible show ∃ _ _, [DV.ref _] = _ ∧ Ls _ _ _ ∧ _); refine wx_lstA (by walk_at "gq") ?_))
local macro_rules | `(tactic| walk_at "dd") => `(tactic| repeat (walk_at "d1"))
local macro_rules | `(tactic| walk_at "gq") => `(tactic| first | assumption | exact dupd_same | exact sub_get (by assumption) (by walk_at "gq") | exact upd_get (by assumption) (by walk_at "gq") (by walk_at "gn") | exact subx_get (by assumption) (by walk_at "gq") (by walk_at "gn") | (refine (dupd_ne ?_).trans ?_; (focus walk_at "gn"); walk_at "gq"))
local macro_rules | `(tactic| walk_at "gs") => `(tactic| first | assumption | exact Sub.refl _ | exact sub_tr (by assumption) (by walk_at "gs") | exact sub_up (by assumption) (by walk_at "gs") (by walk_at "g0") | exact sub_ux (by assumption) (by walk_at "gs") (by walk_at "g0") | (refine Sub.new ?_ ?_; (focus walk_at "gs"); walk_at "g0"))
local macro_rules | `(tactic| walk_at "gk") => `(tactic| first | assumption | exact dk_sub (by assumption) (by walk_at "gk") | exact dk_upd (by assumption) (by walk_at "gk") ⟨_, by walk_at "gq"⟩ | exact dk_updD (by assumption) (by walk_at "gk") ⟨_, by walk_at "gq"⟩)
local macro_rules | `(tactic| walk_at "gu") => `(tactic| first | assumption | exact Upd.refl _ _ | exact upd_in (by assumption) (by walk_at "gu"))
local macro_rules | `(tactic| walk_at "gx") => `(tactic| first | assumption | exact SubX.refl _ _ | exact subx_sub (by assumption) (by walk_at "gx") | exact subx_upd (by assumption) (by walk_at "gx") | exact subx_tr (by assumption) (by walk_at "gx"))
local macro_rules | `(tactic| walk_at "gn") => `(tactic| first | assumption | exact Ne.symm (by assumption) | exact ne_ns (by assumption) ⟨_, by walk_at "gq"⟩ | exact ne_sn (by assumption) ⟨_, by walk_at "gq"⟩)
local macro_rules | `(tactic| walk_at "g0") => `(tactic| first | assumption | exact nn_ (by assumption) (by walk_at "gs"))

def smalls : List Str := ["a", "b", "c", "z", "a2", "a10", "b12", "a100"]
def greats : List Str := ["A", "B", "", "Z", "A2", "A10", "B12", "Q900"]
def sml (z : Str) : Prop := z ∈ smalls
def grt (z : Str) : Prop := z ∈ greats
/-- a drawn kind, of c parts -/
structure GK (j : Nat) (c : Int) (k : Kd) : Prop where
  dp : dpK k ≤ j
  sz : (szK k : Int) = c
  nm : NK sml grt k
structure GS (j : Nat) (c : Int) (s : Sk) : Prop where
  dp : dpS s ≤ j
  sz : (szS s : Int) = c
  nm : NS sml grt s
structure GKs (j : Nat) (c : Int) (ks : List Kd) : Prop where
  dp : dpKs ks ≤ j
  sz : (szKs ks : Int) = c
  nm : NKs sml grt ks
theorem GKs.snoc {j : Nat} {c e f : Int} {ks : List Kd} {k : Kd} (h : GKs j c ks) (g : GK j e k) (l : c + e = f) : GKs j f (ks ++ [k]) := by
  refine ⟨?_, ?_, (NKs_app ks [k]).mpr ⟨h.nm, g.nm, trivial⟩⟩
  · rw [dpKs_app]; have := h.dp; have := g.dp; show max (dpKs ks) (max (dpK k) 0) ≤ j; omega
  · rw [szKs_app]; have := h.sz; have := g.sz; show ((szKs ks + (szK k + 0) : Nat) : Int) = _; omega
theorem lst_put {G : DG} {l : Addr} {x y : DO} : dupd (dupd G l x) l y = dupd G l y := dupd_dupd
theorem dk_puts {G : DG} {d l : Addr} {n : Int} {o : DO} (h : HasDk G d) (e : G l = some (.lst [.int n])) : HasDk (dupd G l o) d := h.put (h.ne e)
section
variable {P : Program} {w : World} {K : Frag} {mg : Str → Option Value} {base : Heap}

def SP_name (g : Nat) : DSp := fun ds G R => ∃ d, ds = [.ref d, .int (g : Int)] ∧ HasDk G d ∧ ∀ z, z ∈ (if g = 0 then smalls else greats) → R (.str z) G
def SP_kind (k : Nat) : DSp := fun ds G R => ∃ (d l : Addr) (n : Int) (j : Nat), k = j + 1 ∧ ds = [.ref d, .ref l, .int j] ∧ HasDk G d ∧ G l = some (.lst [.int n]) ∧ 1 ≤ n ∧ ∀ kd n', GK j (n - n') kd → -(j : Int) ≤ n' → R (eK kd) (dupd G l (.lst [.int n']))
def SP_stack (k : Nat) : DSp := fun ds G R => ∃ (d l : Addr) (n : Int) (j : Nat), k = j + 1 ∧ ds = [.ref d, .ref l, .int j] ∧ HasDk G d ∧ G l = some (.lst [.int n]) ∧ ∀ s n', GS j (n - n') s → (-(j : Int) ≤ n' ∨ n - 1 ≤ n') → R (eS s) (dupd G l (.lst [.int n']))
abbrev A_L_name : List Str := ["_law_deck_here", "_law_great"]
abbrev A_L_kind : List Str := ["_law_deck_here", "_law_left", "_law_deep"]
abbrev A_L_stack : List Str := ["_law_deck_here", "_law_left", "_law_deep"]
abbrev N_L_name : List Str := ["_law_deck_here", "_law_great", "_law_some"]
theorem sc_L_name : FnScope N_L_name A_L_name (defScope s_L_name) := ⟨rfl, rfl, rfl, by decide +kernel, rfl, by decide +kernel, by decide +kernel⟩
theorem h_L_name {g : Nat} (hg : g ≤ 1) (a : At K mg "_law_name" s_L_name A_L_name) (B : BI mg) (c_L_draw : Has P w K mg base 2 "_law_draw" A_L_draw SP_draw) : Has P w K mg base 3 "_law_name" A_L_name (SP_name g) := by
  refine at_mk a sc_L_name fun f cdv A outer s H E hr ds G R hl h => ?_
  refine ⟨_, (dss_cons (ds_set (i := 2) sc_L_name.nd rfl (.inl rfl) (de_ix (de_lst (da_cons (de_lst (da_cons de_str (da_cons de_str (da_cons de_str (da_cons de_str (da_cons de_str (da_cons de_str (da_cons de_str (da_cons de_str da_nil))))))))) (da_cons (de_lst (da_cons de_str (da_cons de_str (da_cons de_str (da_cons de_str (da_cons de_str (da_cons de_str (da_cons de_str (da_cons de_str da_nil))))))))) da_nil))) (dv 1)))
    (dss_one (ds_ret (de_ix (dv 2) (de_call c_L_draw (hr.mono (by omega)) rfl (da_cons (dv 0) (da_cons (de_ix (de_lst (da_cons de_int (da_cons de_int da_nil))) (de_callTy cd_int B.int rfl (by decide +kernel) (da_cons (de_cmp (od_eq hr.units) (de_call c_L_draw (hr.mono (by omega)) rfl (da_cons (dv 0) (da_cons de_int da_nil))) de_int (nomark _)) da_nil))) da_nil))))))), ?_⟩
  obtain ⟨d, rfl, hk, q⟩ := h
  walk_at "dd"
  intro p np
  refine abs_new np fun G1 s1 hp => ?_
  walk_at "dd"
  intro p2 np2
  refine abs_new np2 fun G2 s2 hp2 => ?_
  walk_at "dd"
  intro p3 np3
  refine abs_new np3 fun G3 s3 hp3 => ?_
  walk_at "dd"
  have hp' : G3 p = some (.lst (smalls.map .str)) := by walk_at "gq"
  have hp2' : G3 p2 = some (.lst (greats.map .str)) := by walk_at "gq"
  obtain ⟨pp, e1, e2⟩ : ∃ pp, atI [DV.ref p, .ref p2] (g : Int) = some (.ref pp) ∧ G3 pp = some (.lst ((if g = 0 then smalls else greats).map .str)) := by
    have hg' : g = 0 ∨ g = 1 := by omega
    rcases hg' with rfl | rfl
    · exact ⟨p, atI_nat (j := 0) rfl, hp'⟩
    · exact ⟨p2, atI_nat (j := 1) rfl, hp2'⟩
  have l8 : ((if g = 0 then smalls else greats).map DV.str).length = 8 := by
    have hg' : g = 0 ∨ g = 1 := by omega
    rcases hg' with rfl | rfl <;> rfl
  refine w_ixL hp3 e1 ?_
  walk_at "dd"
  intro p4 np4
  refine abs_new np4 fun G4 s4 hp4 => ?_
  walk_at "dd"
  refine ⟨d, 3, rfl, by walk_at "gk", by decide, by decide, fun r r0 r1 => ?_⟩
  walk_at "dd"
  refine w_ixL hp4 (int2 (decide (r = 2))) ?_
  obtain ⟨m, hm, em⟩ : ∃ m : Int, (0 < m ∧ m ≤ 8) ∧ (if decide (r = 2) = true then DV.int 8 else DV.int 3) = .int m := by
    cases decide (r = 2)
    · exact ⟨3, by decide, rfl⟩
    · exact ⟨8, by decide, rfl⟩
  rw [em]
  walk_at "dd"
  refine ⟨d, m, rfl, by walk_at "gk", by omega, by omega, fun u u0 u1 => ?_⟩
  obtain ⟨x, hx, ha⟩ := pick (xs := (if g = 0 then smalls else greats).map DV.str) (n := 8) u0 (by omega) l8
  obtain ⟨z, hz, rfl⟩ := List.mem_map.mp hx
  refine w_ixL (by walk_at "gq") ha ?_
  exact ⟨G, by walk_at "gs", q z hz⟩
abbrev N_L_kind : List Str := ["_law_deck_here", "_law_left", "_law_deep", "_law_way", "_law_take"]
theorem sc_L_kind : FnScope N_L_kind A_L_kind (defScope s_L_kind) := ⟨rfl, rfl, rfl, by decide +kernel, rfl, by decide +kernel, by decide +kernel⟩
theorem h_L_kind {k : Nat} (a : At K mg "_law_kind" s_L_kind A_L_kind) (B : BI mg) (c_L_draw : Has P w K mg base 2 "_law_draw" A_L_draw SP_draw) (c_L_name : Has P w K mg base 3 "_law_name" A_L_name (SP_name 0)) (c_L_kind : Has P w K mg base (2 * k + 2) "_law_kind" A_L_kind (SP_kind (k - 1))) (c_L_stack : Has P w K mg base (2 * k + 3) "_law_stack" A_L_stack (SP_stack (k - 1))) : Has P w K mg base (2 * k + 4) "_law_kind" A_L_kind (SP_kind k) := by
  refine at_mk a sc_L_kind fun f cdv A outer s H E hr ds G R hl h => ?_
  refine ⟨_, (dss_cons (ds_asg (de_op od_sub (de_ix (dv 1) de_int) de_int) (dg_sub (dv 1) de_int))
    (dss_cons (ds_set (i := 3) sc_L_kind.nd rfl (.inl rfl) (de_call c_L_draw (hr.mono (by omega)) rfl (da_cons (dv 0) (da_cons de_int da_nil))))
    (dss_cons (ds_if (dt_w (dw_or (dt_cmp (od_eq hr.units) (dv 2) de_int (nomark _)) (dw_or (dt_cmp od_lt (de_ix (dv 1) de_int) de_int (nomark _)) (dw_or1 (dt_cmp od_lt (dv 3) de_int (nomark _)))))) (dss_cons (ds_if (dt_cmp (od_eq hr.units) (de_op od_mod (dv 3) de_int) de_int (nomark _)) (dss_one (ds_ret (de_tup (da_cons de_str da_nil)))) dss_nil)
      (dss_one (ds_ret (de_tup (da_cons de_str (da_cons (de_call c_L_name (hr.mono (by omega)) rfl (da_cons (dv 0) (da_cons de_int da_nil))) da_nil)))))) dss_nil)
    (dss_cons (ds_if (dt_cmp (od_eq hr.units) (dv 3) de_int (nomark _)) (dss_one (ds_ret (de_tup (da_cons de_str (da_cons (de_call c_L_kind (hr.mono (by omega)) rfl (da_cons (dv 0) (da_cons (dv 1) (da_cons (de_op od_sub (dv 2) de_int) da_nil)))) da_nil))))) dss_nil)
    (dss_cons (ds_set (i := 4) sc_L_kind.nd rfl (.inl rfl) (de_call c_L_stack (hr.mono (by omega)) rfl (da_cons (dv 0) (da_cons (dv 1) (da_cons (de_op od_sub (dv 2) de_int) da_nil)))))
    (dss_one (ds_ret (de_tup (da_cons de_str (da_cons (dv 4) (da_cons (de_call c_L_stack (hr.mono (by omega)) rfl (da_cons (dv 0) (da_cons (dv 1) (da_cons (de_op od_sub (dv 2) de_int) da_nil)))) da_nil))))))))))), ?_⟩
  obtain ⟨d, l, n, j, rfl, rfl, hk, hl1, n1, q⟩ := h
  walk_at "dd"
  refine w_ixL hl1 (atI_nat (j := 0) rfl) ?_
  walk_at "dd"
  refine bset_0 hl1 ?_
  have hk1 := dk_puts hk (o := .lst [.int (n - 1)]) hl1
  have hl2 : dupd G l (.lst [.int (n - 1)]) l = some (.lst [.int (n - 1)]) := dupd_same
  have q1 : ∀ kd, GK j 1 kd → R (eK kd) (dupd G l (.lst [.int (n - 1)])) := fun kd g => q kd _ ⟨g.dp, by have := g.sz; omega, g.nm⟩ (by omega)
  have q2 : ∀ kd n', GK j (n - n') kd → -(j : Int) ≤ n' → R (eK kd) (dupd (dupd G l (.lst [.int (n - 1)])) l (.lst [.int n'])) := fun kd n' g e => by rw [lst_put]; exact q kd n' g e
  clear q hk
  generalize dupd G l (.lst [.int (n - 1)]) = G1 at hk1 hl2 q1 q2
  walk_at "dd"
  refine ⟨d, 8, rfl, hk1, by decide, by decide, fun r r0 r1 => ?_⟩
  walk_at "dd"
  refine w_iteD (fun _ => ?_) (fun h0 => ?_)
  · walk_at "dd"
    refine w_iteD (fun _ => ?_) (fun _ => ?_)
    · walk_at "dd"
      exact Less.of (q1 .num ⟨Nat.zero_le _, rfl, trivial⟩)
    · walk_at "dd"
      refine ⟨d, rfl, hk1, fun z hz => ?_⟩
      walk_at "dd"
      exact Less.of (q1 (.opn z) ⟨Nat.zero_le _, rfl, hz⟩)
  walk_at "dd"
  refine w_ixL hl2 (atI_nat (j := 0) rfl) ?_
  walk_at "dd"
  refine w_iteD (fun _ => ?_) (fun h4 => ?_)
  · walk_at "dd"
    refine w_iteD (fun _ => ?_) (fun _ => ?_)
    · walk_at "dd"
      exact Less.of (q1 .num ⟨Nat.zero_le _, rfl, trivial⟩)
    · walk_at "dd"
      refine ⟨d, rfl, hk1, fun z hz => ?_⟩
      walk_at "dd"
      exact Less.of (q1 (.opn z) ⟨Nat.zero_le _, rfl, hz⟩)
  walk_at "dd"
  refine w_iteD (fun _ => ?_) (fun _ => ?_)
  · walk_at "dd"
    refine w_iteD (fun _ => ?_) (fun _ => ?_)
    · walk_at "dd"
      exact Less.of (q1 .num ⟨Nat.zero_le _, rfl, trivial⟩)
    · walk_at "dd"
      refine ⟨d, rfl, hk1, fun z hz => ?_⟩
      walk_at "dd"
      exact Less.of (q1 (.opn z) ⟨Nat.zero_le _, rfl, hz⟩)
  walk_at "dd"
  obtain ⟨i, rfl⟩ : ∃ i, j = i + 1 := ⟨j - 1, by omega⟩
  have ei : (((i + 1 : Nat) : Int) - 1) = (i : Int) := by omega
  refine w_iteD (fun _ => ?_) (fun _ => ?_)
  · walk_at "dd"
    refine ⟨d, l, _, i, rfl, by rw [ei], hk1, hl2, by omega, fun kd n' g e => ?_⟩
    walk_at "dd"
    exact Less.of (q2 (.lst kd) n' ⟨by have := g.dp; show 1 + _ ≤ _; omega, by have := g.sz; show ((1 + szK kd : Nat) : Int) = _; omega, g.nm⟩ (by omega))
  · walk_at "dd"
    refine ⟨d, l, _, i, rfl, by rw [ei], hk1, hl2, fun s1 n1 g1 e1 => ?_⟩
    walk_at "dd"
    refine ⟨d, l, n1, i, rfl, by rw [ei], dk_puts hk1 hl2, dupd_same, fun s2 n2 g2 e2 => ?_⟩
    walk_at "dd"
    rw [lst_put]
    exact Less.of (q2 (.row s1 s2) n2 ⟨by have := g1.dp; have := g2.dp; show 1 + max _ _ ≤ _; omega, by have := g1.sz; have := g2.sz; show ((1 + szS s1 + szS s2 : Nat) : Int) = _; omega, g1.nm, g2.nm⟩ (by omega))
abbrev N_L_stack : List Str := ["_law_deck_here", "_law_left", "_law_deep", "_law_rest", "_law_kinds", "_law_k"]
theorem sc_L_stack : FnScope N_L_stack A_L_stack (defScope s_L_stack) := ⟨rfl, rfl, rfl, by decide +kernel, rfl, by decide +kernel, by decide +kernel⟩
theorem h_L_stack {k : Nat} (hj3 : k ≤ 4) (a : At K mg "_law_stack" s_L_stack A_L_stack) (B : BI mg) (c_L_name : Has P w K mg base 3 "_law_name" A_L_name (SP_name 1)) (c_L_draw : Has P w K mg base 2 "_law_draw" A_L_draw SP_draw) (c_L_kind : Has P w K mg base (2 * k + 4) "_law_kind" A_L_kind (SP_kind k)) : Has P w K mg base (2 * k + 5) "_law_stack" A_L_stack (SP_stack k) := by
  have hj : ∀ j, k = j + 1 → j ≤ 3 := fun j e => by omega
  refine at_mk a sc_L_stack fun f cdv A outer s H E hr ds G R hl h => ?_
  refine ⟨_, (dss_cons (ds_asg (de_op od_sub (de_ix (dv 1) de_int) de_int) (dg_sub (dv 1) de_int))
    (dss_cons (ds_set (i := 3) sc_L_stack.nd rfl (.inl rfl) (de_call c_L_name (hr.mono (by omega)) rfl (da_cons (dv 0) (da_cons de_int da_nil))))
    (dss_cons (ds_set (i := 4) sc_L_stack.nd rfl (.inl rfl) (de_lst da_nil))
    (dss_cons (ds_for PassesOwn.never rfl (di_range B.range rfl (da_cons (de_ix (de_lst (da_cons de_int (da_cons de_int (da_cons de_int (da_cons de_int (da_cons de_int (da_cons de_int da_nil))))))) (de_call c_L_draw (hr.mono (by omega)) rfl (da_cons (dv 0) (da_cons de_int da_nil)))) da_nil)) (dg_name (i := 5) sc_L_stack.nd rfl (.inl rfl)) (dss_one (ds_if (dt_cmp od_gt (de_ix (dv 1) de_int) de_int (nomark _)) (dss_one (ds_expr (de_bm PySem.F.plainAttrs_list PySem.F.slot_list_append PySem.F.type_list_append md_append (dv 4) (da_cons (de_call c_L_kind (hr.mono (by omega)) rfl (da_cons (dv 0) (da_cons (dv 1) (da_cons (dv 2) da_nil)))) da_nil)))) dss_nil)))
    (dss_one (ds_ret (de_tup (da_cons (dv 3) (da_cons (de_callTy cd_tuple B.tup rfl (by decide +kernel) (da_cons (dv 4) da_nil)) da_nil))))))))), ?_⟩
  obtain ⟨d, l, n, j, rfl, rfl, hk, hl1, q⟩ := h
  walk_at "dd"
  refine w_ixL hl1 (atI_nat (j := 0) rfl) ?_
  walk_at "dd"
  refine bset_0 hl1 ?_
  have hk1 := dk_puts hk (o := .lst [.int (n - 1)]) hl1
  have hl2 : dupd G l (.lst [.int (n - 1)]) l = some (.lst [.int (n - 1)]) := dupd_same
  have q2 : ∀ s n', GS j (n - n') s → (-(j : Int) ≤ n' ∨ n - 1 ≤ n') → R (eS s) (dupd (dupd G l (.lst [.int (n - 1)])) l (.lst [.int n'])) := fun kd n' g e => by rw [lst_put]; exact q kd n' g e
  clear q hk
  generalize dupd G l (.lst [.int (n - 1)]) = G1 at hk1 hl2 q2
  walk_at "dd"
  refine ⟨d, rfl, hk1, fun z hz => ?_⟩
  walk_at "dd"
  intro p np
  refine abs_new np fun G2 s2 hp => ?_
  walk_at "dd"
  intro p2 np2
  refine abs_new np2 fun G3 s3 hp2 => ?_
  walk_at "dd"
  refine ⟨d, 6, rfl, by walk_at "gk", by decide, by decide, fun r r0 r1 => ?_⟩
  obtain ⟨x, hx, ha⟩ := pick (xs := [DV.int 0, .int 1, .int 2, .int 1, .int 3, .int 6]) (n := 6) r0 r1 rfl
  obtain ⟨m, hm, rfl⟩ : ∃ m : Nat, m ≤ 6 ∧ x = .int (m : Int) := by
    simp only [List.mem_cons, List.not_mem_nil, or_false] at hx
    rcases hx with rfl | rfl | rfl | rfl | rfl | rfl
    · exact ⟨0, by decide, rfl⟩
    · exact ⟨1, by decide, rfl⟩
    · exact ⟨2, by decide, rfl⟩
    · exact ⟨1, by decide, rfl⟩
    · exact ⟨3, by decide, rfl⟩
    · exact ⟨6, by decide, rfl⟩
  refine w_ixL hp2 ha ?_
  walk_at "dd"
  refine wx_rng (by omega) (by omega) ?_
  have np1 : G1 p = none := np
  refine for_by (fun i δ G' => ∃ (x5 : Option DV) (ks : List Kd) (n' : Int), δ = [some (.ref d), some (.ref l), some (.int (j : Int)), some (.str z), some (.ref p), x5] ∧ HasDk G' d ∧ G' l = some (.lst [.int n']) ∧ G' p = some (.lst (eKs ks)) ∧ GKs j (n - 1 - n') ks ∧ (-(j : Int) ≤ n' ∨ n - 1 ≤ n') ∧ ks.length ≤ i ∧ Sub (dupd G1 l (.lst [.int n'])) G') (fun _ _ _ _ => trivial) ⟨none, [], _, rfl, by walk_at "gk", by walk_at "gq", by walk_at "gq", ⟨Nat.zero_le _, by show (0 : Int) = _; omega, trivial⟩, .inr (Int.le_refl _), Nat.le_refl 0, ?_⟩ ?_ ?_
  · rw [dupd_self hl2]; walk_at "gs"
  · rintro i dd δ G' hdd ⟨x5, ks, n', rfl, hk', hl', hp', gk, en, kl, sG⟩
    have hi : i < m := by have := (List.getElem?_eq_some_iff.mp hdd).1; rw [rng_len] at this; omega
    walk_at "dd"
    refine w_ixL hl' (atI_nat (j := 0) rfl) ?_
    walk_at "dd"
    refine w_iteD (fun h0 => ?_) (fun _ => ?_)
    · walk_at "dd"
      refine ⟨d, l, n', j, rfl, rfl, hk', hl', by omega, fun kd n2 g e2 => ?_⟩
      have pl : p ≠ l := fun z => by rw [z] at np1; rw [np1] at hl2; cases hl2
      have hp3 : dupd G' l (.lst [.int n2]) p = some (.lst (eKs ks)) := by rw [dupd_ne pl]; exact hp'
      have hk3 := dk_puts hk' (o := .lst [.int n2]) hl'
      walk_at "dd"
      refine w_app hp3 (by rw [eKs_len]; exact midlt (by omega)) ?_
      walk_at "dd"
      refine ⟨_, ks ++ [kd], n2, rfl, hk3.put (hk3.ne hp3), by rw [dupd_ne (Ne.symm pl)]; exact dupd_same, by rw [dupd_same, eKs_app]; rfl, gk.snoc g (by omega), .inl e2, by rw [List.length_append, List.length_singleton]; omega, ?_⟩
      have s4 : Sub (dupd G1 l (.lst [.int n2])) (dupd G' l (.lst [.int n2])) := by
        have := Sub.set (p := l) (o := .lst [.int n2]) sG
        rw [dupd_dupd] at this
        exact this
      exact s4.new (by rw [dupd_ne pl]; exact np1)
    · walk_at "dd"
      exact ⟨_, ks, n', rfl, hk', hl', hp', gk, en, by omega, sG⟩
  · rintro δ G' ⟨x5, ks, n', rfl, hk', hl', hp', gk, en, kl, sG⟩
    walk_at "dd"
    exact ⟨_, sG, q2 (.mk z ks) n' ⟨gk.dp, by have := gk.sz; show ((1 + szKs ks : Nat) : Int) = _; omega, hz, gk.nm⟩ en⟩
/-- drawn kinds and stacks of them, at every depth -/
theorem all_ks (aK : At K mg "_law_kind" s_L_kind A_L_kind) (aS : At K mg "_law_stack" s_L_stack A_L_stack) (B : BI mg) (cd : Has P w K mg base 2 "_law_draw" A_L_draw SP_draw) (cn : ∀ g, g ≤ 1 → Has P w K mg base 3 "_law_name" A_L_name (SP_name g)) :
    ∀ k, k ≤ 4 → Has P w K mg base (2 * k + 4) "_law_kind" A_L_kind (SP_kind k) ∧ Has P w K mg base (2 * k + 5) "_law_stack" A_L_stack (SP_stack k) := by
  intro k
  induction k with
  | zero =>
    intro _
    have t : Has P w K mg base (2 * 0 + 4) "_law_kind" A_L_kind (SP_kind 0) := by
      refine at_mk aK sc_L_kind fun f cdv A outer s H E hr ds G R hl h => ?_
      obtain ⟨d, l, n, j, e, _⟩ := h
      exact absurd e (by omega)
    exact ⟨t, h_L_stack (by omega) aS B (cn 1 (by omega)) cd t⟩
  | succ k ih =>
    intro hk
    have ih := ih (by omega)
    have t : Has P w K mg base (2 * (k + 1) + 4) "_law_kind" A_L_kind (SP_kind (k + 1)) := h_L_kind aK B cd (cn 0 (by omega)) ih.1 ih.2
    exact ⟨t, h_L_stack hk aS B (cn 1 (by omega)) cd t⟩
def SP_row_kind : DSp := fun ds G R => ∃ d, ds = [.ref d] ∧ HasDk G d ∧ ∀ s t c e, GS 3 c s → c ≤ 23 → GS 3 e t → e ≤ 23 → R (eR (s, t)) G
abbrev N_L_row_kind : List Str := ["_law_deck_here", "_law_left", "_law_take"]
abbrev A_L_row_kind : List Str := ["_law_deck_here"]
theorem sc_L_row_kind : FnScope N_L_row_kind A_L_row_kind (defScope s_L_row_kind) := ⟨rfl, rfl, rfl, by decide +kernel, rfl, by decide +kernel, by decide +kernel⟩
theorem h_L_row_kind (a : At K mg "_law_row_kind" s_L_row_kind A_L_row_kind) (B : BI mg) (c_L_stack : Has P w K mg base 13 "_law_stack" A_L_stack (SP_stack 4)) : Has P w K mg base 14 "_law_row_kind" A_L_row_kind SP_row_kind := by
  refine at_mk a sc_L_row_kind fun f cdv A outer s H E hr ds G R hl h => ?_
  refine ⟨_, (dss_cons (ds_set (i := 1) sc_L_row_kind.nd rfl (.inl rfl) (de_lst (da_cons de_int da_nil)))
    (dss_cons (ds_set (i := 2) sc_L_row_kind.nd rfl (.inl rfl) (de_call c_L_stack (hr.mono (by omega)) rfl (da_cons (dv 0) (da_cons (dv 1) (da_cons de_int da_nil)))))
    (dss_cons (ds_set (i := 1) sc_L_row_kind.nd rfl (.inl rfl) (de_lst (da_cons de_int da_nil)))
    (dss_one (ds_ret (de_tup (da_cons (dv 2) (da_cons (de_call c_L_stack (hr.mono (by omega)) rfl (da_cons (dv 0) (da_cons (dv 1) (da_cons de_int da_nil)))) da_nil)))))))), ?_⟩
  obtain ⟨d, rfl, hk, q⟩ := h
  walk_at "dd"
  intro p np
  refine abs_new np fun G1 s1 hp => ?_
  walk_at "dd"
  refine ⟨d, p, 20, 3, rfl, rfl, by walk_at "gk", hp, fun s n g e1 => ?_⟩
  refine abs_upd hp fun G2 u2 hp2 => ?_
  walk_at "dd"
  intro p2 np2
  refine abs_new np2 fun G3 s3 hp3 => ?_
  walk_at "dd"
  refine ⟨d, p2, 20, 3, rfl, rfl, by walk_at "gk", hp3, fun t n2 g' e2 => ?_⟩
  refine abs_upd hp3 fun G4 u4 hp4 => ?_
  walk_at "dd"
  exact ⟨G, by walk_at "gs", q s t _ _ g (by omega) g' (by omega)⟩
end
end K18
/-! names of open things and rests -/
namespace DD
open PySem PySem.W L2 SX Cm
theorem S_tl (z : Str) : S (TL.tl z) = z := by
  obtain ⟨a⟩ := z
  show (⟨a.toList.toArray⟩ : Str) = ⟨a⟩
  rw [Array.toArray_toList]
theorem S_inj' {x y : List Nat} (h : S x = S y) : x = y := S_inj h
theorem hszS {y : List Nat} (h : y.length ≤ 1000) : (S y).length ≤ sizeLine := by rw [S_len]; exact Nat.le_of_lt (small1000 h)
theorem cutS_from {a : List Nat} {i : Int} (h : 0 ≤ i) : cutS (S a) (some i) none = S (a.drop i.toNat) := by
  obtain ⟨n, rfl⟩ := Int.eq_ofNat_of_zero_le h
  unfold cutS
  rw [HT.sIx_none, HT.sIx_nat, S_len]
  show S (List.take (a.length - min n a.length) (List.drop (min n a.length) a)) = S (a.drop n)
  by_cases h : n ≤ a.length
  · rw [Nat.min_eq_left h, List.take_of_length_le (by rw [List.length_drop]; omega)]
  · rw [Nat.min_eq_right (by omega), List.drop_eq_nil_of_le (Nat.le_refl a.length), List.drop_eq_nil_of_le (show a.length ≤ n by omega), List.take_nil]
theorem decL (x y : List Nat) : decide (S x = S y) = decide (x = y) := by
  by_cases h : x = y
  · rw [decide_eq_true h, decide_eq_true (by rw [h])]
  · rw [decide_eq_false h, decide_eq_false (fun q => h (S_inj q))]
theorem e_nil : ("" : Str) = S [] := by decide +kernel
theorem e_0 : ("0" : Str) = S [48] := by decide +kernel
def figs : List Nat := [48, 49, 50, 51, 52, 53, 54, 55, 56, 57]
theorem e_figs : ("0123456789" : Str) = S figs := by decide +kernel
def azs : List Nat := [97, 98, 99, 100, 101, 102, 103, 104, 105, 106, 107, 108, 109, 110, 111, 112, 113, 114, 115, 116, 117, 118, 119, 120, 121, 122]
def AZs : List Nat := [65, 66, 67, 68, 69, 70, 71, 72, 73, 74, 75, 76, 77, 78, 79, 80, 81, 82, 83, 84, 85, 86, 87, 88, 89, 90]
theorem e_az : ("abcdefghijklmnopqrstuvwxyz" : Str) = S azs := by decide +kernel
theorem e_AZ : ("ABCDEFGHIJKLMNOPQRSTUVWXYZ" : Str) = S AZs := by decide +kernel
/-- figures, no nought ahead but in 0 itself -/
def figB (x : List Nat) : Bool := match x with
  | [] => false
  | c :: r => ((c :: r).all fun s => decide (s ∈ figs)) && (decide (c :: r = [48]) || !decide (c = 48))
/-- a letter of these, perhaps with figures behind -/
def nmB (ls : List Nat) (x : List Nat) : Bool := match x with
  | [] => false
  | c :: r => decide (c ∈ ls) && (decide (r = []) || (figB r && !decide (r = [48])))
def smB (z : Str) : Bool := nmB azs (TL.tl z)
def gtB (z : Str) : Bool := nmB AZs (TL.tl z)
def signD : DV → Nat
  | .str z => (TL.tl z).headD 0
  | _ => 0
theorem signs_S (x : List Nat) : signs (S x) = x.map fun c => .str ⟨#[c]⟩ := by
  unfold signs
  show (x.toArray.toList).map _ = _
  rw [List.toList_toArray]
theorem fm_signs (f : Nat → DV) : ∀ x : List Nat, (x.map fun c => DV.str ⟨#[c]⟩).filterMap (fun d => some (f (signD d))) = x.map f
  | [] => rfl
  | c :: r => by rw [List.map_cons, List.filterMap_cons_some (f := fun d => some (f (signD d))) (b := f c) rfl, fm_signs f r]; rfl
theorem atI_0 {x : List Nat} {c : Nat} {r : List Nat} (h : x = c :: r) : atI (S x).cps.toList (0 : Int) = some c := by
  subst h
  exact atI_nat (j := 0) rfl
end DD
set_option maxHeartbeats 1000000
namespace K18
open PySem PySem.W L2 SX Cm DD
local macro_rules | `(tactic| walk_at "d1") => `(tactic| first | (with_reducible refine w_seq ?_) | (with_reducible refine w_next ?_) | ((with_reducible show dVar _ _ _ _); refine w_var rfl ?_) | (with_reducible refine w_asg ?_) | (with_reducible refine w_cons ?_) | (with_reducible refine w_nil ?_) | (with_reducible refine w_c ?_) | (with_reducible refine w_op ?_) | (with_reducible refine w_call ?_) | (with_reducible refine w_CB ?_) | (with_reducible refine w_ret ?_) | (with_reducible refine w_ifS ?_) | (with_reducible refine w_drop ?_) | (with_reducible refine w_tup ?_) | (with_reducible refine w_lst ?_) | (with_reducible refine w_sl ?_) | (with_reducible refine w_none ?_) | (with_reducible refine w_some ?_) | (with_reducible refine w_BM ?_) | (with_reducible refine w_BM0 ?_) | (with_reducible refine w_test ?_) | (with_reducible refine w_tru ?_) | (with_reducible refine w_and ?_) | (with_reducible refine w_or ?_) | (with_reducible refine w_not ?_) | (with_reducible refine w_yes ?_) | (with_reducible refine w_ifE ?_) | (with_reducible refine w_andV ?_) | (with_reducible refine w_orV ?_) | (with_reducible refine w_notV ?_) | (with_reducible refine w_neg ?_) | (with_reducible refine w_rev ?_) | (with_reducible refine w_exI ?_) | (with_reducible refine w_exB ?_) | (with_reducible refine w_exT ?_) | (with_reducible refine w_exS ?_) | (with_reducible refine w_parE ?_) | (with_reducible refine w_par ?_) | (with_reducible refine w_asgS ?_) | (with_reducible refine w_retN ?_) | (with_reducible refine w_break ?_) | (with_reducible refine w_cont ?_) | (with_reducible refine w_truB ?_) | (with_reducible refine w_truI ?_) | (with_reducible refine w_truN ?_) | (with_reducible refine w_truT ?_) | (with_reducible refine w_addI ?_) | (with_reducible refine w_subI ?_) | (with_reducible refine w_cmpI ?_) | (with_reducible refine w_cmpS ?_) | (with_reducible refine w_eqSS ?_) | (with_reducible refine w_eqII ?_) | (with_reducible refine w_eqBB ?_) | (with_reducible refine w_neSS ?_) | (with_reducible refine w_neII ?_) | (with_reducible refine w_neBB ?_) | (with_reducible refine w_eqSN ?_) | (with_reducible refine w_eqIN ?_) | (with_reducible refine w_eqSI ?_) | (with_reducible refine w_eqIS ?_) | (with_reducible refine w_eqNS ?_) | (with_reducible refine w_eqBS ?_) | (with_reducible refine w_eqT0 ?_) | (with_reducible refine w_ix0 ?_) | (with_reducible refine w_ix1 ?_) | (with_reducible refine w_ix2 ?_) | (with_reducible refine w_ix3 ?_) | (with_reducible refine w_slT ?_) | (with_reducible refine w_lenT ?_) | (with_reducible refine w_intB ?_) | (with_reducible refine w_intI ?_) | (with_reducible refine w_tupT ?_) | (with_reducible refine w_rcvS ?_) | (with_reducible refine ly1 ?_) | (with_reducible refine ly2 ?_) | (with_reducible refine lt1' ?_) | (with_reducible refine lt2' ?_) | (with_reducible refine g_n ?_) | (with_reducible refine w_isN ?_) | (with_reducible refine w_isnN ?_) | (with_reducible refine w_for ?_) | (with_reducible refine w_lc ?_) | (with_reducible refine wi_tup ?_) | (with_reducible refine wi_lst ?_) | (with_reducible refine wi_str ?_) | (with_reducible refine wi_rng ?_) | (with_reducible refine wi_rng2 ?_) | (with_reducible refine wi_enumT ?_) | (with_reducible refine wi_enum ?_) | (with_reducible refine wi_rev ?_) | (with_reducible refine wi_revR ?_) | (with_reducible refine wx_enumT ?_) | (with_reducible refine w_callX ?_) | (with_reducible refine w_methX ?_) | (with_reducible refine w_raise ?_) | (with_reducible refine w_try ?_) | (with_reducible refine w_xSet ?_) | (with_reducible refine w_xExpr ?_) | (with_reducible refine w_xLst ?_) | (with_reducible refine w_xTup ?_) | (with_reducible refine w_xCons ?_) | (with_reducible refine w_xNil ?_) | (with_reducible refine w_xE ?_) | (with_reducible refine w_xCall ?_) | (with_reducible refine w_call0 ?_) | (with_reducible refine w_asgL ?_) | (with_reducible refine w_tupPd ?_) | (with_reducible refine wi_zip ?_) | (with_reducible refine w_dnew ?_) | (with_reducible refine w_dget ?_) | (with_reducible refine w_dget2 ?_) | (with_reducible refine w_din ?_) | (with_reducible refine w_dput ?_) | (with_reducible refine w_asgT ?_) | (with_reducible refine g_C ?_) | (with_reducible refine g_0 ?_) | (with_reducible refine w_inS ?_) | (with_reducible refine w_delT ?_) | (with_reducible refine w_dc ?_) | (with_reducible refine w_revL ?_) | (with_reducible refine wi_revT ?_) | (with_reducible refine w_lstZip ?_) | (with_reducible refine w_chain ?_) | (with_reducible refine w_orT ?_) | ((with_reducible show gT _ _ _ _ _ _); refine g_T ?_ rfl) | ((with_reducible show ∃ p, DV.ref _ = _ ∧ (∃ kvs, _) ∧ _); refine wx_get (by walk_at "gq") ?_) | ((with_reducible show ∃ kvs z, _ = _ ∧ _ = some (DO.dct _) ∧ _); refine wx_get2 (by walk_at "gq") ?_) | ((with_reducible show ∃ p kvs z, _ = _ ∧ _ = _ ∧ _ = some (DO.dct _) ∧ _); refine wx_in (by walk_at "gq") ?_) | ((with_reducible show List.length _ = _ ∧ _); refine w_len ?_ rfl) | ((with_reducible show List.length _ ≤ sizeLine ∧ _); refine w_sz ?_ (szl rfl)) | ((with_reducible show bIx _ (.int _) _ _); first | refine w_ix0 ?_ | refine w_ix1 ?_ | refine w_ix2 ?_ | refine w_ix3 ?_) | ((with_reducible show bIsi [_, _] _ _); first | refine w_isi (by decide) (a := "tuple") rfl rfl ?_ | refine w_isi (by decide) (a := "str") rfl rfl ?_ | refine w_isi (by decide) (a := "int") rfl rfl ?_ | refine w_isi (by decide) (a := "bool") rfl rfl ?_ | refine w_isi (by decide) (a := "NoneType") rfl rfl ?_) | ((with_reducible show ∃ ds, _ = DV.tup ds ∧ _); refine w_exT ?_) | ((with_reducible show ∃ z, _ = DV.str z ∧ _); refine w_exS ?_) | ((with_reducible show ∃ ds, [_] = [DV.tup ds] ∧ _); refine wx_enumT ?_) | ((with_reducible show bSl _ _ _ _ _); refine w_slT ?_) | ((with_reducible show bTuple [_] _ _); refine w_tupT ?_) | ((with_reducible show bLen [_] _ _); refine w_lenT ?_) | ((with_reducible show bTru _ _ _); first | refine w_truT ?_ | refine w_truN ?_ | refine w_truB ?_ | refine w_truI ?_) | ((with_reducible show bEq _ _ _ _ _); first | refine w_eqSS ?_ | refine w_eqII ?_ | refine w_neSS ?_ | refine w_neII ?_ | refine w_eqT0 ?_) | ((with_reducible show bInt _ _ (.int _) (.int _) _ _); refine w_int (by first | decide | exact ⟨by decide, by decide, by decide⟩ | exact .inl ⟨by decide, by decide⟩ | exact .inr ⟨by decide, by decide⟩) ?_) | ((with_reducible show if _ = true then _ else _); first | refine w_it (by first | rfl | decide +kernel) ?_ | refine w_if0 (by first | rfl | decide +kernel) ?_) | ((with_reducible show rcv "list" (.ref _) _ ∧ _); refine w_rcvL (by walk_at "gq") ?_) | ((with_reducible show bTuple [.ref _] _ _); refine w_tupL (by walk_at "gq") ?_) | ((with_reducible show bLen [.ref _] _ _); refine w_lenL (by walk_at "gq") ?_) | ((with_reducible show bTru (.ref _) _ _); refine w_truL (by walk_at "gq") ?_) | ((with_reducible show ∃ _ _, DV.ref _ = _ ∧ Ls _ _ _ ∧ _); refine wx_lst (by walk_at "gq") ?_) | ((with_reducible show ∃ _ _, [DV.ref _] = _ ∧ Ls _ _ _ ∧ _); refine wx_lstA (by walk_at "gq") ?_))
local macro_rules | `(tactic| walk_at "dd") => `(tactic| repeat (walk_at "d1"))
local macro_rules | `(tactic| walk_at "gq") => `(tactic| first | assumption | exact dupd_same | exact sub_get (by assumption) (by walk_at "gq") | exact upd_get (by assumption) (by walk_at "gq") (by walk_at "gn") | exact subx_get (by assumption) (by walk_at "gq") (by walk_at "gn") | (refine (dupd_ne ?_).trans ?_; (focus walk_at "gn"); walk_at "gq"))
local macro_rules | `(tactic| walk_at "gs") => `(tactic| first | assumption | exact Sub.refl _ | exact sub_tr (by assumption) (by walk_at "gs") | exact sub_up (by assumption) (by walk_at "gs") (by walk_at "g0") | exact sub_ux (by assumption) (by walk_at "gs") (by walk_at "g0") | (refine Sub.new ?_ ?_; (focus walk_at "gs"); walk_at "g0"))
local macro_rules | `(tactic| walk_at "gk") => `(tactic| first | assumption | exact dk_sub (by assumption) (by walk_at "gk") | exact dk_upd (by assumption) (by walk_at "gk") ⟨_, by walk_at "gq"⟩ | exact dk_updD (by assumption) (by walk_at "gk") ⟨_, by walk_at "gq"⟩)
local macro_rules | `(tactic| walk_at "gu") => `(tactic| first | assumption | exact Upd.refl _ _ | exact upd_in (by assumption) (by walk_at "gu"))
local macro_rules | `(tactic| walk_at "gx") => `(tactic| first | assumption | exact SubX.refl _ _ | exact subx_sub (by assumption) (by walk_at "gx") | exact subx_upd (by assumption) (by walk_at "gx") | exact subx_tr (by assumption) (by walk_at "gx"))
local macro_rules | `(tactic| walk_at "gn") => `(tactic| first | assumption | exact Ne.symm (by assumption) | exact ne_ns (by assumption) ⟨_, by walk_at "gq"⟩ | exact ne_sn (by assumption) ⟨_, by walk_at "gq"⟩)
local macro_rules | `(tactic| walk_at "g0") => `(tactic| first | assumption | exact nn_ (by assumption) (by walk_at "gs"))
section
variable {P : Program} {w : World} {K : Frag} {mg : Str → Option Value} {base : Heap}
def SP_fig : DSp := fun ds G R => ∃ x, ds = [.str (S x)] ∧ x.length ≤ 1000 ∧ R (.bl (figB x)) G
def SP_let : DSp := fun ds G R => ∃ ls x, ds = [.str (S x), .str (S ls)] ∧ x.length ≤ 1000 ∧ R (.bl (nmB ls x)) G
def SP_opt : DSp := fun ds G R => ∃ z, ds = [.str z] ∧ (TL.tl z).length ≤ 1000 ∧ R (.bl (smB z)) G
def SP_opr : DSp := fun ds G R => ∃ z, ds = [.str z] ∧ (TL.tl z).length ≤ 1000 ∧ R (.bl (gtB z)) G
def SP_opn : DSp := fun ds G R => ∃ z, ds = [.str z] ∧ (TL.tl z).length ≤ 1000 ∧ R (.bl (smB z || gtB z)) G
abbrev N_p_is_figures : List Str := ["text", "sign"]
abbrev A_p_is_figures : List Str := ["text"]
theorem sc_p_is_figures : FnScope N_p_is_figures A_p_is_figures (defScope s_p_is_figures) := ⟨rfl, rfl, rfl, by decide +kernel, rfl, by decide +kernel, by decide +kernel⟩
theorem h_p_is_figures (a : At K mg "is_figures" s_p_is_figures A_p_is_figures) (B : BI mg) (g_FIGURES : ∃ t, mg "FIGURES" = some (.str "0123456789" t)) : Has P w K mg base 1 "is_figures" A_p_is_figures SP_fig := by
  refine at_mk a sc_p_is_figures fun f cdv A outer s H E hr ds G R hl h => ?_
  refine ⟨_, (dss_cons (ds_if (dt_w (dw_or (dt_cmp (od_eq hr.units) (dv 0) de_str (nomark _)) (dw_or1 (dt_not (dt_e (de_callB (cd_all rfl) B.all rfl (by decide +kernel) (da_cons (de_lc (own := [("sign", 1)]) (lt1 (i := 1) (by decide)) rfl sc_p_is_figures.nd (di_str (dv 0)) (blkOk_by (own := [("sign", 1)]) (N := N_p_is_figures) (sc := defScope s_p_is_figures) (by decide +kernel)) (fun _ _ _ _ _ => pg_name (i := 1) sc_p_is_figures.nd rfl (Or.inl rfl)) (fun _ _ _ _ _ => dts_nil) (fun _ _ _ _ _ => (de_cmp od_in (dv 1) (de_gstr g_FIGURES rfl) rfl))) da_nil))))))) (dss_one (ds_ret de_bl)) dss_nil)
    (dss_one (ds_ret (de_or (de_cmp (od_eq hr.units) (dv 0) de_str (nomark _)) (de_one (de_cmp (od_ne hr.units) (de_ix (dv 0) de_int) de_str (nomark _))))))), ?_⟩
  obtain ⟨x, rfl, hl', q⟩ := h
  walk_at "dd"
  rw [e_nil, decL]
  rcases x with _ | ⟨c, r⟩
  · refine w_it (decide_eq_true rfl) ?_
    walk_at "dd"
    exact Less.of q
  refine w_if0 (decide_eq_false (by intro z; cases z)) ?_
  walk_at "dd"
  rw [signs_S]
  refine lcs_pure (fun d => some (.bl (decide (signD d ∈ figs)))) (fun _ _ => trivial) (by rw [List.length_map]; omega) ?_ ?_
  · intro d hd G' k1 k0 _ h1 h0
    obtain ⟨c', _, rfl⟩ := List.mem_map.mp hd
    walk_at "dd"
    exact h1 _ rfl
  · intro p G1 np s1 hp
    rw [fm_signs (fun c => .bl (decide (c ∈ figs))), show (fun c => DV.bl (decide (c ∈ figs))) = DV.bl ∘ fun c => decide (c ∈ figs) from rfl, ← List.map_map] at hp
    walk_at "dd"
    refine w_allL hp ?_
    have ea : (((c :: r).map fun c => decide (c ∈ figs)).all id) = (c :: r).all fun s => decide (s ∈ figs) := by rw [List.all_map]; rfl
    rw [ea]
    have q : R (.bl (((c :: r).all fun s => decide (s ∈ figs)) && (decide (c :: r = [48]) || !decide (c = 48)))) G := q
    walk_at "dd"
    cases ha : (c :: r).all fun s => decide (s ∈ figs) with
    | false =>
      rw [ha, Bool.false_and] at q
      refine w_it rfl ?_
      walk_at "dd"
      exact ⟨G, s1, q⟩
    | true =>
      rw [ha, Bool.true_and] at q
      refine w_if0 rfl ?_
      walk_at "dd"
      rw [e_0, decL]
      cases h0 : decide (c :: r = [48]) with
      | true =>
        rw [h0, Bool.true_or] at q
        refine w_it rfl ?_
        exact ⟨G, s1, q⟩
      | false =>
        rw [h0, Bool.false_or] at q
        refine w_if0 rfl ?_
        walk_at "dd"
        refine w_ixS (hszS hl') (atI_0 rfl) ?_
        walk_at "dd"
        have e : decide ((⟨#[c]⟩ : Str) = S [48]) = decide (c = 48) := by
          rw [show (⟨#[c]⟩ : Str) = S [c] from rfl, decL]
          exact decq ⟨fun h => List.head_eq_of_cons_eq h, fun h => by rw [h]⟩
        rw [e]
        exact ⟨G, s1, q⟩
abbrev N_p_is_lettered : List Str := ["thing", "letters", "figures"]
abbrev A_p_is_lettered : List Str := ["thing", "letters"]
theorem sc_p_is_lettered : FnScope N_p_is_lettered A_p_is_lettered (defScope s_p_is_lettered) := ⟨rfl, rfl, rfl, by decide +kernel, rfl, by decide +kernel, by decide +kernel⟩
theorem h_p_is_lettered (a : At K mg "is_lettered" s_p_is_lettered A_p_is_lettered) (B : BI mg) (c_p_is_figures : Has P w K mg base 1 "is_figures" A_p_is_figures SP_fig) : Has P w K mg base 2 "is_lettered" A_p_is_lettered SP_let := by
  refine at_mk a sc_p_is_lettered fun f cdv A outer s H E hr ds G R hl h => ?_
  refine ⟨_, (dss_cons (ds_if (dt_w (dw_or (dt_not (dt_e (de_callB cd_isi B.isi rfl (by decide +kernel) (da_cons (dv 0) (da_cons (de_ty (n := "str") B.str rfl (by decide +kernel)) da_nil))))) (dw_or (dt_cmp (od_eq hr.units) (dv 0) de_str (nomark _)) (dw_or1 (dt_cmp od_notin (de_ix (dv 0) de_int) (dv 1) rfl))))) (dss_one (ds_ret de_bl)) dss_nil)
    (dss_cons (ds_set (i := 2) sc_p_is_lettered.nd rfl (.inl rfl) (de_slice (dv 0) (do_some de_int) do_none))
    (dss_one (ds_ret (de_or (de_cmp (od_eq hr.units) (dv 2) de_str (nomark _)) (de_one (de_and (de_call c_p_is_figures (hr.mono (by omega)) rfl (da_cons (dv 2) da_nil)) (de_one (de_cmp (od_ne hr.units) (dv 2) de_str (nomark _)))))))))), ?_⟩
  obtain ⟨ls, x, rfl, hl', q⟩ := h
  walk_at "dd"
  rw [e_nil, decL]
  rcases x with _ | ⟨c, r⟩
  · refine w_it (decide_eq_true rfl) ?_
    walk_at "dd"
    exact Less.of q
  refine w_if0 (decide_eq_false (by intro z; cases z)) ?_
  walk_at "dd"
  refine w_ixS (hszS hl') (atI_0 rfl) ?_
  walk_at "dd"
  have q : R (.bl (decide (c ∈ ls) && (decide (r = []) || (figB r && !decide (r = [48]))))) G := q
  show if (!decide (c ∈ (S ls).cps.toList)) = true then _ else _
  rw [show (S ls).cps.toList = ls from List.toList_toArray]
  cases hc : decide (c ∈ ls) with
  | false =>
    rw [hc, Bool.false_and] at q
    refine w_it rfl ?_
    walk_at "dd"
    exact Less.of q
  | true =>
    rw [hc, Bool.true_and] at q
    refine w_if0 rfl ?_
    walk_at "dd"
    refine w_slS (hszS hl') ?_
    rw [cutS_from (show (0 : Int) ≤ 1 by decide), show (c :: r).drop (1 : Int).toNat = r from rfl]
    walk_at "dd"
    rw [decL]
    have hr' : r.length ≤ 1000 := by rw [List.length_cons] at hl'; omega
    cases h0 : decide (r = []) with
    | true =>
      rw [h0, Bool.true_or] at q
      refine w_it rfl ?_
      exact Less.of q
    | false =>
      rw [h0, Bool.false_or] at q
      refine w_if0 rfl ?_
      walk_at "dd"
      refine ⟨r, rfl, hr', ?_⟩
      walk_at "dd"
      cases hf : figB r with
      | false =>
        rw [hf, Bool.false_and] at q
        refine w_if0 rfl ?_
        exact Less.of q
      | true =>
        rw [hf, Bool.true_and] at q
        refine w_it rfl ?_
        walk_at "dd"
        rw [e_0, decL]
        exact Less.of q
abbrev N_p_is_open_thing : List Str := ["thing"]
abbrev A_p_is_open_thing : List Str := ["thing"]
theorem sc_p_is_open_thing : FnScope N_p_is_open_thing A_p_is_open_thing (defScope s_p_is_open_thing) := ⟨rfl, rfl, rfl, by decide +kernel, rfl, by decide +kernel, by decide +kernel⟩
theorem h_p_is_open_thing (a : At K mg "is_open_thing" s_p_is_open_thing A_p_is_open_thing) (B : BI mg) (c_p_is_lettered : Has P w K mg base 2 "is_lettered" A_p_is_lettered SP_let) (g_SMALL_LETTERS : ∃ t, mg "SMALL_LETTERS" = some (.str "abcdefghijklmnopqrstuvwxyz" t)) : Has P w K mg base 3 "is_open_thing" A_p_is_open_thing SP_opt := by
  refine at_mk a sc_p_is_open_thing fun f cdv A outer s H E hr ds G R hl h => ?_
  refine ⟨_, (dss_one (ds_ret (de_call c_p_is_lettered (hr.mono (by omega)) rfl (da_cons (dv 0) (da_cons (de_gstr g_SMALL_LETTERS rfl) da_nil))))), ?_⟩
  obtain ⟨z, rfl, hl', q⟩ := h
  walk_at "dd"
  exact ⟨azs, TL.tl z, by rw [DD.S_tl, e_az], hl', Less.of q⟩
abbrev N_p_is_open_rest : List Str := ["thing"]
abbrev A_p_is_open_rest : List Str := ["thing"]
theorem sc_p_is_open_rest : FnScope N_p_is_open_rest A_p_is_open_rest (defScope s_p_is_open_rest) := ⟨rfl, rfl, rfl, by decide +kernel, rfl, by decide +kernel, by decide +kernel⟩
theorem h_p_is_open_rest (a : At K mg "is_open_rest" s_p_is_open_rest A_p_is_open_rest) (B : BI mg) (c_p_is_lettered : Has P w K mg base 2 "is_lettered" A_p_is_lettered SP_let) (g_GREAT_LETTERS : ∃ t, mg "GREAT_LETTERS" = some (.str "ABCDEFGHIJKLMNOPQRSTUVWXYZ" t)) : Has P w K mg base 3 "is_open_rest" A_p_is_open_rest SP_opr := by
  refine at_mk a sc_p_is_open_rest fun f cdv A outer s H E hr ds G R hl h => ?_
  refine ⟨_, (dss_one (ds_ret (de_call c_p_is_lettered (hr.mono (by omega)) rfl (da_cons (dv 0) (da_cons (de_gstr g_GREAT_LETTERS rfl) da_nil))))), ?_⟩
  obtain ⟨z, rfl, hl', q⟩ := h
  walk_at "dd"
  exact ⟨AZs, TL.tl z, by rw [DD.S_tl, e_AZ], hl', Less.of q⟩
end
end K18
/-! tuples kept as the objects that were made: dict of a tuple of pairs; zip; calls of what a local name holds -/
namespace DD
open PySem PySem.W L2 SX Cm
section
variable {K : Frag} {H : Hp}
theorem wd_ptp {G : DG} {p : Addr} {ds : List DV} (w : Wd K H G) (e : G p = some (.ptp ds)) : ∃ o xs, o.dict = Option.none ∧ H p = some (.frz o (.tup xs)) ∧ RVs K H xs ds := by
  obtain ⟨O, w⟩ := w
  exact w.ob p _ e
theorem rv_ptp {G : DG} {p : Addr} {ds : List DV} (w : Wd K H G) (e : G p = some (.ptp ds)) : RV K H (.ref p) (.tup ds) := by
  obtain ⟨o, xs, _, h, r⟩ := wd_ptp w e
  exact .tup (.inl (.inr ⟨o, h⟩)) r
end
section
variable {X : Cx}
/-- tuple of a list, kept -/
def bTupP : DC
  | [.ref p], G, Q => ∃ ds, Ls G p ds ∧ ∀ r, G r = none → Q (.ref r) (dupd G r (.ptp ds))
  | _, _, _ => False
theorem cd_tupP : CallD X (.type "tuple") bTupP := by
  refine ⟨_, call_tuple_ofD, fun ds vs H G R Q r w h f => ?_⟩
  cases r with
  | nil => exact h.elim
  | cons rv rt =>
    cases rt with
    | cons _ _ => cases rv <;> exact h.elim
    | nil =>
      cases rv with
      | ref p =>
        obtain ⟨ds, ls, q⟩ := h
        obtain ⟨us, hs, r⟩ := wd_seq w ls
        refine ⟨p, us, rfl, hs, fun l o nl nd => ?_⟩
        have s' := same_new nl (.frz o (.tup us))
        exact f _ _ _ _ (q l (w.free nl)) (TKs.of s') (w.new nl fun O => ⟨o, us, nd, upd_same, r.mono (.of s')⟩) (.ref l)
      | _ => exact h.elim
/-- such a tuple as a value -/
def dVarT (i : Nat) : TD := fun δ G Q => ∃ p ds, δ[i]? = some (some (.ref p)) ∧ G p = some (.ptp ds) ∧ Q (.tup ds) G
theorem dvT (i : Nat) {x : Str} {pos : Pos} (hN : X.N[i]? = some x := by rfl) (hv : Vis X.env.scope x := by first | exact Or.inl rfl | exact Or.inr (Or.inl rfl) | exact Or.inr (Or.inr rfl)) (hd : (x == ("__debug__" : Str)) = false := by decide)
    (hcd : (x == ("__classdict__" : Str)) = false := by decide) : DE X (.Name x pos) (dVarT i) :=
  PE_mono (pe_var hN hv hd hcd) fun σ H Q ⟨δ, G, R, sl, w, ⟨p, ds, e, g, r⟩, f⟩ => by
    obtain ⟨v, e', rv⟩ := sl.get e
    cases rv
    exact ⟨_, e', f _ G _ H r (TKs.refl H) w (rv_ptp w g)⟩
/-- a value that is such a tuple -/
def dTupOf (t : TD) : TD := fun δ G Q => t δ G fun d G1 => ∃ p ds, d = .ref p ∧ G1 p = some (.ptp ds) ∧ Q (.tup ds) G1
theorem de_tupOf {e : Expr} {t : TD} (h : DE X e t) : DE X e (dTupOf t) := PE_mono h fun σ H Q ⟨δ, G, R, sl, w, q, f⟩ => ⟨δ, G, _, sl, w, q, fun d G1 v H1 ⟨p, ds, e, g, q1⟩ t1 w1 r1 => by
  subst e
  cases r1
  exact f _ _ _ _ q1 t1 w1 (rv_ptp w1 g)⟩
/-! dict of a tuple of pairs -/
theorem pairs_of2 {pins : List (Addr × Obj)} {σ : St} {H : Hp} {s : Shared} (I : Inv X pins σ H s) : ∀ {ps : List Addr} {kvs : List (Key × V)}, Paired (fun p kv => SqT X.K H p [kV kv.1, kv.2]) ps kvs →
    ∃ (prs : List (Key × Value)) (vps : List (Value × Value)), KV kvs prs ∧ prs.length = ps.length ∧ vps.length = ps.length ∧ ∀ (j : Nat) (k v : Value), vps[j]? = some (k, v) → ∃ (b : Addr) (q : Key), ps[j]? = some b ∧ prs[j]? = some (q, v) ∧ s.heap.IsTuple b #[k, v] ∧ keyIs q k = true
  | _, _, .nil => ⟨[], [], .nil, rfl, rfl, fun j k v e => by simp at e⟩
  | _, _, .cons (a := p) (b := kv) h t => by
    obtain ⟨prs, vps, r, hl, hl2, hp⟩ := pairs_of2 I t
    obtain ⟨its, rv, ht, _⟩ := I.tuple h
    obtain ⟨u, y, ei, ru, ry⟩ := vals2 rv
    subst ei
    refine ⟨(kv.1, y) :: prs, (u, y) :: vps, .cons ⟨rfl, ry⟩ r, by rw [List.length_cons, List.length_cons, hl], by rw [List.length_cons, List.length_cons, hl2], fun j k v e => ?_⟩
    cases j with
    | zero =>
      have e' : (u, y) = (k, v) := Option.some.inj e
      cases e'
      exact ⟨p, kv.1, rfl, rfl, ht, kV_is (P := X.prog) (w := X.w) ru⟩
    | succ j =>
      obtain ⟨b, q, e1, e2, e3, e4⟩ := hp j k v (by simpa using e)
      exact ⟨b, q, by simpa using e1, by simpa using e2, e3, e4⟩
theorem call_dictT (hcalm : X.calm = true) : CallR X (.type "dict") (fun xs H Q => ∃ (a : Addr) (o : Obj) (ps : List Addr) (kvs : List (Key × V)), xs = [.ref a] ∧ o.dict = none ∧ H a = some (.frz o (.tup (ps.map V.ref))) ∧ Paired (fun p kv => SqT X.K H p [kV kv.1, kv.2]) ps kvs ∧
    ∀ p, H p = none → Q (.ref p) (upd H p (.dK (mergeK [] kvs)))) := by
  intro pins s σ H xs us Q I r q
  obtain ⟨a, o, ps, kvs, ex, nd, hq, hp, q⟩ := q
  subst ex
  obtain ⟨u, eu, rx⟩ := vals1 r
  subst eu
  cases rx
  obtain ⟨ho, hz, its, rv, ht⟩ := I.hok a _ hq
  have ei := refs_at rv
  subst ei
  rw [List.length_map] at hz
  obtain ⟨prs, vps, rel, hl, hl2, hpr⟩ := pairs_of2 I hp
  obtain ⟨o2, ho2, hc, n, hdat⟩ := ht
  rw [ho] at ho2
  cases ho2
  have hh : X.A.handled = none := I.ok.hd hcalm
  refine PySem.call_dict_pairs (knd := mixKind X.prog X.w) (kvs := prs) (PairArg.tuple a (ps.map Value.ref).toArray (fun j => ps.getD j 0) vps) hh ⟨⟨o, n, ho, hc, nd, hdat⟩, by simp [hl2], fun j k v e => ?_⟩ ⟨by rw [hl, hl2], fun i k v e => ?_⟩ (by rw [hl2]; exact hz) fun h' tk hd' k => ?_
  · obtain ⟨b, q', e1, e2, e3, e4⟩ := hpr j k v e
    refine ⟨by simp [e1], .inl ?_⟩
    have : ps.getD j 0 = b := by rw [List.getD_eq_getElem?_getD, e1]; rfl
    show s.heap.IsTuple (ps.getD j 0) _
    rw [this]; exact e3
  · obtain ⟨b, q', e1, e2, e3, e4⟩ := hpr i k v e
    exact ⟨q', e2, e4⟩
  · have hm : (s.heap.objs.size == sysModules) = false := beq_eq_false_iff_ne.mpr (Nat.ne_of_gt I.big)
    have hlen : (mergeK [] kvs).length ≤ sizeLine := by
      refine Nat.le_trans (length_mergeK kvs []) ?_
      rw [List.length_nil, Nat.zero_add, rel.length, hl]
      exact hz
    exact ⟨.ref s.heap.objs.size, upd H s.heap.objs.size (.dK (mergeK [] kvs)), I.laid (t' := tk) (fun b o e => k b o (fun z => nomatch z) e) (Nat.le_refl _) (show ObjOk X.prog X.w _ _ _ (.dK (mergeK [] kvs)) from ⟨hlen, hm, merged [] prs, KV.merge rel .nil, hd'⟩), rfl, q _ (I.hok.fresh (Nat.le_refl _))⟩
/-- the dict of pairs with texts as names -/
def mgD (zs : List (Str × DV)) : List (Key × DV) := zs.foldl (fun kvs x => putD kvs (keyD x.1) x.2) []
def prT (zs : List (Str × DV)) : List DV := zs.map fun x => .tup [.str x.1, x.2]
theorem KRV.merge {K : Frag} {H : Hp} : ∀ {vs : List (Key × V)} {zs : List (Str × DV)}, KRV K H vs (zs.map fun x => (keyD x.1, x.2)) → ∀ {us : List (Key × V)} {ws : List (Key × DV)}, KRV K H us ws → KRV K H (mergeK us vs) (zs.foldl (fun kvs x => putD kvs (keyD x.1) x.2) ws)
  | [], [], _, _, _, r => r
  | _ :: _, z :: zs, h, us, ws, r => by
    rw [List.map_cons] at h
    cases h with
    | cons h t => exact KRV.merge (zs := zs) t (KRV.put r (keyD z.1) h)
theorem prs_of {K : Frag} {H : Hp} : ∀ {zs : List (Str × DV)} {xs : List V}, RVs K H xs (prT zs) → ∃ (ps : List Addr) (kvs : List (Key × V)), xs = ps.map V.ref ∧ Paired (fun p kv => SqT K H p [kV kv.1, kv.2]) ps kvs ∧ KRV K H kvs (zs.map fun x => (keyD x.1, x.2))
  | [], xs, h => by
    cases h
    exact ⟨[], [], rfl, .nil, .nil⟩
  | z :: zs, xs, h => by
    have h' : RVs K H xs (.tup [.str z.1, z.2] :: prT zs) := h
    cases h' with
    | cons h t =>
      obtain ⟨ps, kvs, e, p, k⟩ := prs_of t
      obtain ⟨a, ys, rfl, s, r⟩ := h.tupD
      cases r with
      | cons r1 r =>
        cases r with
        | cons r2 r =>
          cases r
          cases r1
          rename_i v2
          exact ⟨a :: ps, (keyD z.1, v2) :: kvs, by rw [e]; rfl, .cons s p, .cons r2 k⟩
/-- dict of a kept tuple of pairs -/
def bDictP : DC
  | [.ref p], G, Q => ∃ zs, G p = some (.ptp (prT zs)) ∧ ∀ r, G r = none → Q (.ref r) (dupd G r (.dct (mgD zs)))
  | _, _, _ => False
theorem cd_dictP (hc : X.calm = true) : CallD X (.type "dict") bDictP := by
  refine ⟨_, call_dictT hc, fun ds vs H G R Q r w h f => ?_⟩
  cases r with
  | nil => exact h.elim
  | cons rv rt =>
    cases rt with
    | cons _ _ => cases rv <;> exact h.elim
    | nil =>
      cases rv with
      | ref p =>
        obtain ⟨zs, e, q⟩ := h
        obtain ⟨o, xs, nd, hp, rx⟩ := wd_ptp w e
        obtain ⟨ps, kvs, rfl, pr, kr⟩ := prs_of rx
        refine ⟨p, o, ps, kvs, rfl, nd, hp, pr, fun l nl => ?_⟩
        have s' := same_new nl (.dK (mergeK [] kvs))
        exact f _ _ _ _ (q l (w.free nl)) (TKs.of s') (w.new nl fun O => ⟨_, upd_same, (KRV.merge kr .nil).mono (.of s')⟩) (.ref l)
      | _ => exact h.elim
/-! zip of two tuples or of two lists -/
def zipD (xs ys : List DV) : List DV := List.zipWith (fun x y => .tup [x, y]) xs ys
theorem zipD_len (xs ys : List DV) : (zipD xs ys).length = min xs.length ys.length := List.length_zipWith
theorem zipD_get {xs ys : List DV} {i : Nat} {x y : DV} (hx : xs[i]? = some x) (hy : ys[i]? = some y) : (zipD xs ys)[i]? = some (.tup [x, y]) := by
  unfold zipD
  rw [List.getElem?_zipWith, hx, hy]
variable {elts : List Expr} {kk : Nat} {tpos : Pos}
def dIZip (t : TDA) : TDI := fun δ G R => t δ G fun vs G1 => (∃ xs ys, vs = [.tup xs, .tup ys] ∧ R (zipD xs ys) (fun _ => True) G1) ∨ ∃ p q xs ys, vs = [.ref p, .ref q] ∧ Ls G1 p xs ∧ Ls G1 q ys ∧ R (zipD xs ys) (fun G => Ls G p xs ∧ Ls G q ys) G1
theorem di_zip {a b : Expr} {t : TDA} {p pos : Pos} (hm : X.mg "zip" = none) (hg : Gl X "zip") (ha : DA X [a, b] t) (hs : starEach [a, b] X.env = (false, eval a X.env) :: starEach [b] X.env := by rfl) (hpl : (backTo pos (starEach [b] X.env)).any (·.1) = false := by rfl) : DI X (.Tuple elts kk tpos) (.Call (.Name "zip" p) [a, b] [] pos) (dIZip t) :=
  PI_mono (RZ.pi_zipA hg hm ha hs hpl) fun σ H R' ⟨δ, G, R, sl, w, q, f⟩ => ⟨δ, G, _, sl, w, q, fun ds G1 vs H1 q1 t1 w1 r1 => by
    rcases q1 with ⟨xs, ys, rfl, q1⟩ | ⟨p, q, xs, ys, rfl, lx, ly, q1⟩
    · cases r1 with
      | cons ra rb =>
        cases rb with
        | cons rb rn =>
          cases rn
          obtain ⟨a, us, rfl, sa, ra⟩ := ra.tupD
          obtain ⟨b, vs, rfl, sb, rb⟩ := rb.tupD
          refine ⟨a, b, us, vs, rfl, .inr ⟨sa, sb, f _ _ _ _ _ q1 t1 w1 ⟨fun i H2 G2 t2 w2 l2 hi => ?_, fun i H2 G2 x H3 t2 w2 l2 hi y => ?_, fun i H2 G2 t2 w2 l2 hi => ?_⟩⟩⟩
          · rw [zipD_len] at hi
            obtain ⟨x, hx, _⟩ := ra.get (List.getElem?_eq_getElem (show i < xs.length by omega))
            obtain ⟨y, hy, _⟩ := rb.get (List.getElem?_eq_getElem (show i < ys.length by omega))
            exact ⟨us, vs, x, y, t2 _ _ sa, t2 _ _ sb, hx, hy⟩
          · obtain ⟨T, u, v, rfl, nT, rfl, y1, y2⟩ := y
            obtain ⟨d, hd, rd⟩ := (ra.mono t2).getV (y1 us (t2 _ _ sa))
            obtain ⟨e, he, re⟩ := (rb.mono t2).getV (y2 vs (t2 _ _ sb))
            have s' := same_new nT (.tup [u, v])
            exact ⟨s', _, zipD_get hd he, .tup (SqT.of upd_same) (.cons (rd.mono (.of s')) (.cons (re.mono (.of s')) .nil))⟩
          · rw [zipD_len] at hi
            exact ⟨us, vs, t2 _ _ sa, t2 _ _ sb, by rw [ra.len, rb.len]; omega⟩
    · cases r1 with
      | cons ra rb =>
        cases rb with
        | cons rb rn =>
          cases rn
          cases ra
          cases rb
          obtain ⟨us, sa, ra⟩ := wd_seq w1 lx
          obtain ⟨vs, sb, rb⟩ := wd_seq w1 ly
          refine ⟨p, q, us, vs, rfl, .inl ⟨sa, sb, f _ _ _ _ _ q1 t1 w1 ⟨fun i H2 G2 t2 w2 l2 hi => ?_, fun i H2 G2 x H3 t2 w2 l2 hi y => ?_, fun i H2 G2 t2 w2 l2 hi => ?_⟩⟩⟩
          · rw [zipD_len] at hi
            obtain ⟨us, sa, ra⟩ := wd_seq w2 l2.1
            obtain ⟨vs, sb, rb⟩ := wd_seq w2 l2.2
            obtain ⟨x, hx, _⟩ := ra.get (List.getElem?_eq_getElem (show i < xs.length by omega))
            obtain ⟨y, hy, _⟩ := rb.get (List.getElem?_eq_getElem (show i < ys.length by omega))
            exact ⟨us, vs, x, y, sa, sb, hx, hy⟩
          · obtain ⟨T, u, v, rfl, nT, rfl, y1, y2⟩ := y
            obtain ⟨us, sa, ra⟩ := wd_seq w2 l2.1
            obtain ⟨vs, sb, rb⟩ := wd_seq w2 l2.2
            obtain ⟨d, hd, rd⟩ := ra.getV (y1 us sa)
            obtain ⟨e, he, re⟩ := rb.getV (y2 vs sb)
            have s' := same_new nT (.tup [u, v])
            exact ⟨s', _, zipD_get hd he, .tup (SqT.of upd_same) (.cons (rd.mono (.of s')) (.cons (re.mono (.of s')) .nil))⟩
          · rw [zipD_len] at hi
            obtain ⟨us, sa, ra⟩ := wd_seq w2 l2.1
            obtain ⟨vs, sb, rb⟩ := wd_seq w2 l2.2
            exact ⟨us, vs, sa, sb, by rw [ra.len, rb.len]; omega⟩⟩
end
end DD
namespace DD
open PySem PySem.W L2 SX Cm
section
variable {X : Cx} {i o : Expr} {ti td : TD} {pos : Pos}
theorem dt_dnotin (hu : X.A.units + 1 < cLine) (hi : DE X i ti) (ho : DE X o td) (hb : behindInMarks .NotIn o = false := by rfl) : DT X (.Compare i [.NotIn] [o] pos) (dTest (dDIn true ti td)) :=
  PT_mono (pt_cmp (pc_dnotin hu hi ho) hb) fun σ H Q h => din_up (test_up h)
theorem dt_din (hu : X.A.units + 1 < cLine) (hi : DE X i ti) (ho : DE X o td) (hb : behindInMarks .In o = false := by rfl) : DT X (.Compare i [.In] [o] pos) (dTest (dDIn false ti td)) :=
  PT_mono (pt_cmp (pc_din hu hi ho) hb) fun σ H Q h => din_up (test_up h)
/-- sorted of a list of texts -/
def bSortS : DC
  | [.ref p], G, Q => ∃ ks : List Str, Ls G p (ks.map .str) ∧ ks.length < 64 ∧ ∀ ys r, ys.Perm ks → PyProof.Rows.sortedS ys = true → G r = none → Q (.ref r) (dupd G r (.lst (ys.map .str)))
  | _, _, _ => False
theorem cd_sortS : CallD X (.builtin "sorted") bSortS := by
  refine ⟨_, cr_sortedS, fun ds vs H G R Q r w h f => ?_⟩
  cases r with
  | nil => exact h.elim
  | cons rv rt =>
    cases rt with
    | cons _ _ => cases rv <;> exact h.elim
    | nil =>
      cases rv with
      | ref p =>
        obtain ⟨ks, ls, hl, q⟩ := h
        obtain ⟨us, hs, rr⟩ := wd_seq w ls
        have eu : us = ks.map V.str := by
          clear hs q f hl ls w
          induction ks generalizing us with
          | nil => cases rr; rfl
          | cons z r ih =>
            cases rr with
            | cons a b => cases a; rw [ih _ b]; rfl
        subst eu
        refine ⟨p, ks, rfl, hs, hl, fun ys l pm so nl => ?_⟩
        have s' := same_new nl (.lst (ys.map V.str))
        exact f _ _ _ _ (q ys l pm so (w.free nl)) (TKs.of s') (w.new nl fun O => ⟨_, upd_same, RVs.strs' ys⟩) (.ref l)
      | _ => exact h.elim
theorem w_sortS {G : DG} {Q : DK} {p : Addr} {ks : List Str} (e : G p = some (.lst (ks.map .str))) (l : ks.length < 64) (h : ∀ ys r, ys.Perm ks → PyProof.Rows.sortedS ys = true → G r = none → Q (.ref r) (dupd G r (.lst (ys.map .str)))) : bSortS [.ref p] G Q := ⟨ks, .inl e, l, h⟩
theorem w_sortD {G : DG} {Q : DK} {p : Addr} {kvs : List (Key × DV)} {ks : List Str} (e : G p = some (.dct kvs)) (ek : kvs.map (·.1) = ks.map keyD) (l : ks.length < 64) (h : ∀ ys r, ys.Perm ks → PyProof.Rows.sortedS ys = true → G r = none → Q (.ref r) (dupd G r (.lst (ys.map .str)))) : bSortD [.ref p] G Q := ⟨kvs, ks, e, ek, l, h⟩
theorem w_tupP {G : DG} {Q : DK} {p : Addr} {ds : List DV} (e : G p = some (.lst ds)) (h : ∀ r, G r = none → Q (.ref r) (dupd G r (.ptp ds))) : bTupP [.ref p] G Q := ⟨ds, .inl e, h⟩
theorem w_varT {δ : DSt} {G : DG} {Q : DK} {i : Nat} {p : Addr} {ds : List DV} (e : δ[i]? = some (some (.ref p))) (g : G p = some (.ptp ds)) (h : Q (.tup ds) G) : dVarT i δ G Q := ⟨p, ds, e, g, h⟩
theorem w_dictP {G : DG} {Q : DK} {p : Addr} {zs : List (Str × DV)} (e : G p = some (.ptp (prT zs))) (h : ∀ r, G r = none → Q (.ref r) (dupd G r (.dct (mgD zs)))) : bDictP [.ref p] G Q := ⟨zs, e, h⟩
theorem wi_zip {δ : DSt} {G : DG} {t : TDA} {R : List DV → (DG → Prop) → DG → Prop} (h : t δ G fun vs G1 => (∃ xs ys, vs = [.tup xs, .tup ys] ∧ R (zipD xs ys) (fun _ => True) G1) ∨ ∃ p q xs ys, vs = [.ref p, .ref q] ∧ Ls G1 p xs ∧ Ls G1 q ys ∧ R (zipD xs ys) (fun G => Ls G p xs ∧ Ls G q ys) G1) : dIZip t δ G R := h
end
end DD
/-! instances of a class over data: fields, methods, makers -/
namespace DD
open PySem PySem.W L2 SX Cm
def oputO (f : Str) (v : DV) : List (Str × DV) → List (Str × DV)
  | [] => [(f, v)]
  | (g, x) :: r => if g = f then (g, v) :: r else (g, x) :: oputO f v r
theorem look_cons {α : Type} (f g : Str) (x : α) (r : List (Str × α)) : List.lookup f ((g, x) :: r) = if f = g then some x else List.lookup f r := by
  rw [List.lookup_cons]
  by_cases h : f = g
  · rw [if_pos h, h, beq_self_eq_true]
  · rw [if_neg h, beq_eq_false_iff_ne.mpr h]
theorem FRV.len {K : Frag} {H : Hp} {vs : List (Str × V)} {ds : List (Str × DV)} (h : FRV K H vs ds) : vs.length = ds.length := by
  induction h with
  | nil => rfl
  | cons _ _ ih => rw [List.length_cons, List.length_cons, ih]
theorem FRV.look {K : Frag} {H : Hp} {f : Str} {vs : List (Str × V)} {ds : List (Str × DV)} (h : FRV K H vs ds) : ∀ {d : DV}, ds.lookup f = some d → ∃ v, vs.lookup f = some v ∧ RV K H v d := by
  induction h with
  | nil => intro d e; cases e
  | cons r _ ih =>
    intro d e
    rw [look_cons] at e ⊢
    split at e
    · cases e; rw [if_pos (by assumption)]; exact ⟨_, rfl, r⟩
    · rw [if_neg (by assumption)]; exact ih e
theorem FRV.none {K : Frag} {H : Hp} {f : Str} {vs : List (Str × V)} {ds : List (Str × DV)} (h : FRV K H vs ds) : ds.lookup f = Option.none → vs.lookup f = Option.none := by
  induction h with
  | nil => intro _; rfl
  | cons r _ ih =>
    intro e
    rw [look_cons] at e ⊢
    split at e
    · cases e
    · rw [if_neg (by assumption)]; exact ih e
theorem FRV.put {K : Frag} {H : Hp} {f : Str} {v : V} {d : DV} (r : RV K H v d) {vs : List (Str × V)} {ds : List (Str × DV)} (h : FRV K H vs ds) : FRV K H (putF f v vs) (oputO f d ds) := by
  induction h with
  | nil => exact .cons r .nil
  | cons q t ih =>
    unfold putF oputO
    split
    · exact .cons r t
    · exact .cons q ih
theorem wd_obj {K : Frag} {H : Hp} {G : DG} {p C : Addr} {fs : List (Str × DV)} (w : Wd K H G) (e : G p = some (.obj C fs)) : ∃ dx vs, H p = some (.ins C dx vs) ∧ FRV K H vs fs := by
  obtain ⟨O, w⟩ := w
  exact w.ob p _ e
theorem _root_.Cm.TKs.ins {K : Frag} {H : Hp} {p C dx : Addr} {fs : List (Str × V)} {u : HO} (h : H p = some (.ins C dx fs)) : TKs K H (upd H p u) := fun a xs g => by
  have ne : ∀ o, H a = some o → (∀ C dx fs, o ≠ .ins C dx fs) → a ≠ p := fun o e n z => by
    rw [z, h] at e
    exact n _ _ _ (Option.some.inj e).symm
  rcases g with (g | ⟨o, g⟩) | g
  · exact .inl (.inl (by rw [upd_ne (ne _ g fun _ _ _ z => by cases z)]; exact g))
  · exact .inl (.inr ⟨o, by rw [upd_ne (ne _ g fun _ _ _ z => by cases z)]; exact g⟩)
  · exact .inr g
section
variable {X : Cx}
def dFld (K : Frag) (t : TD) (f : Str) : TD := fun δ G Q => t δ G fun x G1 => ∃ a C fs d, x = .ref a ∧ G1 a = some (.obj C fs) ∧ Cls K C ∧ NoAttr K C f ∧ fs.lookup f = some d ∧ Q d G1
theorem de_fld {e : Expr} {f : Str} {pos : Pos} {t : TD} (he : DE X e t) (hb : attributeBase e f X.env (eval e X.env) = eval e X.env := by rfl) : DE X (.Attribute e f pos) (dFld X.K t f) :=
  PE_mono (pe_fld he hb) fun σ H Q ⟨δ, G, R, sl, w, q, fn⟩ => ⟨δ, G, _, sl, w, q, fun x G1 v H1 ⟨a, C, fs, d, e1, e2, c, n, l, q1⟩ t1 w1 r1 => by
    subst e1
    cases r1
    obtain ⟨dx, vs, h, r⟩ := wd_obj w1 e2
    obtain ⟨y, ly, ry⟩ := r.look l
    exact ⟨a, C, dx, vs, y, rfl, h, c, n, ly, fn _ _ _ _ q1 t1 w1 ry⟩⟩
def dFldS (K : Frag) (to tv : TD) (f : Str) : TDS := fun D δ G => tv δ G fun y G1 => to δ G1 fun x G2 => ∃ a C fs, x = .ref a ∧ G2 a = some (.obj C fs) ∧ Cls K C ∧ NoAttr K C f ∧ fs.length < 1000 ∧ D.nx δ (dupd G2 a (.obj C (oputO f y fs)))
theorem ds_fld {o value : Expr} {f : Str} {pos pos' : Pos} {to tv : TD} (ha : DE X o to) (hv : DE X value tv) (hs : swapsWith value (some (.Attribute o f pos')) pos.line X.env = pure false := by rfl) : DS X (.Assign [.Attribute o f pos'] value pos) (dFldS X.K to tv f) :=
  PS_mono (ps_fld ha hv hs) fun D σ H ⟨D', δ, G, sl, w, l, h⟩ => ⟨δ, G, _, sl, w, h, fun y G1 vy H1 q1 t1 w1 r1 => ⟨δ, G1, _, sl.mono t1, w1, q1, fun x G2 vx H2 ⟨a, C, fs, e1, e2, c, n, len, q2⟩ t2 w2 r2 => by
    subst e1
    cases r2
    obtain ⟨dx, vs, hh, r⟩ := wd_obj w2 e2
    have t3 : TKs X.K H2 (upd H2 a (.ins C dx (putF f vy vs))) := TKs.ins hh
    have w3 : Wd X.K (upd H2 a (.ins C dx (putF f vy vs))) (dupd G2 a (.obj C (oputO f y fs))) := w2.put ⟨_, e2, fun L φ z => by cases z⟩ t3 fun O => ⟨dx, _, upd_same, (r.put (r1.mono t2)).mono t3⟩
    exact ⟨a, C, dx, vs, rfl, hh, c, n, by rw [r.len]; exact len, l.nx _ _ _ _ q2 ((t1.trans t2).trans t3) w3 (sl.mono ((t1.trans t2).trans t3))⟩⟩⟩
end
/-- the method m of the class at C keeps a promise about data -/
def HasM (P : Program) (w : World) (K : Frag) (mg : Str → Option Value) (base : Heap) (k : Nat) (C : Addr) (m : Str) (ps : List Str) (dsp : DSp) : Prop :=
  ∃ f fd, FnOk P w K mg base CX0 k f fd ps (toSp K ps.length dsp) ∧ L2.Binds K fd ps [] ∧ Meth K C m f ∧ Cls K C
/-- its __init__, and that the class may be made by its name -/
def HasI (P : Program) (w : World) (K : Frag) (mg : Str → Option Value) (base : Heap) (k : Nat) (C : Addr) (nm : Str) (ps : List Str) (dsp : DSp) : Prop :=
  ∃ f fd, FnOk P w K mg base CX0 k f fd ps (toSp K ps.length dsp) ∧ L2.Binds K fd ps [] ∧ Mk K C f ∧ mg nm = some (.ref C)
/-- a method's def stands at its place -/
def AtM (K : Frag) (C : Addr) (m qual : Str) (st : Stmt) (ps : List Str) : Prop := ∃ f fd, Fun K m qual st f fd ∧ L2.Binds K fd ps [] ∧ Meth K C m f ∧ Cls K C
def AtI (K : Frag) (mg : Str → Option Value) (C : Addr) (nm qual : Str) (st : Stmt) (ps : List Str) : Prop := ∃ f fd, Fun K "__init__" qual st f fd ∧ L2.Binds K fd ps [] ∧ Mk K C f ∧ mg nm = some (.ref C)
section
variable {P : Program} {w : World} {K : Frag} {mg : Str → Option Value} {base : Heap}
theorem ok_body {m qual : Str} {st : Stmt} {f : Addr} {fd : FuncData} {N ps : List Str} {k : Nat} {dsp : DSp} (F : Fun K m qual st f fd) (S : FnScope N ps (defScope st))
    (body : ∀ (cdv : Value) (A : Around) (outer : List Env) (s : Shared) (H : Hp) (E : XK), Room k (A.deeper (PyProof.Rows.envOfC qual (defScope st) s.heap.objs.size f cdv)) → ∀ ds G R, ds.length = ps.length → dsp ds G R →
      ∃ t, DSs (cxOf CX0 P w K mg base N qual (defScope st) f cdv A outer s H E).nox (defBody st) t ∧ t { nx := fun _ G => Less R .non G, rt := Less R } (dstart N ds) G) : FnOk P w K mg base CX0 (k + 1) f fd ps (toSp K ps.length dsp) := by
  refine F.ok S (fun vs H Q E h => ?_) (fun cdv A outer s H vs Q E hr h => ?_)
  · obtain ⟨ds, G, R, r, w, l, _⟩ := h
    rw [r.len]; exact l
  · obtain ⟨ds, G, R, r, wd, l, h, fin⟩ := h
    obtain ⟨t, h1, h2⟩ := body cdv A outer s H E hr ds G R l h
    exact ⟨_, h1, _, _, G, sl_start r, wd, links_def fin, h2⟩
theorem atm_mk {C : Addr} {m qual : Str} {st : Stmt} {N ps : List Str} {k : Nat} {dsp : DSp} (a : AtM K C m qual st ps) (S : FnScope N ps (defScope st))
    (body : ∀ (f : Addr) (cdv : Value) (A : Around) (outer : List Env) (s : Shared) (H : Hp) (E : XK), Room k (A.deeper (PyProof.Rows.envOfC qual (defScope st) s.heap.objs.size f cdv)) → ∀ ds G R, ds.length = ps.length → dsp ds G R →
      ∃ t, DSs (cxOf CX0 P w K mg base N qual (defScope st) f cdv A outer s H E).nox (defBody st) t ∧ t { nx := fun _ G => Less R .non G, rt := Less R } (dstart N ds) G) : HasM P w K mg base (k + 1) C m ps dsp := by
  obtain ⟨f, fd, F, b, me, c⟩ := a
  exact ⟨f, fd, ok_body F S (body f), b, me, c⟩
theorem ati_mk {C : Addr} {nm qual : Str} {st : Stmt} {N ps : List Str} {k : Nat} {dsp : DSp} (a : AtI K mg C nm qual st ps) (S : FnScope N ps (defScope st))
    (body : ∀ (f : Addr) (cdv : Value) (A : Around) (outer : List Env) (s : Shared) (H : Hp) (E : XK), Room k (A.deeper (PyProof.Rows.envOfC qual (defScope st) s.heap.objs.size f cdv)) → ∀ ds G R, ds.length = ps.length → dsp ds G R →
      ∃ t, DSs (cxOf CX0 P w K mg base N qual (defScope st) f cdv A outer s H E).nox (defBody st) t ∧ t { nx := fun _ G => Less R .non G, rt := Less R } (dstart N ds) G) : HasI P w K mg base (k + 1) C nm ps dsp := by
  obtain ⟨f, fd, F, b, me, c⟩ := a
  exact ⟨f, fd, ok_body F S (body f), b, me, c⟩
end
section
variable {X : Cx} {k : Nat} {C : Addr} {m nm : Str} {ps : List Str} {dsp : DSp} {o e : Expr} {es : List Expr} {to : TD} {ts : TDA} {p apos pos : Pos}
def dMeth (C : Addr) (m : Str) (n : Nat) (dsp : DSp) (to : TD) (ts : TDA) : TD := fun δ G Q => to δ G fun x G1 => ∃ a fs, x = .ref a ∧ G1 a = some (.obj C fs) ∧ fs.lookup m = none ∧ ts δ G1 fun ds G2 => (x :: ds).length = n ∧ dsp (x :: ds) G2 Q
theorem de_meth (h : HasM X.prog X.w X.K X.mg X.base k C m ps dsp) (hr : Room k X.A) (ho : DE X o to) (ha : DA X (e :: es) ts)
    (hst : starEach (e :: es) X.env = (false, eval e X.env) :: starEach es X.env := by rfl) (hpl : (backTo pos (starEach es X.env)).any (·.1) = false := by rfl) {pl : Sem Bool}
    (ht : eval (.Call (.Attribute o m apos) (e :: es) [] pos) X.env = (do
      let ov ← eval o X.env
      standAt apos.atName
      let (f, first) ← holding [ov] (getMethod ov m pl)
      callWith pos f first (backTo pos (starEach (e :: es) X.env)) (backToKw pos (keywordEach [] X.env))) := by rfl) : DE X (.Call (.Attribute o m apos) (e :: es) [] pos) (dMeth C m ps.length dsp to ts) := by
  obtain ⟨f, fd, F, b, me, c⟩ := h
  refine PE_mono (pe_meth ho c me F hr b .nil (pass0 (X := X)) ha hst hpl ht) fun σ H Q ⟨δ, G, R, sl, w, h, fn⟩ => ⟨δ, G, _, sl, w, h, fun x G1 vx H1 ⟨a, fs, e1, e2, l, q⟩ t1 w1 r1 => ?_⟩
  subst e1
  cases r1
  obtain ⟨dx, vs, hh, r⟩ := wd_obj w1 e2
  refine ⟨a, dx, vs, rfl, hh, r.none l, δ, G1, _, sl.mono t1, w1, q, fun ds G2 us H2 q2 t2 w2 r2 => ?_⟩
  show toSp X.K ps.length dsp (V.ref a :: (us ++ [])) H2 Q E0
  rw [List.append_nil]
  exact ⟨_, G2, R, .cons (.ref a) r2, w2, q2.1, q2.2, fn.step (t1.trans t2)⟩
theorem de_meth0 (h : HasM X.prog X.w X.K X.mg X.base k C m ps dsp) (hr : Room k X.A) (ho : DE X o to) {pl : Sem Bool}
    (ht : eval (.Call (.Attribute o m apos) [] [] pos) X.env = (do
      let ov ← eval o X.env
      standAt apos.atName
      let (f, first) ← holding [ov] (getMethod ov m pl)
      callWith pos f first (backTo pos (starEach [] X.env)) (backToKw pos (keywordEach [] X.env))) := by rfl) : DE X (.Call (.Attribute o m apos) [] [] pos) (dMeth C m ps.length dsp to dNil) := by
  obtain ⟨f, fd, F, b, me, c⟩ := h
  refine PE_mono (pe_meth0 ho c me F hr b .nil (pass0 (X := X)) ht) fun σ H Q ⟨δ, G, R, sl, w, h, fn⟩ => ⟨δ, G, _, sl, w, h, fun x G1 vx H1 ⟨a, fs, e1, e2, l, q⟩ t1 w1 r1 => ?_⟩
  subst e1
  cases r1
  obtain ⟨dx, vs, hh, r⟩ := wd_obj w1 e2
  refine ⟨a, dx, vs, rfl, hh, r.none l, ?_⟩
  exact ⟨_, G1, R, .cons (.ref a) .nil, w1, q.1, q.2, fn.step t1⟩
def dMake (C : Addr) (n : Nat) (dsp : DSp) (ts : TDA) : TD := fun δ G Q => ts δ G fun ds G1 => ∀ x, G1 x = none → ds.length + 1 = n ∧ dsp (.ref x :: ds) (dupd G1 x (.obj C [])) fun d G2 => d = .non ∧ Q (.ref x) G2
theorem de_make (h : HasI X.prog X.w X.K X.mg X.base k C nm ps dsp) (hr : Room (k + 1) X.A) (hg : Gl X nm) (ha : DA X (e :: es) ts) (hdb : (nm == ("__debug__" : Str)) = false := by decide) (he : starEach (e :: es) X.env = (false, eval e X.env) :: starEach es X.env := by rfl) (hpl : (backTo pos (starEach es X.env)).any (·.1) = false := by rfl) :
    DE X (.Call (.Name nm p) (e :: es) [] pos) (dMake C ps.length dsp ts) := by
  obtain ⟨f, fd, F, b, mk, m⟩ := h
  refine PE_mono (pe_make mk F hr hg m b .nil (pass0 (X := X)) ha hdb he hpl) fun σ H Q ⟨δ, G, R, sl, w, h, fn⟩ => ⟨δ, G, _, sl, w, h, fun ds G1 vs H1 q t1 w1 r1 => ?_⟩
  intro x dx nx nd ne
  have s1 : Same H1 (upd H1 dx (.own x)) := same_new nd _
  have nx' : (upd H1 dx (.own x)) x = none := by rw [upd_ne (Ne.symm ne)]; exact nx
  have s2 := same_new nx' (HO.ins C dx [])
  have w2 : Wd X.K (upd (upd H1 dx (.own x)) x (.ins C dx [])) (dupd G1 x (.obj C [])) := (w1.same s1).new nx' fun O => ⟨dx, [], upd_same, .nil⟩
  have q' := q x (w1.free nx)
  rw [List.append_nil]
  have t2 : TKs X.K H1 (upd (upd H1 dx (.own x)) x (.ins C dx [])) := (TKs.of s1).trans (TKs.of s2)
  refine ⟨_, _, _, .cons (.ref x) (r1.mono t2), w2, q'.1, q'.2, fun d G3 v H3 ⟨e1, q3⟩ t3 w3 r3 => ?_⟩
  subst e1
  cases r3
  exact ⟨rfl, fn _ _ _ _ q3 ((t1.trans t2).trans t3) w3 (.ref x)⟩
end
/-! readings -/
theorem w_fld {K : Frag} {t : TD} {f : Str} {δ : DSt} {G : DG} {Q : DK} (h : t δ G fun x G1 => ∃ a C fs d, x = .ref a ∧ G1 a = some (.obj C fs) ∧ Cls K C ∧ NoAttr K C f ∧ fs.lookup f = some d ∧ Q d G1) : dFld K t f δ G Q := h
theorem wx_fld {K : Frag} {a C : Addr} {fs : List (Str × DV)} {f : Str} {d : DV} {G : DG} {Q : DK} (e : G a = some (.obj C fs)) (c : Cls K C) (n : NoAttr K C f) (l : fs.lookup f = some d) (h : Q d G) : ∃ a' C fs d, DV.ref a = .ref a' ∧ G a' = some (.obj C fs) ∧ Cls K C ∧ NoAttr K C f ∧ fs.lookup f = some d ∧ Q d G := ⟨a, C, fs, d, rfl, e, c, n, l, h⟩
theorem w_fldS {K : Frag} {nx : DSt → DG → Prop} {rt : DK} {bk ct : DSt → DG → Prop} {δ : DSt} {G : DG} {to tv : TD} {f : Str} (h : tv δ G fun y G1 => to δ G1 fun x G2 => ∃ a C fs, x = .ref a ∧ G2 a = some (.obj C fs) ∧ Cls K C ∧ NoAttr K C f ∧ fs.length < 1000 ∧ nx δ (dupd G2 a (.obj C (oputO f y fs)))) : dFldS K to tv f ⟨nx, rt, bk, ct⟩ δ G := h
theorem wx_fldS {K : Frag} {a C : Addr} {fs : List (Str × DV)} {f : Str} {y : DV} {G : DG} {M : DG → Prop} (e : G a = some (.obj C fs)) (c : Cls K C) (n : NoAttr K C f) (l : fs.length < 1000) (h : M (dupd G a (.obj C (oputO f y fs)))) : ∃ a' C fs, DV.ref a = .ref a' ∧ G a' = some (.obj C fs) ∧ Cls K C ∧ NoAttr K C f ∧ fs.length < 1000 ∧ M (dupd G a' (.obj C (oputO f y fs))) := ⟨a, C, fs, rfl, e, c, n, l, h⟩
theorem w_meth {C : Addr} {m : Str} {n : Nat} {dsp : DSp} {to : TD} {ts : TDA} {δ : DSt} {G : DG} {Q : DK} (h : to δ G fun x G1 => ∃ a fs, x = .ref a ∧ G1 a = some (.obj C fs) ∧ fs.lookup m = none ∧ ts δ G1 fun ds G2 => (x :: ds).length = n ∧ dsp (x :: ds) G2 Q) : dMeth C m n dsp to ts δ G Q := h
theorem wx_meth {C a : Addr} {m : Str} {fs : List (Str × DV)} {G : DG} {M : Prop} (e : G a = some (.obj C fs)) (l : fs.lookup m = none) (h : M) : ∃ a' fs, DV.ref a = .ref a' ∧ G a' = some (.obj C fs) ∧ fs.lookup m = none ∧ M := ⟨a, fs, rfl, e, l, h⟩
theorem w_make {C : Addr} {n : Nat} {dsp : DSp} {ts : TDA} {δ : DSt} {G : DG} {Q : DK} (h : ts δ G fun ds G1 => ∀ x, G1 x = none → ds.length + 1 = n ∧ dsp (.ref x :: ds) (dupd G1 x (.obj C [])) fun d G2 => d = .non ∧ Q (.ref x) G2) : dMake C n dsp ts δ G Q := h
end DD
/-! what stands between two brackets, as far as it has been read -/
namespace DD
open PySem PySem.W L2 SX Cm
def lvF (w : Str) (t : DV) (r : Str) (l : Addr) : List (Str × DV) := [("within", .str w), ("take", t), ("rest", .str r), ("kinds", .ref l)]
section
variable {w r : Str} {t : DV} {l : Addr}
theorem lv_w : (lvF w t r l).lookup ("within" : Str) = some (DV.str w) := by unfold lvF; rw [look_cons, if_pos rfl]
theorem lv_t : (lvF w t r l).lookup ("take" : Str) = some t := by unfold lvF; rw [look_cons, if_neg (by decide +kernel), look_cons, if_pos rfl]
theorem lv_r : (lvF w t r l).lookup ("rest" : Str) = some (DV.str r) := by unfold lvF; rw [look_cons, if_neg (by decide +kernel), look_cons, if_neg (by decide +kernel), look_cons, if_pos rfl]
theorem lv_k : (lvF w t r l).lookup ("kinds" : Str) = some (DV.ref l) := by unfold lvF; rw [look_cons, if_neg (by decide +kernel), look_cons, if_neg (by decide +kernel), look_cons, if_neg (by decide +kernel), look_cons, if_pos rfl]
theorem lv_no {m : Str} (h1 : ¬ m = "within") (h2 : ¬ m = "take") (h3 : ¬ m = "rest") (h4 : ¬ m = "kinds") : (lvF w t r l).lookup m = none := by
  unfold lvF; rw [look_cons, if_neg h1, look_cons, if_neg h2, look_cons, if_neg h3, look_cons, if_neg h4]; rfl
theorem lput_nil {f : Str} {x : DV} : oputO f x [] = [(f, x)] := rfl
theorem lput_eq {f : Str} {x y : DV} {q : List (Str × DV)} : oputO f x ((f, y) :: q) = (f, x) :: q := by unfold oputO; rw [if_pos rfl]
theorem lput_ne {f g : Str} {x y : DV} {q : List (Str × DV)} (h : ¬ g = f) : oputO f x ((g, y) :: q) = (g, y) :: oputO f x q := by rw [oputO, if_neg h]
theorem lput_t {t' : DV} : oputO "take" t' (lvF w t r l) = lvF w t' r l := by unfold lvF; rw [lput_ne (by decide +kernel), lput_eq]
theorem lput_r {r' : Str} : oputO "rest" (.str r') (lvF w t r l) = lvF w t r' l := by unfold lvF; rw [lput_ne (by decide +kernel), lput_ne (by decide +kernel), lput_eq]
theorem lput_k {l' : Addr} : oputO "kinds" (.ref l') (lvF w t r l) = lvF w t r l' := by unfold lvF; rw [lput_ne (by decide +kernel), lput_ne (by decide +kernel), lput_ne (by decide +kernel), lput_eq]
theorem lput_new : oputO "kinds" (.ref l) (oputO "rest" (.str r) (oputO "take" t (oputO "within" (.str w) []))) = lvF w t r l := by
  repeat (first | rw [lput_ne (by decide +kernel)] | rw [lput_nil])
  rfl
end
structure Lv where
  w : Str
  take : Option Sk
  rest : Str
  ks : List Kd
def tkD : Option Sk → DV
  | none => .non
  | some s => eS s
def LvAt (C : Addr) (G : DG) (a l : Addr) (v : Lv) : Prop := G a = some (.obj C (lvF v.w (tkD v.take) v.rest l)) ∧ G l = some (.lst (eKs v.ks))
structure LvT (K : Frag) (C : Addr) : Prop where
  cl : Cls K C
  nW : NoAttr K C "within"
  nT : NoAttr K C "take"
  nR : NoAttr K C "rest"
  nK : NoAttr K C "kinds"
/-- all but L as ahead -/
def Frm (L : List Addr) (G G' : DG) : Prop := ∀ x o, x ∉ L → G x = some o → G' x = some o
theorem Frm.sub {L : List Addr} {G G' : DG} (s : Sub G G') : Frm L G G' := fun x o _ e => s x o e
theorem Frm.upd {G G' : DG} {a : Addr} (u : Upd G a G') : Frm [a] G G' := fun x o n e => by rw [u x (fun z => n (List.mem_singleton.mpr z))]; exact e
theorem Frm.tr {L : List Addr} {A B C : DG} (h : Frm L A B) (g : Frm L B C) : Frm L A C := fun x o n e => g x o n (h x o n e)
theorem Frm.mono {L M : List Addr} {A B : DG} (h : Frm L A B) (i : ∀ x ∈ L, x ∈ M) : Frm M A B := fun x o n e => h x o (fun z => n (i x z)) e
/-- what a closed level is -/
inductive Cl : Lv → Kd → Prop
  | row {t : Sk} {r : Str} {ks : List Kd} : Cl ⟨"row", some t, r, ks⟩ (.row t (.mk r ks))
  | lst {t : Option Sk} {r : Str} {k : Kd} : Cl ⟨"list", t, r, [k]⟩ (.lst k)
/-- one mark read -/
inductive Stp : List Lv → Str → List Lv → Prop
  | opR {st : List Lv} : Stp st "[" (⟨"row", none, "", []⟩ :: st)
  | opL {st : List Lv} : Stp st "{" (⟨"list", none, "", []⟩ :: st)
  | clR {v u : Lv} {r : List Lv} {k : Kd} : v.w = "row" → Cl v k → Stp (v :: u :: r) "]" ({ u with ks := u.ks ++ [k] } :: r)
  | clL {v u : Lv} {r : List Lv} {k : Kd} : v.w = "list" → Cl v k → Stp (v :: u :: r) "}" ({ u with ks := u.ks ++ [k] } :: r)
  | sides {v : Lv} {r : List Lv} : v.w = "row" → v.take = none → Stp (v :: r) "--" ({ v with take := some (.mk v.rest v.ks), rest := "", ks := [] } :: r)
  | num {v : Lv} {r : List Lv} : Stp (v :: r) "number" ({ v with ks := v.ks ++ [.num] } :: r)
  | opn {v : Lv} {r : List Lv} {z : Str} : smB z = true → Stp (v :: r) z ({ v with ks := v.ks ++ [.opn z] } :: r)
  | rest {v : Lv} {r : List Lv} {z : Str} : gtB z = true → v.w = "row" → v.rest = "" → v.ks = [] → Stp (v :: r) z ({ v with rest := z } :: r)
inductive Runs : List Lv → List Str → List Lv → Prop
  | nil {st : List Lv} : Runs st [] st
  | cons {st st1 st2 : List Lv} {z : Str} {zs : List Str} : Stp st z st1 → Runs st1 zs st2 → Runs st (z :: zs) st2
theorem Runs.app {a b c : List Lv} {xs ys : List Str} (h : Runs a xs b) (g : Runs b ys c) : Runs a (xs ++ ys) c := by
  induction h with
  | nil => exact g
  | cons s _ ih => exact .cons s (ih g)
theorem Runs.one {a b : List Lv} {z : Str} (h : Stp a z b) : Runs a [z] b := .cons h .nil
abbrev smP (z : Str) : Prop := smB z = true
abbrev grP (z : Str) : Prop := z = "" ∨ gtB z = true
mutual
theorem run_K : ∀ (k : Kd) (v : Lv) (r : List Lv), NK smP grP k → Runs (v :: r) (mkK k) ({ v with ks := v.ks ++ [k] } :: r)
  | .num, v, r, _ => .one .num
  | .opn z, v, r, h => .one (.opn h)
  | .lst k, v, r, h => by
    show Runs _ (("{" : Str) :: (mkK k ++ [("}" : Str)])) _
    refine .cons .opL ((run_K k ⟨"list", none, "", []⟩ (v :: r) h).app (.one (.clL rfl ?_)))
    exact .lst
  | .row a b, v, r, h => by
    show Runs _ (("[" : Str) :: (mkS a ++ ("--" : Str) :: (mkS b ++ [("]" : Str)]))) _
    refine .cons .opR ((run_S a ⟨"row", none, "", []⟩ (v :: r) rfl rfl rfl h.1).app (.cons (.sides rfl rfl) ((run_S b _ (v :: r) rfl rfl rfl h.2).app (.one (.clR rfl ?_)))))
    cases a; cases b
    exact .row
theorem run_S : ∀ (s : Sk) (v : Lv) (r : List Lv), v.w = "row" → v.rest = "" → v.ks = [] → NS smP grP s → Runs (v :: r) (mkS s) ({ v with rest := s.rest, ks := s.ks } :: r)
  | .mk z ks, ⟨w, t, q, l⟩, r, e1, e2, e3, h => by
    cases e1; cases e2; cases e3
    by_cases e : z = ""
    · subst e
      exact run_Ks ks ⟨"row", t, "", []⟩ r h.2
    · show Runs _ ((if z = "" then [] else [z]) ++ mkKs ks) _
      rw [if_neg e]
      have hz : gtB z = true := h.1.resolve_left e
      exact .cons (.rest hz rfl rfl rfl) (run_Ks ks ⟨"row", t, z, []⟩ r h.2)
theorem run_Ks : ∀ (ks : List Kd) (v : Lv) (r : List Lv), NKs smP grP ks → Runs (v :: r) (mkKs ks) ({ v with ks := v.ks ++ ks } :: r)
  | [], v, r, _ => by
    show Runs _ [] _
    rw [List.append_nil]; exact .nil
  | k :: q, v, r, h => by
    show Runs _ (mkK k ++ mkKs q) _
    have h1 := run_K k v r h.1
    have h2 := run_Ks q { v with ks := v.ks ++ [k] } r h.2
    have e : ({ v with ks := v.ks ++ [k] } : Lv).ks ++ q = v.ks ++ (k :: q) := by show (v.ks ++ [k]) ++ q = _; rw [List.append_assoc]; rfl
    rw [e] at h2
    exact h1.app h2
end
theorem run_R {s t : Sk} (h1 : NS smP grP s) (h2 : NS smP grP t) : Runs [⟨"row", none, "", []⟩] (mkR (s, t)) [⟨"row", some s, t.rest, t.ks⟩] := by
  cases s; cases t
  exact (run_S _ ⟨"row", none, "", []⟩ [] rfl rfl rfl h1).app (.cons (.sides rfl rfl) (run_S _ _ [] rfl rfl rfl h2))
/-! the levels in the store -/
inductive LvS (C : Addr) (B G : DG) (p : Addr) : List (Addr × Addr) → List Lv → Prop
  | nil : LvS C B G p [] []
  | cons {a l : Addr} {v : Lv} {as : List (Addr × Addr)} {r : List Lv} : LvAt C G a l v → l ≠ p → B a = none → B l = none → (∀ b ∈ as, b.1 ≠ a ∧ b.2 ≠ l) → LvS C B G p as r → LvS C B G p ((a, l) :: as) (v :: r)
theorem LvS.len {C : Addr} {B G : DG} {p : Addr} {as : List (Addr × Addr)} {st : List Lv} (h : LvS C B G p as st) : as.length = st.length := by
  induction h with
  | nil => rfl
  | cons _ _ _ _ _ _ ih => rw [List.length_cons, List.length_cons, ih]
theorem LvS.at {C : Addr} {B G : DG} {p : Addr} {as : List (Addr × Addr)} {st : List Lv} (h : LvS C B G p as st) : ∀ b ∈ as, (∃ fs, G b.1 = some (.obj C fs)) ∧ (∃ ds, G b.2 = some (.lst ds)) ∧ b.2 ≠ p := by
  induction h with
  | nil => intro b hb; cases hb
  | cons hv np _ _ _ _ ih =>
    intro b hb
    rcases List.mem_cons.mp hb with rfl | hb
    · exact ⟨⟨_, hv.1⟩, ⟨_, hv.2⟩, np⟩
    · exact ih b hb
theorem LvS.frm {C : Addr} {B G G' : DG} {p : Addr} {L : List Addr} {as : List (Addr × Addr)} {st : List Lv} (h : LvS C B G p as st) (f : Frm L G G') (n : ∀ b ∈ as, b.1 ∉ L ∧ b.2 ∉ L) : LvS C B G' p as st := by
  induction h with
  | nil => exact .nil
  | cons hv np b1 b2 ne _ ih =>
    have n1 := n _ (List.mem_cons_self ..)
    exact .cons ⟨f _ _ n1.1 hv.1, f _ _ n1.2 hv.2⟩ np b1 b2 ne (ih fun b hb => n b (List.mem_cons_of_mem _ hb))
/-- the list of levels at p; B: what else is kept -/
def Held (C : Addr) (B G : DG) (p : Addr) (st : List Lv) (n : Nat) : Prop := ∃ as, Sub B G ∧ B p = none ∧ G p = some (.lst ((as.map fun b => DV.ref b.1).reverse)) ∧ LvS C B G p as st ∧ st.length ≤ n + 1 ∧ ∀ v ∈ st, v.ks.length ≤ n
theorem held_cons {C : Addr} {B G : DG} {p : Addr} {v : Lv} {r : List Lv} {n : Nat} (h : Held C B G p (v :: r) n) : ∃ a l L, G p = some (.lst (L ++ [.ref a])) ∧ L.length = r.length ∧ LvAt C G a l v ∧ v.ks.length ≤ n ∧ r.length ≤ n ∧ a ≠ p ∧ l ≠ p ∧
    (∀ G' l' v', Frm [a, l] G G' → LvAt C G' a l' v' → (l' = l ∨ G l' = none) → v'.ks.length ≤ n + 1 → Held C B G' p (v' :: r) (n + 1)) ∧
    (∀ G', Upd G p G' → G' p = some (.lst L) → Held C B G' p r n) := by
  obtain ⟨as, sB, bp, hp, hs, hn, hk⟩ := h
  cases hs with
  | @cons a l _ as _ hv np b1 b2 ne hs =>
    have hn' : r.length ≤ n := by rw [List.length_cons] at hn; omega
    have hp' : G p = some (.lst ((as.map fun b => DV.ref b.1).reverse ++ [.ref a])) := by rw [hp, List.map_cons, List.reverse_cons]
    have pa : p ≠ a := fun e => by rw [e, hv.1] at hp; cases hp
    refine ⟨a, l, _, hp', by rw [List.length_reverse, List.length_map]; exact hs.len, hv, hk v (List.mem_cons_self ..), hn', Ne.symm pa, np, fun G' l' v' f hv' hl hk' => ?_, fun G' u e => ?_⟩
    · have nA : ∀ x ∈ ([a, l] : List Addr), B x = none := fun x hx => by
        rcases List.mem_cons.mp hx with rfl | hx
        · exact b1
        · rw [List.mem_singleton.mp hx]; exact b2
      have pn : p ∉ ([a, l] : List Addr) := fun hx => by
        rcases List.mem_cons.mp hx with e | hx
        · exact pa e
        · exact np (List.mem_singleton.mp hx).symm
      refine ⟨(a, l') :: as, fun x o e => f x o (fun hx => by rw [nA x hx] at e; cases e) (sB x o e), bp, ?_, .cons hv' ?_ b1 ?_ ?_ (hs.frm f fun b hb => ?_), ?_, ?_⟩
      · rw [List.map_cons, List.reverse_cons]; exact f p _ pn hp'
      · rcases hl with rfl | hl
        · exact np
        · exact fun e => by rw [e, hp] at hl; cases hl
      · rcases hl with rfl | hl
        · exact b2
        · cases e : B l' with
          | none => rfl
          | some o => rw [sB _ _ e] at hl; cases hl
      · intro b hb
        refine ⟨(ne b hb).1, ?_⟩
        rcases hl with rfl | hl
        · exact (ne b hb).2
        · obtain ⟨_, ⟨ds, e⟩, _⟩ := hs.at b hb
          exact fun q => by rw [q, hl] at e; cases e
      · obtain ⟨⟨fs, e1⟩, ⟨ds, e2⟩, _⟩ := hs.at b hb
        refine ⟨fun hx => ?_, fun hx => ?_⟩
        · rcases List.mem_cons.mp hx with e | hx
          · exact (ne b hb).1 e
          · rw [List.mem_singleton.mp hx, hv.2] at e1; cases e1
        · rcases List.mem_cons.mp hx with e | hx
          · rw [e, hv.1] at e2; cases e2
          · exact (ne b hb).2 (List.mem_singleton.mp hx)
      · rw [List.length_cons]; omega
      · intro u hu
        rcases List.mem_cons.mp hu with rfl | hu
        · exact hk'
        · have := hk u (List.mem_cons_of_mem _ hu); omega
    · refine ⟨as, fun x o q => (Frm.upd u) x o (fun z => by rw [List.mem_singleton.mp z, bp] at q; cases q) (sB x o q), bp, e, hs.frm (Frm.upd u) fun b hb => ?_, by omega, fun u hu => hk u (List.mem_cons_of_mem _ hu)⟩
      obtain ⟨⟨fs, e1⟩, _, e3⟩ := hs.at b hb
      exact ⟨fun z => (by rw [List.mem_singleton.mp z, hp] at e1; cases e1), fun z => e3 (List.mem_singleton.mp z)⟩
theorem held_lst {C : Addr} {B G : DG} {p : Addr} {st : List Lv} {n : Nat} (h : Held C B G p st n) : ∃ L, G p = some (.lst L) ∧ L.length ≤ n + 1 ∧
    ∀ a l G1 G2 v, G a = none → (dupd G a (.obj C [])) l = none → Frm [a] (dupd G a (.obj C [])) G1 → LvAt C G1 a l v → v.ks = [] → Upd G1 p G2 → G2 p = some (.lst (L ++ [.ref a])) → Held C B G2 p (v :: st) (n + 1) := by
  obtain ⟨as, sB, bp, hp, hs, hn, hk⟩ := h
  refine ⟨_, hp, by rw [List.length_reverse, List.length_map, hs.len]; exact hn, fun a l G1 G2 v na nl f hv e0 u e2 => ?_⟩
  have la : l ≠ a := fun e => by rw [e, dupd_same] at nl; cases nl
  have nl' : G l = none := by rw [dupd_ne la] at nl; exact nl
  have pa : p ≠ a := fun e => by rw [e, na] at hp; cases hp
  have lp : l ≠ p := fun e => by rw [e, hp] at nl'; cases nl'
  have F : ∀ x o, x ≠ p → G x = some o → G2 x = some o := fun x o xp e => by
    have xa : x ≠ a := fun q => by rw [q, na] at e; cases e
    rw [u x xp]
    exact f x o (fun z => xa (List.mem_singleton.mp z)) (by rw [dupd_ne xa]; exact e)
  have nB : ∀ x, G x = none → B x = none := fun x hx => by
    cases e : B x with
    | none => rfl
    | some o => rw [sB _ _ e] at hx; cases hx
  refine ⟨(a, l) :: as, fun x o q => F x o (fun z => by rw [z, bp] at q; cases q) (sB x o q), bp, ?_, .cons ⟨(u a (Ne.symm pa)).trans hv.1, (u l lp).trans hv.2⟩ lp (nB a na) (nB l nl') ?_ (hs.frm (L := [p]) (fun x o z => F x o (fun q => z (List.mem_singleton.mpr q))) fun b hb => ?_), ?_, ?_⟩
  · rw [e2, List.map_cons, List.reverse_cons]
  · intro b hb
    obtain ⟨⟨fs, e1⟩, ⟨ds, e3⟩, _⟩ := hs.at b hb
    exact ⟨fun q => (by rw [q, na] at e1; cases e1), fun q => (by rw [q, nl'] at e3; cases e3)⟩
  · obtain ⟨⟨fs, e1⟩, _, e3⟩ := hs.at b hb
    exact ⟨fun z => (by rw [List.mem_singleton.mp z, hp] at e1; cases e1), fun z => e3 (List.mem_singleton.mp z)⟩
  · rw [List.length_cons]; omega
  · intro w hw
    rcases List.mem_cons.mp hw with rfl | hw
    · rw [e0]; exact Nat.zero_le _
    · have := hk w hw; omega
theorem look2_none {z a b ya yb : Str} (h1 : ¬ z = a) (h2 : ¬ z = b) : List.lookup z [(a, ya), (b, yb)] = none := by rw [look_cons, if_neg h1, look_cons, if_neg h2]; rfl
theorem look2_a {a b ya yb : Str} : List.lookup a [(a, ya), (b, yb)] = some ya := by rw [look_cons, if_pos rfl]
theorem look2_b {a b ya yb : Str} (h : ¬ b = a) : List.lookup b [(a, ya), (b, yb)] = some yb := by rw [look_cons, if_neg h, look_cons, if_pos rfl]
theorem az_AZ : ∀ c ∈ AZs, decide (c ∈ azs) = false := by decide
theorem gt_sm {z : Str} (h : gtB z = true) : smB z = false := by
  unfold gtB at h; unfold smB
  revert h
  cases TL.tl z with
  | nil => intro _; rfl
  | cons c r =>
    intro h
    unfold nmB at h ⊢
    have h1 := (Bool.and_eq_true_iff.mp h).1
    show (decide (c ∈ azs) && _) = false
    rw [az_AZ c (of_decide_eq_true h1)]; rfl
theorem ne_sm {z a : Str} (h : smB z = true) (g : smB a = false) : ¬ z = a := fun e => by rw [e, g] at h; cases h
theorem ne_gt {z a : Str} (h : gtB z = true) (g : gtB a = false) : ¬ z = a := fun e => by rw [e, g] at h; cases h
end DD
set_option maxHeartbeats 1000000
/-! marks of kinds read one by one, to a kind or to none -/
namespace DD
open PySem PySem.W L2 SX Cm
def clL : List Kd → Option Kd
  | [k] => some (.lst k)
  | _ => none
def clF (v : Lv) : Option Kd := if v.w = "row" then v.take.map fun t => .row t (.mk v.rest v.ks) else clL v.ks
def closeF (s0 : Str) : List Lv → Option (List Lv)
  | v :: u :: r => if v.w = s0 then (clF v).map fun k => { u with ks := u.ks ++ [k] } :: r else none
  | _ => none
def stepW (z : Str) : List Lv → Option (List Lv)
  | v :: r => if z = "[" then some (⟨"row", none, "", []⟩ :: v :: r) else if z = "{" then some (⟨"list", none, "", []⟩ :: v :: r) else if z = "]" then closeF "row" (v :: r) else if z = "}" then closeF "list" (v :: r)
    else if z = "--" then (if v.w = "list" ∨ v.take.isSome = true then none else some ({ v with take := some (.mk v.rest v.ks), rest := "", ks := [] } :: r))
    else if z = "number" then some ({ v with ks := v.ks ++ [.num] } :: r)
    else if smB z = true then some ({ v with ks := v.ks ++ [.opn z] } :: r)
    else if gtB z = true then (if v.w = "list" ∨ v.rest ≠ "" ∨ v.ks ≠ [] then none else some ({ v with rest := z } :: r))
    else none
  | [] => none
def runLv : List Str → List Lv → Option (List Lv)
  | [], st => some st
  | z :: r, st => (stepW z st).bind (runLv r)
def endW : List Lv → Option (Sk × Sk)
  | [v] => v.take.map fun t => (t, .mk v.rest v.ks)
  | _ => none
abbrev lv0 : Lv := ⟨"row", none, "", []⟩
/-- the kind whose marks these are -/
def toldK (W : List Str) : Option (Sk × Sk) := (runLv W [lv0]).bind endW
theorem stepW_eq (z : Str) (v : Lv) (r : List Lv) : stepW z (v :: r) = if z = "[" then some (⟨"row", none, "", []⟩ :: v :: r) else if z = "{" then some (⟨"list", none, "", []⟩ :: v :: r) else if z = "]" then closeF "row" (v :: r) else if z = "}" then closeF "list" (v :: r)
    else if z = "--" then (if v.w = "list" ∨ v.take.isSome = true then none else some ({ v with take := some (.mk v.rest v.ks), rest := "", ks := [] } :: r))
    else if z = "number" then some ({ v with ks := v.ks ++ [.num] } :: r)
    else if smB z = true then some ({ v with ks := v.ks ++ [.opn z] } :: r)
    else if gtB z = true then (if v.w = "list" ∨ v.rest ≠ "" ∨ v.ks ≠ [] then none else some ({ v with rest := z } :: r))
    else none := rfl
abbrev fixW : List Str := ["[", "{", "]", "}", "--", "number"]
theorem fix_no : ∀ z ∈ fixW, smB z = false ∧ gtB z = false := by decide +kernel
theorem stepW_free {z : Str} {v : Lv} {r : List Lv} (h : z ∉ fixW) : stepW z (v :: r) = if smB z = true then some ({ v with ks := v.ks ++ [.opn z] } :: r) else if gtB z = true then (if v.w = "list" ∨ v.rest ≠ "" ∨ v.ks ≠ [] then none else some ({ v with rest := z } :: r)) else none := by
  rw [stepW_eq, if_neg (fun e => h (by rw [e]; decide +kernel)), if_neg (fun e => h (by rw [e]; decide +kernel)), if_neg (fun e => h (by rw [e]; decide +kernel)), if_neg (fun e => h (by rw [e]; decide +kernel)), if_neg (fun e => h (by rw [e]; decide +kernel)), if_neg (fun e => h (by rw [e]; decide +kernel))]
theorem sw_o (v : Lv) (r : List Lv) : stepW "[" (v :: r) = some (⟨"row", none, "", []⟩ :: v :: r) := by rw [stepW_eq, if_pos rfl]
theorem sw_b (v : Lv) (r : List Lv) : stepW "{" (v :: r) = some (⟨"list", none, "", []⟩ :: v :: r) := by rw [stepW_eq, if_neg (by decide +kernel), if_pos rfl]
theorem sw_c (v : Lv) (r : List Lv) : stepW "]" (v :: r) = closeF "row" (v :: r) := by rw [stepW_eq, if_neg (by decide +kernel), if_neg (by decide +kernel), if_pos rfl]
theorem sw_d (v : Lv) (r : List Lv) : stepW "}" (v :: r) = closeF "list" (v :: r) := by rw [stepW_eq, if_neg (by decide +kernel), if_neg (by decide +kernel), if_neg (by decide +kernel), if_pos rfl]
theorem sw_s (v : Lv) (r : List Lv) : stepW "--" (v :: r) = if v.w = "list" ∨ v.take.isSome = true then none else some ({ v with take := some (.mk v.rest v.ks), rest := "", ks := [] } :: r) := by rw [stepW_eq, if_neg (by decide +kernel), if_neg (by decide +kernel), if_neg (by decide +kernel), if_neg (by decide +kernel), if_pos rfl]
theorem sw_n (v : Lv) (r : List Lv) : stepW "number" (v :: r) = some ({ v with ks := v.ks ++ [.num] } :: r) := by rw [stepW_eq, if_neg (by decide +kernel), if_neg (by decide +kernel), if_neg (by decide +kernel), if_neg (by decide +kernel), if_neg (by decide +kernel), if_pos rfl]
theorem sm_free {z : Str} (h : smB z = true) : z ∉ fixW := fun m => by rw [(fix_no z m).1] at h; cases h
theorem gt_free {z : Str} (h : gtB z = true) : z ∉ fixW := fun m => by rw [(fix_no z m).2] at h; cases h
theorem ne_rl : ¬ (("row" : Str) = "list") := by decide +kernel
theorem ne_lr : ¬ (("list" : Str) = "row") := by decide +kernel
theorem cl_clF {v : Lv} {k : Kd} (h : Cl v k) : clF v = some k := by
  cases h with
  | row => unfold clF; rw [if_pos rfl]; rfl
  | lst => unfold clF; rw [if_neg ne_lr]; rfl
theorem stp_step {st st' : List Lv} {z : Str} (h : Stp st z st') (ne : st ≠ []) : stepW z st = some st' := by
  cases h with
  | opR => match st, ne with | v :: r, _ => exact sw_o v r
  | opL => match st, ne with | v :: r, _ => exact sw_b v r
  | @clR v u r k e c => rw [sw_c]; show (if v.w = "row" then (clF v).map _ else none) = _; rw [if_pos e, cl_clF c]; rfl
  | @clL v u r k e c => rw [sw_d]; show (if v.w = "list" then (clF v).map _ else none) = _; rw [if_pos e, cl_clF c]; rfl
  | @sides v r e1 e2 => rw [sw_s, if_neg (fun h => by rcases h with h | h; exact ne_rl (e1.symm.trans h); rw [e2] at h; cases h)]
  | @num v r => exact sw_n v r
  | @opn v r z h => rw [stepW_free (sm_free h), if_pos h]
  | @rest v r z h e1 e2 e3 => rw [stepW_free (gt_free h), if_neg (by rw [gt_sm h]; decide), if_pos h, if_neg (fun q => by rcases q with q | q | q; exact ne_rl (e1.symm.trans q); exact q e2; exact q e3)]
theorem stp_ne {st st' : List Lv} {z : Str} (h : Stp st z st') : st' ≠ [] := by cases h <;> exact List.cons_ne_nil _ _
theorem runs_run {a b : List Lv} {W : List Str} (h : Runs a W b) (ne : a ≠ []) : runLv W a = some b := by
  induction h with
  | nil => rfl
  | cons s _ ih =>
    show (stepW _ _).bind (runLv _) = _
    rw [stp_step s ne]
    exact ih (stp_ne s)
theorem told_mk {s t : Sk} (h1 : NS smP grP s) (h2 : NS smP grP t) : toldK (mkR (s, t)) = some (s, t) := by
  unfold toldK
  rw [runs_run (run_R h1 h2) (List.cons_ne_nil _ _)]
  cases t; rfl
theorem closeF_ne {s0 : Str} {st st' : List Lv} (e : closeF s0 st = some st') : st' ≠ [] := by
  match st, e with
  | v :: u :: r, e =>
    have e : (if v.w = s0 then (clF v).map fun k => { u with ks := u.ks ++ [k] } :: r else none) = some st' := e
    by_cases h : v.w = s0
    · rw [if_pos h] at e
      cases hc : clF v with
      | none => rw [hc] at e; cases e
      | some k => rw [hc] at e; cases e; exact List.cons_ne_nil _ _
    · rw [if_neg h] at e; cases e
theorem stepW_ne {z : Str} {st st' : List Lv} (e : stepW z st = some st') : st' ≠ [] := by
  match st, e with
  | v :: r, e =>
    by_cases m : z ∈ fixW
    · simp only [List.mem_cons, List.not_mem_nil, or_false] at m
      rcases m with rfl | rfl | rfl | rfl | rfl | rfl
      · rw [sw_o] at e; cases e; exact List.cons_ne_nil _ _
      · rw [sw_b] at e; cases e; exact List.cons_ne_nil _ _
      · rw [sw_c] at e; exact closeF_ne e
      · rw [sw_d] at e; exact closeF_ne e
      · rw [sw_s] at e
        by_cases c : v.w = "list" ∨ v.take.isSome = true
        · rw [if_pos c] at e; cases e
        · rw [if_neg c] at e; cases e; exact List.cons_ne_nil _ _
      · rw [sw_n] at e; cases e; exact List.cons_ne_nil _ _
    · rw [stepW_free m] at e
      by_cases hs : smB z = true
      · rw [if_pos hs] at e; cases e; exact List.cons_ne_nil _ _
      · rw [if_neg hs] at e
        by_cases hg : gtB z = true
        · rw [if_pos hg] at e
          by_cases c : v.w = "list" ∨ v.rest ≠ "" ∨ v.ks ≠ []
          · rw [if_pos c] at e; cases e
          · rw [if_neg c] at e; cases e; exact List.cons_ne_nil _ _
        · rw [if_neg hg] at e; cases e
/-! back from the levels to the marks -/
def unV (v : Lv) : List Str := (match v.take with
  | some s => mkS s ++ [("--" : Str)]
  | none => []) ++ mkS (.mk v.rest v.ks)
def opW (v : Lv) : Str := if v.w = "row" then "[" else "{"
def unp : List Lv → List Str
  | [] => []
  | [v] => unV v
  | v :: u :: r => unp (u :: r) ++ opW v :: unV v
structure ValV (v : Lv) : Prop where
  sh : v.w = "row" ∨ (v.w = "list" ∧ v.take = none ∧ v.rest = "")
  ks : NKs smP grP v.ks
  rs : grP v.rest
  tk : ∀ s, v.take = some s → NS smP grP s
theorem mkKs_snoc (k : Kd) : ∀ a : List Kd, mkKs (a ++ [k]) = mkKs a ++ mkK k
  | [] => by show mkK k ++ [] = mkK k; rw [List.append_nil]
  | b :: r => by show mkK b ++ mkKs (r ++ [k]) = (mkK b ++ mkKs r) ++ mkK k; rw [mkKs_snoc k r, List.append_assoc]
theorem nks_snoc {k : Kd} (h : NK smP grP k) : ∀ {a : List Kd}, NKs smP grP a → NKs smP grP (a ++ [k])
  | [], _ => ⟨h, trivial⟩
  | _ :: _, g => ⟨g.1, nks_snoc h g.2⟩
theorem unV_snoc (v : Lv) (k : Kd) : unV { v with ks := v.ks ++ [k] } = unV v ++ mkK k := by
  unfold unV
  show _ ++ ((if v.rest = "" then [] else [v.rest]) ++ mkKs (v.ks ++ [k])) = (_ ++ ((if v.rest = "" then [] else [v.rest]) ++ mkKs v.ks)) ++ mkK k
  rw [mkKs_snoc]
  simp only [List.append_assoc]
theorem unp_top {v v' : Lv} {r : List Lv} {W : List Str} (hw : v'.w = v.w) (h : unV v' = unV v ++ W) : unp (v' :: r) = unp (v :: r) ++ W := by
  cases r with
  | nil => exact h
  | cons u r =>
    show unp (u :: r) ++ opW v' :: unV v' = (unp (u :: r) ++ opW v :: unV v) ++ W
    unfold opW
    rw [hw, h, List.append_assoc]; rfl
theorem val_snoc {v : Lv} {k : Kd} (h : ValV v) (g : NK smP grP k) : ValV { v with ks := v.ks ++ [k] } := ⟨h.sh, nks_snoc g h.ks, h.rs, h.tk⟩
theorem val_new (w : Str) (h : w = "row" ∨ w = "list") : ValV ⟨w, none, "", []⟩ := ⟨by rcases h with h | h; exact .inl h; exact .inr ⟨h, rfl, rfl⟩, trivial, .inl rfl, fun s e => nomatch e⟩
theorem clF_un {v : Lv} {k : Kd} (h : ValV v) (e : clF v = some k) : NK smP grP k ∧ mkK k = opW v :: (unV v ++ [if v.w = "row" then ("]" : Str) else "}"]) := by
  unfold clF at e
  by_cases hw : v.w = "row"
  · rw [if_pos hw] at e
    cases ht : v.take with
    | none => rw [ht] at e; cases e
    | some t =>
      rw [ht] at e
      cases e
      refine ⟨⟨h.tk t ht, h.rs, h.ks⟩, ?_⟩
      unfold opW unV
      rw [if_pos hw, if_pos hw, ht]
      show ("[" : Str) :: (mkS t ++ ("--" : Str) :: (mkS (.mk v.rest v.ks) ++ [("]" : Str)])) = _
      rw [List.append_assoc, List.append_assoc]; rfl
  · rw [if_neg hw] at e
    rcases h.sh with h1 | ⟨h1, h2, h3⟩
    · exact absurd h1 hw
    · match hk : v.ks, e with
      | [k'], e =>
        cases e
        have hks := h.ks
        rw [hk] at hks
        refine ⟨hks.1, ?_⟩
        unfold opW unV
        rw [if_neg hw, if_neg hw, h2, h3, hk]
        show ("{" : Str) :: (mkK k' ++ [("}" : Str)]) = ("{" : Str) :: (([] ++ ([] ++ (mkK k' ++ []))) ++ [("}" : Str)])
        rw [List.nil_append, List.nil_append, List.append_nil]
theorem close_un {s0 : Str} {st st' : List Lv} (hs : s0 = "row" ∨ s0 = "list") (h : ∀ v ∈ st, ValV v) (e : closeF s0 st = some st') : (∀ v ∈ st', ValV v) ∧ unp st' = unp st ++ [if s0 = "row" then ("]" : Str) else "}"] ∧ st' ≠ [] := by
  match st, e with
  | v :: u :: r, e =>
    have e : (if v.w = s0 then (clF v).map fun k => { u with ks := u.ks ++ [k] } :: r else none) = some st' := e
    by_cases hw : v.w = s0
    · rw [if_pos hw] at e
      cases hc : clF v with
      | none => rw [hc] at e; cases e
      | some k =>
        rw [hc] at e
        cases e
        obtain ⟨n1, n2⟩ := clF_un (h v (List.mem_cons_self ..)) hc
        refine ⟨fun x hx => ?_, ?_, List.cons_ne_nil _ _⟩
        · rcases List.mem_cons.mp hx with rfl | hx
          · exact val_snoc (h u (List.mem_cons_of_mem _ (List.mem_cons_self ..))) n1
          · exact h x (List.mem_cons_of_mem _ (List.mem_cons_of_mem _ hx))
        · rw [unp_top (v := u) (v' := { u with ks := u.ks ++ [k] }) rfl (unV_snoc u k), n2, ← hw]
          show _ = (unp (u :: r) ++ opW v :: unV v) ++ _
          rw [List.append_assoc]; rfl
    · rw [if_neg hw] at e; cases e
theorem step_un {z : Str} {st st' : List Lv} (ne : st ≠ []) (h : ∀ v ∈ st, ValV v) (e : stepW z st = some st') : (∀ v ∈ st', ValV v) ∧ unp st' = unp st ++ [z] ∧ st' ≠ [] := by
  match st, ne with
  | v :: r, _ =>
  have hv := h v (List.mem_cons_self ..)
  have hr : ∀ x ∈ r, ValV x := fun x hx => h x (List.mem_cons_of_mem _ hx)
  have app : ∀ k : Kd, NK smP grP k → mkK k = [z] → some ({ v with ks := v.ks ++ [k] } :: r) = some st' → (∀ v ∈ st', ValV v) ∧ unp st' = unp (v :: r) ++ [z] ∧ st' ≠ [] := fun k hk ek e => by
    cases e
    refine ⟨fun x hx => ?_, ?_, List.cons_ne_nil _ _⟩
    · rcases List.mem_cons.mp hx with rfl | hx
      · exact val_snoc hv hk
      · exact hr x hx
    · rw [unp_top (v := v) (v' := { v with ks := v.ks ++ [k] }) rfl (unV_snoc v k), ek]
  have opn : ∀ w : Str, (w = "row" ∨ w = "list") → z = (if w = "row" then ("[" : Str) else "{") → some (⟨w, none, "", []⟩ :: v :: r) = some st' → (∀ v ∈ st', ValV v) ∧ unp st' = unp (v :: r) ++ [z] ∧ st' ≠ [] := fun w hw ez e => by
    cases e
    refine ⟨fun x hx => ?_, ?_, List.cons_ne_nil _ _⟩
    · rcases List.mem_cons.mp hx with rfl | hx
      · exact val_new w hw
      · exact h x hx
    · show unp (v :: r) ++ opW ⟨w, none, "", []⟩ :: unV ⟨w, none, "", []⟩ = _
      rw [ez]; rfl
  by_cases m : z ∈ fixW
  · simp only [List.mem_cons, List.not_mem_nil, or_false] at m
    rcases m with rfl | rfl | rfl | rfl | rfl | rfl
    · rw [sw_o] at e; exact opn "row" (.inl rfl) rfl e
    · rw [sw_b] at e; exact opn "list" (.inr rfl) (by rw [if_neg ne_lr]) e
    · rw [sw_c] at e
      have := close_un (.inl rfl) h e
      rw [if_pos rfl] at this; exact this
    · rw [sw_d] at e
      have := close_un (.inr rfl) h e
      rw [if_neg ne_lr] at this; exact this
    · rw [sw_s] at e
      by_cases c : v.w = "list" ∨ v.take.isSome = true
      · rw [if_pos c] at e; cases e
      · rw [if_neg c] at e
        cases e
        have hw : v.w = "row" := hv.sh.resolve_right fun q => c (.inl q.1)
        have ht : v.take = none := by
          cases ht : v.take with
          | none => rfl
          | some s => exact absurd (.inr (by rw [ht]; rfl)) c
        refine ⟨fun x hx => ?_, unp_top (v := v) rfl ?_, List.cons_ne_nil _ _⟩
        · rcases List.mem_cons.mp hx with rfl | hx
          · exact ⟨.inl hw, trivial, .inl rfl, fun s es => by cases es; exact ⟨hv.rs, hv.ks⟩⟩
          · exact hr x hx
        · unfold unV
          rw [ht]
          show (mkS (.mk v.rest v.ks) ++ [("--" : Str)]) ++ ([] ++ []) = ([] ++ mkS (.mk v.rest v.ks)) ++ [("--" : Str)]
          rw [List.nil_append, List.append_nil, List.nil_append]
    · rw [sw_n] at e; exact app .num trivial rfl e
  · rw [stepW_free m] at e
    by_cases hs : smB z = true
    · rw [if_pos hs] at e; exact app (.opn z) hs rfl e
    · rw [if_neg hs] at e
      by_cases hg : gtB z = true
      · rw [if_pos hg] at e
        by_cases c : v.w = "list" ∨ v.rest ≠ "" ∨ v.ks ≠ []
        · rw [if_pos c] at e; cases e
        · rw [if_neg c] at e
          cases e
          have hw : v.w = "row" := hv.sh.resolve_right fun q => c (.inl q.1)
          have e2 : v.rest = "" := Classical.byContradiction fun q => c (.inr (.inl q))
          have e3 : v.ks = [] := Classical.byContradiction fun q => c (.inr (.inr q))
          refine ⟨fun x hx => ?_, unp_top (v := v) rfl ?_, List.cons_ne_nil _ _⟩
          · rcases List.mem_cons.mp hx with rfl | hx
            · exact ⟨.inl hw, hv.ks, .inr hg, hv.tk⟩
            · exact hr x hx
          · have nz : ¬ z = "" := fun q => by rw [q] at hg; exact absurd hg (by decide +kernel)
            unfold unV
            rw [e2, e3]
            show _ ++ ((if z = "" then [] else [z]) ++ []) = (_ ++ ([] ++ [])) ++ [z]
            rw [if_neg nz, List.append_nil, List.append_nil, List.append_nil]
      · rw [if_neg hg] at e; cases e
theorem run_un : ∀ (W : List Str) {st st' : List Lv}, st ≠ [] → (∀ v ∈ st, ValV v) → runLv W st = some st' → (∀ v ∈ st', ValV v) ∧ unp st' = unp st ++ W ∧ st' ≠ []
  | [], st, st', ne, h, e => by cases e; exact ⟨h, by rw [List.append_nil], ne⟩
  | z :: W, st, st', ne, h, e => by
    have e : (stepW z st).bind (runLv W) = some st' := e
    cases e1 : stepW z st with
    | none => rw [e1] at e; cases e
    | some st1 =>
      rw [e1] at e
      obtain ⟨a1, a2, a3⟩ := step_un ne h e1
      obtain ⟨b1, b2, b3⟩ := run_un W a3 a1 e
      exact ⟨b1, by rw [b2, a2, List.append_assoc]; rfl, b3⟩
theorem told_un {W : List Str} {s t : Sk} (e : toldK W = some (s, t)) : W = mkR (s, t) ∧ NS smP grP s ∧ NS smP grP t := by
  unfold toldK at e
  cases e1 : runLv W [lv0] with
  | none => rw [e1] at e; cases e
  | some st =>
    rw [e1] at e
    obtain ⟨a1, a2, _⟩ := run_un W (List.cons_ne_nil _ _) (fun v hv => by rw [List.mem_singleton.mp hv]; exact val_new "row" (.inl rfl)) e1
    match st, e with
    | [v], e =>
      have hv := a1 v (List.mem_cons_self ..)
      have e : (v.take.map fun t => (t, Sk.mk v.rest v.ks)) = some (s, t) := e
      cases ht : v.take with
      | none => rw [ht] at e; cases e
      | some t' =>
        rw [ht] at e
        cases e
        refine ⟨?_, hv.tk _ ht, hv.rs, hv.ks⟩
        have a2 : unV v = [] ++ W := a2
        rw [List.nil_append] at a2
        rw [← a2]
        unfold unV
        rw [ht]
        show (mkS s ++ [("--" : Str)]) ++ mkS (.mk v.rest v.ks) = mkS s ++ ("--" : Str) :: mkS (.mk v.rest v.ks)
        rw [List.append_assoc]; rfl
/-- what is told, and what the marks are -/
theorem told_iff {W : List Str} {s t : Sk} : toldK W = some (s, t) ↔ W = mkR (s, t) ∧ NS smP grP s ∧ NS smP grP t := ⟨told_un, fun ⟨e, h1, h2⟩ => by rw [e]; exact told_mk h1 h2⟩
end DD
/-! a module's dict of texts: `in`, and what it holds -/
namespace DD
open PySem PySem.W L2 SX Cm
/-- at d a written dict with the texts of kvs -/
def TabD (K : Frag) (w : World) (d : Addr) (kvs : List (Str × Str)) : Prop :=
  ∃ es n, KDict K w d es n ∧ (∀ z, kvs.lookup z = none → nsIn K d z = some none) ∧ ∀ z y, kvs.lookup z = some y → ∃ t, nsIn K d z = some (some (.str y t))
theorem tabD_mk {K : Frag} {w : World} {d : Addr} {es : Array DictEntry} {n : Nat} {a b ya yb : Str} {ta tb : Tok} (l : K.lookup d = some ⟨.type "dict", none, .dict es n, #[]⟩) (lit : KeysLit w.params es.toList) (low : (d == sysModules) = false)
    (ha : nsIn K d a = some (some (.str ya ta))) (hb : nsIn K d b = some (some (.str yb tb))) (ks : es.toList.all (fun e => e.key.isStr a || e.key.isStr b) = true) (ne : ¬ b = a) : TabD K w d [(a, ya), (b, yb)] := by
  have isS : ∀ e ∈ es.toList, ∀ z, z ≠ a → z ≠ b → e.key.isStr z = false ∧ e.refKey = false := by
    intro e he z za zb
    obtain ⟨x, t, ek, _⟩ := KeysLit.all lit e he
    have h1 := List.all_eq_true.mp ks e he
    rw [isStr_of, isStr_of, ek] at h1
    refine ⟨?_, ?_⟩
    · rw [isStr_of, ek]
      have h2 : ((x == a) || (x == b)) = true := h1
      show (x == z) = false
      refine beq_eq_false_iff_ne.mpr fun q => ?_
      rcases Bool.or_eq_true_iff.mp h2 with h | h
      · exact za (q ▸ beq_iff_eq.mp h)
      · exact zb (q ▸ beq_iff_eq.mp h)
    · unfold DictEntry.refKey; rw [ek]
  refine ⟨es, n, ⟨l, lit, low⟩, fun z hz => ?_, fun z y hz => ?_⟩
  · rw [look_cons] at hz
    have za : z ≠ a := fun q => by rw [if_pos q] at hz; cases hz
    rw [if_neg za, look_cons] at hz
    have zb : z ≠ b := fun q => by rw [if_pos q] at hz; cases hz
    unfold nsIn
    rw [l]
    have f : es.toList.find? (fun e => e.key.isStr z) = none := List.find?_eq_none.mpr fun e he => by rw [(isS e he z za zb).1]; simp
    have g : (es.toList.any fun e => e.refKey) = false := List.any_eq_false.mpr fun e he => by rw [(isS e he z za zb).2]; simp
    show (match es.toList.find? (fun e => e.key.isStr z) with | some e => some (some e.val) | none => if (es.toList.any fun e => e.refKey) = true then none else some none) = some none
    rw [f]
    show (if (es.toList.any fun e => e.refKey) = true then none else some none) = some none
    rw [g]; rfl
  · rw [look_cons] at hz
    by_cases za : z = a
    · rw [if_pos za] at hz; cases hz; rw [za]; exact ⟨_, ha⟩
    · rw [if_neg za, look_cons] at hz
      by_cases zb : z = b
      · rw [if_pos zb] at hz; cases hz; rw [zb]; exact ⟨_, hb⟩
      · rw [if_neg zb] at hz; cases hz
section
variable {X : Cx} {d : Addr} {kvs : List (Str × Str)}
def bInK (d : Addr) (kvs : List (Str × Str)) : D2 := fun x y G Q => ∃ z, x = .str z ∧ y = .ref d ∧ Q (.bl (kvs.lookup z).isSome) G
theorem od_inK (T : TabD X.K X.w d kvs) : OpD X (compareOp .In) (bInK d kvs) := by
  obtain ⟨es, n, D, h0, h1⟩ := T
  refine ⟨_, op_in_kd D, fun x y vx vy H G R Q rx ry w h f => ?_⟩
  obtain ⟨z, rfl, rfl, q⟩ := h
  cases rx
  cases ry
  cases e : kvs.lookup z with
  | none =>
    rw [e] at q
    exact ⟨z, none, rfl, rfl, h0 z e, f _ _ _ _ q (TKs.refl H) w (.bl _)⟩
  | some y =>
    rw [e] at q
    obtain ⟨t, ht⟩ := h1 z y e
    exact ⟨z, some (.str y t), rfl, rfl, ht, f _ _ _ _ q (TKs.refl H) w (.bl _)⟩
def bIxK (d : Addr) (kvs : List (Str × Str)) : D2 := fun x y G Q => ∃ z v, x = .ref d ∧ y = .str z ∧ kvs.lookup z = some v ∧ Q (.str v) G
theorem de_kix {e1 e2 : Expr} {ta tb : TD} {pos : Pos} (T : TabD X.K X.w d kvs) (ha : DE X e1 ta) (hb : DE X e2 tb) (hs : PlainIx e2 := by exact fun _ _ => rfl) : DE X (.Subscript e1 e2 pos) (dOp (bIxK d kvs) ta tb) := by
  obtain ⟨es, n, D, h0, h1⟩ := T
  refine PE_mono (pe_ix (ix_kdict (X := X)) ha hb hs) fun σ H Q h => bin_up (r := rIxD X.K X.w) (fun x y vx vy H G R Q rx ry w h f => ?_) h
  obtain ⟨z, v, rfl, rfl, e, q⟩ := h
  cases rx
  cases ry
  obtain ⟨t, ht⟩ := h1 z v e
  exact ⟨d, z, .str v, rfl, rfl, ⟨es, n, _, D.at_, D.lit, ht, ⟨t, rfl⟩⟩, f _ _ _ _ q (TKs.refl H) w (.str _)⟩
theorem w_inK {z : Str} {G : DG} {Q : DK} (h : Q (.bl (kvs.lookup z).isSome) G) : bInK d kvs (.str z) (.ref d) G Q := ⟨z, rfl, rfl, h⟩
theorem w_ixK {z v : Str} {G : DG} {Q : DK} (e : kvs.lookup z = some v) (h : Q (.str v) G) : bIxK d kvs (.ref d) (.str z) G Q := ⟨z, v, rfl, rfl, e, h⟩
end
end DD
/-! a call of a local name that holds a def; x or y of tuples -/
namespace DD
open PySem PySem.W L2 SX Cm
/-- the def at f keeps a promise about data -/
def HasA (P : Program) (w : World) (K : Frag) (mg : Str → Option Value) (base : Heap) (k : Nat) (f : Addr) (ps : List Str) (dsp : DSp) : Prop :=
  ∃ fd, FnOk P w K mg base CX0 k f fd ps (toSp K ps.length dsp) ∧ L2.Binds K fd ps [] ∧ keepIn K (.ref f) = true
theorem Has.toA {P : Program} {w : World} {K : Frag} {mg : Str → Option Value} {base : Heap} {k : Nat} {nm : Str} {ps : List Str} {dsp : DSp} (h : Has P w K mg base k nm ps dsp) : ∃ f, HasA P w K mg base k f ps dsp ∧ mg nm = some (.ref f) := by
  obtain ⟨f, fd, a, b, c, m, _⟩ := h
  exact ⟨f, ⟨fd, a, b, c⟩, m⟩
section
variable {X : Cx} {k i : Nat} {f : Addr} {ps : List Str} {dsp : DSp} {x : Str} {e : Expr} {es : List Expr} {ts : TDA} {p pos : Pos}
def dCallL (i : Nat) (f : Addr) (n : Nat) (dsp : DSp) (t : TDA) : TD := fun δ G Q => δ[i]? = some (some (.ref f)) ∧ t δ G fun ds G1 => ds.length = n ∧ dsp ds G1 Q
theorem Sl.get_ref {K : Frag} {H : Hp} : ∀ {σ : St} {δ : DSt} {i : Nat}, Sl K H σ δ → δ[i]? = some (some (.ref f)) → σ[i]? = some (some (.ref f))
  | _, _, 0, .cons r _, e => by cases e; cases r; rfl
  | _, _, 0, .non _, e => by cases e
  | _, _, i + 1, .cons _ t, e => Sl.get_ref (i := i) t e
  | _, _, i + 1, .non t, e => Sl.get_ref (i := i) t e
  | _, _, _, .nil, e => by cases e
theorem de_callL (h : HasA X.prog X.w X.K X.mg X.base k f ps dsp) (hr : Room k X.A) (hN : X.N[i]? = some x) (hv : Vis X.env.scope x) (ha : DA X (e :: es) ts)
    (hdb : (x == ("__debug__" : Str)) = false := by decide) (hcd : (x == ("__classdict__" : Str)) = false := by decide)
    (he : starEach (e :: es) X.env = (false, eval e X.env) :: starEach es X.env := by rfl) (hpl : (backTo pos (starEach es X.env)).any (·.1) = false := by rfl) :
    DE X (.Call (.Name x p) (e :: es) [] pos) (dCallL i f ps.length dsp ts) := by
  obtain ⟨fd, F, b, kp⟩ := h
  refine PE_mono (pe_callL F hr hN hv kp b .nil (pass0 (X := X)) ha hdb hcd he hpl) fun σ H Q ⟨δ, G, R, sl, w, ⟨hs, h⟩, f⟩ => ⟨Sl.get_ref sl hs, δ, G, _, sl, w, h, fun ds G1 vs H1 h1 t1 w1 r1 => ?_⟩
  show toSp X.K ps.length dsp (vs ++ []) H1 Q E0
  rw [List.append_nil]
  exact ⟨ds, G1, R, r1, w1, h1.1, h1.2, f.step t1⟩
theorem w_callL {δ : DSt} {G : DG} {Q : DK} {n : Nat} (hs : δ[i]? = some (some (.ref f))) (h : ts δ G fun ds G1 => ds.length = n ∧ dsp ds G1 Q) : dCallL i f n dsp ts δ G Q := ⟨hs, h⟩
/-- x or y, x a tuple -/
def dOrT (ta tb : TD) : TD := fun δ G Q => ta δ G fun x G1 => ∃ ds, x = .tup ds ∧ if (!ds.isEmpty) = true then Q (.tup ds) G1 else tb δ G1 Q
theorem de_orT {a b : Expr} {rest : List Expr} {ta tb : TD} (ha : DE X a ta) (hb : DE X (.BoolOp .Or (b :: rest) pos) tb) : DE X (.BoolOp .Or (a :: b :: rest) pos) (dOrT ta tb) :=
  PE_mono (pe_orT ha hb) fun σ H Q ⟨δ, G, R, sl, w, q, f⟩ => ⟨δ, G, _, sl, w, q, fun d G1 v H1 ⟨ds, e, h⟩ t1 w1 r1 => by
    subst e
    obtain ⟨a, xs, rfl, s, r⟩ := r1.tupD
    have l := r.len
    refine ⟨!xs.isEmpty, .inr (.inl ⟨xs, s, rfl⟩), ?_⟩
    have e : xs.isEmpty = ds.isEmpty := by
      cases xs with
      | nil => cases r; rfl
      | cons _ _ => cases r; rfl
    rw [e]
    cases hb' : !ds.isEmpty with
    | true =>
      rw [hb'] at h
      exact f _ _ _ _ h t1 w1 r1
    | false =>
      rw [hb'] at h
      exact ⟨δ, G1, R, sl.mono t1, w1, h, f.step t1⟩⟩
theorem w_orT {ta tb : TD} {δ : DSt} {G : DG} {Q : DK} (h : ta δ G fun x G1 => ∃ ds, x = .tup ds ∧ if (!ds.isEmpty) = true then Q (.tup ds) G1 else tb δ G1 Q) : dOrT ta tb δ G Q := h
end
end DD
/-! promises of two outcomes over data: a value, or an error of a class -/
namespace DD
open PySem PySem.W L2 SX Cm
abbrev DXk := Value → DG → Prop
def FinX (K : Frag) (H : Hp) (RX : DXk) (E : XK) : Prop := ∀ cls G H', RX cls G → TKs K H H' → Wd K H' G → E cls none H'
theorem FinX.step {K : Frag} {H H1 : Hp} {RX : DXk} {E : XK} (f : FinX K H RX E) (t : TKs K H H1) : FinX K H1 RX E := fun c G H' r t' w => f c G H' r (t.trans t') w
theorem inv_tks {X : Cx} {pins : List (Addr × Obj)} {σ : L2.St} {H : Hp} {s : Shared} (I : Inv X pins σ H s) : TKs X.K X.H_0 H := fun a xs h => by
  rcases h with (h | ⟨o, h⟩) | h
  · exact .inl (.inl (I.base.tups _ _ h))
  · exact .inl (.inr ⟨o, I.base.frzs _ _ _ h⟩)
  · exact .inr h
abbrev DSpX := List DV → DG → DK → DXk → Prop
def toSpX (K : Frag) (n : Nat) (dsp : DSpX) : Sp := fun vs H Q E => ∃ ds G R RX, RVs K H vs ds ∧ Wd K H G ∧ ds.length = n ∧ dsp ds G R RX ∧ Fin K H R Q ∧ FinX K H RX E
/-- less is known of the store where an error is let out -/
def LessX (RX : DXk) : DXk := fun c G => ∃ G', Sub G' G ∧ RX c G'
theorem LessX.of {RX : DXk} {c : Value} {G : DG} (h : RX c G) : LessX RX c G := ⟨G, Sub.refl G, h⟩
theorem FinX.less {K : Frag} {H : Hp} {RX : DXk} {E : XK} (f : FinX K H RX E) : FinX K H (LessX RX) E := fun c G H' ⟨G', s, r⟩ t w => f c G' H' r t (w.sub s)
/-- the def nm keeps a promise of two outcomes, by level k -/
def HasX (P : Program) (w : World) (K : Frag) (mg : Str → Option Value) (base : Heap) (k : Nat) (nm : Str) (ps : List Str) (dsp : DSpX) : Prop :=
  ∃ f fd, FnOk P w K mg base (L2.CX P w) k f fd ps (toSpX K ps.length dsp) ∧ L2.Binds K fd ps [] ∧ keepIn K (.ref f) = true ∧ mg nm = some (.ref f) ∧ ∃ oc od osl, K.lookup f = some ⟨oc, od, .func fd, osl⟩
/-- the def at f keeps a promise of two outcomes -/
def HasAX (P : Program) (w : World) (K : Frag) (mg : Str → Option Value) (base : Heap) (k : Nat) (f : Addr) (ps : List Str) (dsp : DSpX) : Prop :=
  ∃ fd, FnOk P w K mg base (L2.CX P w) k f fd ps (toSpX K ps.length dsp) ∧ L2.Binds K fd ps [] ∧ keepIn K (.ref f) = true
theorem HasX.toA {P : Program} {w : World} {K : Frag} {mg : Str → Option Value} {base : Heap} {k : Nat} {nm : Str} {ps : List Str} {dsp : DSpX} (h : HasX P w K mg base k nm ps dsp) : ∃ f, HasAX P w K mg base k f ps dsp ∧ mg nm = some (.ref f) := by
  obtain ⟨f, fd, a, b, c, m, _⟩ := h
  exact ⟨f, ⟨fd, a, b, c⟩, m⟩
/-! ### defs -/
section
variable {P : Program} {w : World} {K : Frag} {mg : Str → Option Value} {base : Heap}
theorem hasx_mk {nm : Str} {st : Stmt} {f : Addr} {fd : FuncData} {N ps : List Str} {k : Nat} {dsp : DSpX} (F : Fun K nm nm st f fd) (b : L2.Binds K fd ps []) (m : mg nm = some (.ref f)) (S : FnScope N ps (defScope st))
    (body : ∀ (cdv : Value) (A : Around) (outer : List Env) (s : Shared) (H : Hp) (E : XK), Room k (A.deeper (PyProof.Rows.envOfC nm (defScope st) s.heap.objs.size f cdv)) → ∀ ds G R RX, ds.length = ps.length → FinX K H (LessX RX) E → dsp ds G R RX →
      ∃ t, DSs (cxOf (L2.CX P w) P w K mg base N nm (defScope st) f cdv A outer s H E) (defBody st) t ∧ t { nx := fun _ G => Less R .non G, rt := Less R } (dstart N ds) G) : HasX P w K mg base (k + 1) nm ps dsp := by
  refine ⟨f, fd, F.okX S (fun vs H Q E h => ?_) (fun cdv A outer s H vs Q E hr h => ?_), b, F.kp, m, F.look⟩
  · obtain ⟨ds, G, R, RX, r, w, l, _⟩ := h
    rw [r.len]; exact l
  · obtain ⟨ds, G, R, RX, r, wd, l, h, fin, fx⟩ := h
    obtain ⟨t, h1, h2⟩ := body cdv A outer s H E hr ds G R RX l fx.less h
    exact ⟨_, h1, _, _, G, sl_start r, wd, links_def fin, h2⟩
theorem atx_mk {nm : Str} {st : Stmt} {N ps : List Str} {k : Nat} {dsp : DSpX} (a : At K mg nm st ps) (S : FnScope N ps (defScope st))
    (body : ∀ (f : Addr) (cdv : Value) (A : Around) (outer : List Env) (s : Shared) (H : Hp) (E : XK), Room k (A.deeper (PyProof.Rows.envOfC nm (defScope st) s.heap.objs.size f cdv)) → ∀ ds G R RX, ds.length = ps.length → FinX K H (LessX RX) E → dsp ds G R RX →
      ∃ t, DSs (cxOf (L2.CX P w) P w K mg base N nm (defScope st) f cdv A outer s H E) (defBody st) t ∧ t { nx := fun _ G => Less R .non G, rt := Less R } (dstart N ds) G) : HasX P w K mg base (k + 1) nm ps dsp := by
  obtain ⟨f, fd, F, b, m⟩ := a
  exact hasx_mk F b m S (body f)
end
/-! ### a call that may let an error out, within a def that lets it out -/
section
variable {X : Cx} {k : Nat} {nm : Str} {ps : List Str} {dsp : DSpX} {e : Expr} {es : List Expr} {ts : TDA} {p pos : Pos} {E : XK} {RX : DXk}
def dCallX (n : Nat) (dsp : DSpX) (RX : DXk) (t : TDA) : TD := fun δ G Q => t δ G fun ds G1 => ds.length = n ∧ dsp ds G1 Q RX
theorem de_callX (h : HasX X.prog X.w X.K X.mg X.base k nm ps dsp) (hx : FinX X.K X.H_0 RX E) (tk : Takes X (fun cls d _ H => E cls d H)) (hr : Room k X.A) (hg : Gl X nm) (ha : DA X (e :: es) ts) (hdb : (nm == ("__debug__" : Str)) = false := by decide) (he : starEach (e :: es) X.env = (false, eval e X.env) :: starEach es X.env := by rfl) (hpl : (backTo pos (starEach es X.env)).any (·.1) = false := by rfl) :
    DE X (.Call (.Name nm p) (e :: es) [] pos) (dCallX ps.length dsp RX ts) := by
  obtain ⟨f, fd, F, b, kp, m, _⟩ := h
  refine ⟨fun pins s σ H Q I ⟨δ, G, R, sl, w, h, fq⟩ => ?_⟩
  refine wpAny_Call_Name_kw (ld_glob I hg m ?_ hdb)
  refine PySem.W.callWith_K (h₀ := X.base) I.ok.mod.kin kp (thn (ha.run pos pins s σ H (fun vs H1 => ∃ ds G1, RVs X.K H1 vs ds ∧ Wd X.K H1 G1 ∧ TKs X.K H H1 ∧ ds.length = ps.length ∧ dsp ds G1 R RX) I ⟨δ, G, _, sl, w, h, fun ds G1 vs H1 h1 t1 w1 r1 => ⟨ds, G1, r1, w1, t1, h1.1, h1.2⟩⟩) fun us s1 ⟨vs, H1, I1, r, ds, G1, r1, w1, t1, l1, h1⟩ => ⟨I1.kIn, ?_⟩) he hpl
  refine run_fn F hr b .nil (passes_call (E := E) tk fun _ _ _ _ h => h) I1 r ?_
  rw [List.append_nil]
  exact ⟨ds, G1, R, RX, r1, w1, l1, h1, fq.step t1, hx.step (inv_tks I1)⟩
theorem w_callX {n : Nat} {δ : DSt} {G : DG} {Q : DK} (h : ts δ G fun ds G1 => ds.length = n ∧ dsp ds G1 Q RX) : dCallX n dsp RX ts δ G Q := h
/-- raise C(m) -/
def dRaise (c : Value) (RX : DXk) : TDS := fun _ _ G => RX c G
theorem ds_raise {x m : Str} {C : Addr} {j : Nat} {p p2 pos pos2 : Pos} (hc : X.calm = true) (hx : FinX X.K X.H_0 RX E) (tk : Takes X (fun cls d _ H => E cls d H)) {bmB : List Value} {B newId initId : String} (F : ExcBaseFacts B newId initId bmB) (q : PySem.W.excIn X.K C bmB newId = true) (gC : X.mg x = some (.ref C)) (kC : PySem.W.keepIn X.K (.ref C) = true) (r : Raises X (.ref C)) (hg : Gl X x) (hdb : (x == ("__debug__" : Str)) = false := by decide) :
    DS X (.Raise (some (.Call (.Name x p) [.Constant (.str m) j p2] [] pos)) none pos2) (dRaise (.ref C) RX) := by
  have h := ps_raise (pos := pos2) hc tk (pmk_own (m := m) (j := j) (p := p) (p2 := p2) (pos := pos) F q gC kC r hg hdb)
  refine ⟨fun pins s σ H D I ⟨D', δ, G, sl, w, l, h1⟩ => h.run pins s σ H D I ?_⟩
  exact hx _ G H h1 (inv_tks I) w
theorem w_raise {c : Value} {D : DEnds} {δ : DSt} {G : DG} (h : RX c G) : dRaise c RX D δ G := h
end
/-- a class of errors whose makers are the built-in one's -/
structure ErrC (K : Frag) (mg : Str → Option Value) (x : Str) (C : Addr) : Prop where
  gP : mg x = some (.ref C)
  xP : excIn K C [.type "ValueError", .type "Exception", .type "BaseException", .type "object"] "ValueError.__new__" = true
  kP : keepIn K (.ref C) = true
  bP : subIn K (.ref C) (.type "BaseException") = some true
  tP : typeIn K (.ref C) = some (.type "type")
section
variable {X : Cx} {E : XK} {RX : DXk}
theorem ds_raiseC {x m : Str} {C : Addr} {j : Nat} {p p2 pos pos2 : Pos} (c : ErrC X.K X.mg x C) (hc : X.calm = true) (hx : FinX X.K X.H_0 RX E) (tk : Takes X (fun cls d _ H => E cls d H)) (hg : Gl X x) (hdb : (x == ("__debug__" : Str)) = false := by decide) :
    DS X (.Raise (some (.Call (.Name x p) [.Constant (.str m) j p2] [] pos)) none pos2) (dRaise (.ref C) RX) :=
  ds_raise hc hx tk PySem.F.excBase_ValueError c.xP c.gP c.kP (raises_own c.bP c.tP) hg hdb
end
/-! ### try -/
abbrev TDX := DSt → DG → DK → DXk → Prop
abbrev TDAX := DSt → DG → (List DV → DG → Prop) → DXk → Prop
def FinW (K : Frag) (H : Hp) (RX : DXk) (W : WX) (σ : L2.St) : Prop := ∀ cls G H', RX cls G → TKs K H H' → Wd K H' G → W cls none σ H'
theorem FinW.step {K : Frag} {H H1 : Hp} {RX : DXk} {W : WX} {σ : L2.St} (f : FinW K H RX W σ) (t : TKs K H H1) : FinW K H1 RX W σ := fun c G H' r t' w => f c G H' r (t.trans t') w
def upE (K : Frag) (W : WX) (t : TDX) : TE := fun σ H Q => ∃ δ G R RX, Sl K H σ δ ∧ Wd K H G ∧ t δ G R RX ∧ Fin K H R Q ∧ FinW K H RX W σ
def upAX (K : Frag) (W : WX) (t : TDAX) : TA := fun σ H Q => ∃ δ G R RX, Sl K H σ δ ∧ Wd K H G ∧ t δ G R RX ∧ (∀ ds G' vs H', R ds G' → TKs K H H' → Wd K H' G' → RVs K H' vs ds → Q vs H') ∧ FinW K H RX W σ
/-- an expression within a try -/
def DEX (X : Cx) (e : Expr) (t : TDX) : Prop := ∀ (W : WX) (pn : List (Addr × Obj)) (xe : Value → Shared → Prop), Takes (X.tr pn xe) W → PE (X.tr pn xe) e (upE X.K W t)
def DAX (X : Cx) (e : List Expr) (t : TDAX) : Prop := ∀ (W : WX) (pn : List (Addr × Obj)) (xe : Value → Shared → Prop), Takes (X.tr pn xe) W → PA (X.tr pn xe) e (upAX X.K W t)
section
variable {X : Cx} {k : Nat} {nm : Str} {ps : List Str} {dsp : DSpX} {e : Expr} {es : List Expr} {ts : TDA} {p pos : Pos}
def xCall (n : Nat) (dsp : DSpX) (t : TDA) : TDX := fun δ G Q RX => t δ G fun ds G1 => ds.length = n ∧ dsp ds G1 Q RX
theorem dex_call (h : HasX X.prog X.w X.K X.mg X.base k nm ps dsp) (hr : Room k X.A) (hg : Gl X nm) (ha : ∀ pn xe, DA (X.tr pn xe) (e :: es) ts) (hdb : (nm == ("__debug__" : Str)) = false := by decide) (he : starEach (e :: es) X.env = (false, eval e X.env) :: starEach es X.env := by rfl) (hpl : (backTo pos (starEach es X.env)).any (·.1) = false := by rfl) :
    DEX X (.Call (.Name nm p) (e :: es) [] pos) (xCall ps.length dsp ts) := by
  obtain ⟨f, fd, F, b, kp, m, _⟩ := h
  intro W pn xe tk
  refine PE_mono (pe_callS (X := X.tr pn xe) F hr hg m kp b (fun σ => passAt tk σ) (ha pn xe) hdb he hpl) fun σ H Q ⟨δ, G, R, RX, sl, w, h, f, fx⟩ => ⟨δ, G, _, sl, w, h, fun ds G1 vs H1 h1 t1 w1 r1 => ?_⟩
  exact ⟨ds, G1, R, RX, r1, w1, h1.1, h1.2, f.step t1, fun c G' H' r t w => fx c G' H' r (t1.trans t) w⟩
/-- an expression that lets no error out -/
def xE (t : TD) : TDX := fun δ G Q _ => t δ G Q
theorem dex_e {t : TD} (h : ∀ pn xe, DE (X.tr pn xe) e t) : DEX X e (xE t) := fun W pn xe tk => PE_mono (h pn xe) fun σ H Q ⟨δ, G, R, RX, sl, w, h, f, fx⟩ => ⟨δ, G, R, sl, w, h, f⟩
def xNil : TDAX := fun δ G Q _ => Q [] G
def xCons (t : TDX) (u : TDAX) : TDAX := fun δ G Q RX => t δ G (fun d G1 => u δ G1 (fun ds G2 => Q (d :: ds) G2) RX) RX
theorem dax_nil : DAX X [] xNil := fun W pn xe tk => ⟨fun pos pins s σ H Q I ⟨δ, G, R, RX, sl, w, h, f, fx⟩ => pa_nil.run pos pins s σ H Q I (f [] G [] H h (TKs.refl H) w .nil)⟩
theorem dax_cons {t : TDX} {u : TDAX} (h : DEX X e t) (g : DAX X es u) (hs : starEach (e :: es) X.env = (false, eval e X.env) :: starEach es X.env := by rfl) : DAX X (e :: es) (xCons t u) := fun W pn xe tk =>
  PA_mono (pa_cons (h W pn xe tk) (g W pn xe tk) hs) fun σ H Q ⟨δ, G, R, RX, sl, w, h, f, fx⟩ =>
    ⟨δ, G, _, RX, sl, w, h, fun d G1 v H1 h1 t1 w1 r1 => ⟨δ, G1, _, RX, sl.mono t1, w1, h1, fun ds G2 vs H2 h2 t2 w2 r2 => f (d :: ds) G2 (v :: vs) H2 h2 (t1.trans t2) w2 (.cons (r1.mono t2) r2), fx.step t1⟩, fx⟩
/-- [x, ..] -/
def xLst (t : TDAX) : TDX := fun δ G Q RX => t δ G (fun ds G1 => ds.length ≤ sizeLine ∧ ∀ p, G1 p = none → Q (.ref p) (dupd G1 p (.lst ds))) RX
theorem dex_lst {u : TDAX} (h : DAX X es u) : DEX X (.List es pos) (xLst u) := fun W pn xe tk =>
  PE_mono (pe_lst (h W pn xe tk)) fun σ H Q ⟨δ, G, R, RX, sl, w, q, f, fx⟩ => ⟨δ, G, _, RX, sl, w, q, fun ds G1 vs H1 h1 t1 w1 r1 => ⟨by rw [r1.len]; exact h1.1, fun p np => by
    have s' := same_new np (.lst vs)
    exact f _ _ _ _ (h1.2 p (w1.free np)) (t1.trans (TKs.of s')) (w1.new np fun O => ⟨_, upd_same, r1.mono (.of s')⟩) (.ref p)⟩, fx⟩
/-- (x, ..) -/
def xTup (t : TDAX) : TDX := fun δ G Q RX => t δ G (fun ds G1 => ds.length ≤ sizeLine ∧ Q (.tup ds) G1) RX
theorem dex_tup {u : TDAX} {x1} (h : DAX X es u) : DEX X (.Tuple es x1 pos) (xTup u) := fun W pn xe tk =>
  PE_mono (pe_tup (h W pn xe tk)) fun σ H Q ⟨δ, G, R, RX, sl, w, q, f, fx⟩ => ⟨δ, G, _, RX, sl, w, q, fun ds G1 vs H1 h1 t1 w1 r1 => ⟨by rw [r1.len]; exact h1.1, fun p np => by
    have s' := same_new np (.tup vs)
    exact f _ _ _ _ h1.2 (t1.trans (TKs.of s')) (w1.same s') (.tup (SqT.of upd_same) (r1.mono (.of s')))⟩, fx⟩
end
/-! a call of a local name that holds a def -/
section
variable {X : Cx} {k i : Nat} {f : Addr} {ps : List Str} {dsp : DSpX} {x : Str} {e : Expr} {es : List Expr} {ts : TDA} {p pos : Pos}
theorem pe_callLS {CX : CXT} {fd : FuncData} {sp : Sp} {E : L2.St → XK} {t : TA} (F : FnOk X.prog X.w X.K X.mg X.base CX k f fd ps sp) (hr : Room k X.A) (hN : X.N[i]? = some x) (hv : Vis X.env.scope x) (hk : PySem.W.keepIn X.K (.ref f) = true) (hb : L2.Binds X.K fd ps []) (hx : ∀ σ, PassesAt CX X σ (E σ)) (ha : PA X (e :: es) t)
    (hdb : (x == ("__debug__" : Str)) = false := by decide) (hcd : (x == ("__classdict__" : Str)) = false := by decide)
    (he : starEach (e :: es) X.env = (false, eval e X.env) :: starEach es X.env := by rfl) (hpl : (backTo pos (starEach es X.env)).any (·.1) = false := by rfl) :
    PE X (.Call (.Name x p) (e :: es) [] pos) (fun σ H Q => σ[i]? = some (some (.ref f)) ∧ t σ H fun vs H1 => sp vs H1 Q (E σ)) := by
  refine ⟨fun pins s σ H Q I h => ?_⟩
  obtain ⟨hs, ht⟩ := h
  refine wpAny_Call_Name_kw (thn ((pe_var (pos := p) hN hv hdb hcd).run pins s σ H (fun v H1 => v = .ref f ∧ H1 = H) I ⟨.ref f, hs, rfl, rfl⟩) fun u s1 ⟨v, H1, I1, r1, q1⟩ => ?_)
  obtain ⟨rfl, rfl⟩ := q1
  cases r1
  refine PySem.W.callWith_K (h₀ := X.base) I.ok.mod.kin hk (thn (ha.run pos pins s1 σ _ _ I1 ht) fun us s2 ⟨vs, H2, I2, r, q⟩ => ⟨I2.kIn, ?_⟩) he hpl
  exact run_fnS F hr hb (hx σ) I2 r q
def xCallL (i : Nat) (f : Addr) (n : Nat) (dsp : DSpX) (t : TDA) : TDX := fun δ G Q RX => δ[i]? = some (some (.ref f)) ∧ t δ G fun ds G1 => ds.length = n ∧ dsp ds G1 Q RX
theorem dex_callL (h : HasAX X.prog X.w X.K X.mg X.base k f ps dsp) (hr : Room k X.A) (hN : X.N[i]? = some x) (hv : Vis X.env.scope x) (ha : ∀ pn xe, DA (X.tr pn xe) (e :: es) ts)
    (hdb : (x == ("__debug__" : Str)) = false := by decide) (hcd : (x == ("__classdict__" : Str)) = false := by decide)
    (he : starEach (e :: es) X.env = (false, eval e X.env) :: starEach es X.env := by rfl) (hpl : (backTo pos (starEach es X.env)).any (·.1) = false := by rfl) :
    DEX X (.Call (.Name x p) (e :: es) [] pos) (xCallL i f ps.length dsp ts) := by
  obtain ⟨fd, F, b, kp⟩ := h
  intro W pn xe tk
  refine PE_mono (pe_callLS (X := X.tr pn xe) F hr hN hv kp b (fun σ => passAt tk σ) (ha pn xe) hdb hcd he hpl) fun σ H Q ⟨δ, G, R, RX, sl, w, ⟨hs, h⟩, f, fx⟩ => ⟨Sl.get_ref sl hs, δ, G, _, sl, w, h, fun ds G1 vs H1 h1 t1 w1 r1 => ?_⟩
  exact ⟨ds, G1, R, RX, r1, w1, h1.1, h1.2, f.step t1, fun c G' H' r t w => fx c G' H' r (t1.trans t) w⟩
end
/-! statements within a try -/
abbrev TDSX := DEnds → DSt → DG → DXk → Prop
def upSX (K : Frag) (W : WX) (t : TDSX) : TS := fun D σ H => ∃ D' δ G RX, Sl K H σ δ ∧ Wd K H G ∧ Links K H D' D ∧ t D' δ G RX ∧ FinW K H RX W σ
def DSsX (X : Cx) (b : List Stmt) (t : TDSX) : Prop := ∀ (W : WX) (pn : List (Addr × Obj)) (xe : Value → Shared → Prop), Takes (X.tr pn xe) W → PassesOwn (model X.prog X.w) X.A X.env xe → PSs (X.tr pn xe) b (upSX X.K W t)
section
variable {X : Cx} {e : Expr} {te : TDX}
def xSet (i : Nat) (te : TDX) : TDSX := fun D δ G RX => te δ G (fun d G1 => D.nx (δ.set i (some d)) G1) RX
theorem dssx_set {i : Nat} {x : Str} {pos' pos : Pos} (hN : X.N.Nodup) (hi : X.N[i]? = some x) (hx : Loc X.env.scope x) (he : DEX X e te) (hs : swapsWith e (some (.Name x pos')) pos.line X.env = pure false := by rfl) (hf : X.fn x = true ∨ X.env.scope.names.lookup x = some .local := by first | exact .inl rfl | exact .inr rfl | assumption) : DSsX X [.Assign [.Name x pos'] e pos] (xSet i te) := fun W pn xe tk po =>
  PSs_mono (pss_one (ps_set (X := X.tr pn xe) hN hi hx (he W pn xe tk) hs hf)) fun D σ H ⟨D', δ, G, RX, sl, w, l, h, fx⟩ => ⟨δ, G, _, RX, sl, w, h, fun d G1 v H1 q t1 w1 r1 => l.nx _ _ G1 H1 q t1 w1 ((sl.mono t1).set r1 i), fx⟩
def xExpr (te : TDX) : TDSX := fun D δ G RX => te δ G (fun _ G1 => D.nx δ G1) RX
theorem dssx_expr {pos : Pos} (he : DEX X e te) (hs : swapsWith e none pos.line X.env = pure false := by rfl) : DSsX X [.Expr e pos] (xExpr te) := fun W pn xe tk po =>
  PSs_mono (pss_one (ps_expr (X := X.tr pn xe) (he W pn xe tk) hs)) fun D σ H ⟨D', δ, G, RX, sl, w, l, h, fx⟩ => ⟨δ, G, _, RX, sl, w, h, fun d G1 v H1 q t1 w1 r1 => l.nx _ _ G1 H1 q t1 w1 (sl.mono t1), fx⟩
/-- try: body; except c as n: suite (slot i is n's). The error stands in the store behind the suite. -/
def dTry (K : Frag) (c : Value) (i : Nat) (tb : TDSX) (ts : Addr → Value → TDS) : TDS := fun D δ G => tb D δ G fun cls G1 => exmOne K cls c = some true ∧ ∀ a, G1 a = none →
  ts a cls { nx := fun δ' G2 => G2 a = none → D.nx (δ'.set i none) (dupd G2 a (.err cls)), rt := D.rt, bk := fun δ' G2 => D.bk (δ'.set i none) G2, ct := fun δ' G2 => D.ct (δ'.set i none) G2 } (δ.set i (some (.ref a))) G1
theorem ds_try {x n : Str} {c : Value} {i : Nat} {body suite : List Stmt} {b₀ : Stmt} {np pos pos' : Pos} {tb : TDSX} {ts : Addr → Value → TDS} (hs : X.stack = X.env :: X.outer) (hf : X.env.frame = some X.env.locals) (hN : X.N.Nodup) (hi : X.N[i]? = some n) (hln : X.env.kindOf n = some .local) (hc : Names X x c)
    (hb : DSsX X body tb) (hsu : ∀ (a : Addr) (oe : Obj) (cls : Value) (d : Option Addr) (pn : List (Addr × Obj)), Zc cls d oe → (∃ vs, oe.data = .fields vs) → d = none → DSs (X.suite a ((a, oe) :: pn)) (b₀ :: suite) (ts a cls)) :
    DS X (.Try body [.ExceptHandler (some (.Name x np)) (some n) (b₀ :: suite) pos'] [] [] pos) (dTry X.K c i tb ts) := by
  refine PS_mono (ps_try_hold (Wout := fun _ _ _ _ => False) (tb := fun W => upSX X.K W tb) (ts := fun a cls d D σ H => d = none ∧ upS X.K (ts a cls) D σ H) hs hf hN hi hln hc takes0 (fun W pn xe tk po => hb W pn xe tk po) fun a oe cls d pn hz hv => ?_) fun D σ H ⟨D', δ, G, sl, w, l, h⟩ => ?_
  · refine ⟨fun pins s σ H D I ⟨ed, h⟩ => (hsu a oe cls d pn hz hv ed).run pins s σ H D I h⟩
  · refine ⟨D', δ, G, _, sl, w, l, h, fun cls G1 H1 ⟨he, h1⟩ t1 w1 => ⟨true, he, fun _ a na => ⟨rfl, _, _, G1, (sl.mono t1).set (.ref a) i, w1, ⟨?_, ?_, ?_, ?_⟩, h1 a (w1.free na)⟩, fun z => nomatch z⟩⟩
    · intro σ2 δ2 G2 H2 q t2 w2 sl2 na2
      have s' := same_new na2 (eOb a cls none)
      exact l.nx _ _ _ _ (q (w2.free na2)) ((t1.trans t2).trans (TKs.of s')) (w2.new na2 fun O => upd_same) ((sl2.unset i).mono (TKs.of s'))
    · intro d2 G2 v2 H2 q t2 w2 r2
      exact l.rt _ _ _ _ q (t1.trans t2) w2 r2
    · intro σ2 δ2 G2 H2 q t2 w2 sl2
      exact l.bk _ _ _ _ q (t1.trans t2) w2 (sl2.unset i)
    · intro σ2 δ2 G2 H2 q t2 w2 sl2
      exact l.ct _ _ _ _ q (t1.trans t2) w2 (sl2.unset i)
end
/-! ### isinstance of an error: in its suite, and behind it -/
section
variable {X : Cx}
def clsOf : DV → Option Value
  | .ref a => some (.ref a)
  | .ty n => some (.type n)
  | _ => none
theorem clsOf_rel {K : Frag} {H : Hp} {v : V} {d : DV} {c : Value} (r : RV K H v d) (e : clsOf d = some c) : ∀ u, RelV v u → u = c := fun u ru => by
  cases r with
  | ref a => cases e; exact ru
  | ty n => cases e; exact ru
  | _ => cases e
def bIsE (K : Frag) (a : Addr) (cls : Value) : DC := fun ds G Q => ∃ D d c b, cls = .ref D ∧ ExcC K D ∧ ds = [.ref a, d] ∧ clsOf d = some c ∧ kitOne K (.ref D) c = some b ∧ Q (.bl b) G
theorem cd_isE {a : Addr} {oe : Obj} {cls : Value} {d : Option Addr} {pn : List (Addr × Obj)} (hz : Zc cls d oe) (hv : ∃ vs, oe.data = .fields vs) (hd : d = none) : CallD (X.suite a ((a, oe) :: pn)) (.builtin "isinstance") (bIsE X.K a cls) := by
  refine ⟨fun xs H Q => ∃ D, ExcC X.K D ∧ rIsEc X.K D a cls d xs H Q, fun pins s σ H xs us Q I r ⟨D, C, h⟩ => call_isEc C hz hv pins s σ H xs us Q I r h, fun ds vs H G R Q r w ⟨D, dd, c, b, ec, C, e, hc, hk, q⟩ f => ?_⟩
  subst e
  cases r with
  | cons r1 r2 =>
    cases r2 with
    | cons r2 r3 =>
      cases r3
      cases r1
      exact ⟨D, C, ec, hd, _, c, b, rfl, clsOf_rel r2 hc, hk, f _ G _ H q (TKs.refl H) w (.bl b)⟩
def bIsH (K : Frag) : DC := fun ds G Q => ∃ a D d c b, ds = [.ref a, d] ∧ G a = some (.err (.ref D)) ∧ ExcC K D ∧ clsOf d = some c ∧ kitOne K (.ref D) c = some b ∧ Q (.bl b) G
theorem cd_isH : CallD X (.builtin "isinstance") (bIsH X.K) := by
  refine ⟨_, call_isH, fun ds vs H G R Q r w ⟨a, D, dd, c, b, e, ha, C, hc, hk, q⟩ f => ?_⟩
  subst e
  cases r with
  | cons r1 r2 =>
    cases r2 with
    | cons r2 r3 =>
      cases r3
      cases r1
      obtain ⟨O, wo⟩ := id w
      exact ⟨a, D, _, c, b, rfl, C, wo.ob a _ ha, clsOf_rel r2 hc, hk, f _ G _ H q (TKs.refl H) w (.bl b)⟩
/-- isinstance(e, (c1, ..)) in the suite -/
def tRefs (cs : List Addr) : TA := fun _ H Q => Q (cs.map .ref) H
theorem pa_refs0 : PA X [] (tRefs []) := pa_nil
theorem pa_refs {e : Expr} {es : List Expr} {c : Addr} {cs : List Addr} (h : PE X e (tC (.ref c))) (g : PA X es (tRefs cs)) (hs : starEach (e :: es) X.env = (false, eval e X.env) :: starEach es X.env := by rfl) : PA X (e :: es) (tRefs (c :: cs)) := PA_mono (pa_cons h g hs) fun σ H Q q => q
theorem cls_refs (cs : List Addr) : Paired ClsV (cs.map V.ref) (cs.map Value.ref) := by
  induction cs with
  | nil => exact .nil
  | cons c r ih => exact .cons (.own c) ih
def dIsEt (K : Frag) (cls : Value) (a : Addr) (i : Nat) (cs : List Addr) : TD := fun δ G Q => δ[i]? = some (some (.ref a)) ∧ ∃ D b, cls = .ref D ∧ ExcC K D ∧ kitAny K (.ref D) (cs.map Value.ref) = some b ∧ cs.length ≤ sizeLine ∧ Q (.bl b) G
theorem de_isEt {a : Addr} {oe : Obj} {cls : Value} {d : Option Addr} {pn : List (Addr × Obj)} {i : Nat} {x : Str} {p p1 p2 pos : Pos} {es : List Expr} {x1} {cs : List Addr} (hz : Zc cls d oe) (hv : ∃ vs, oe.data = .fields vs) (hd : d = none) (hi : X.mg "isinstance" = none) (hg : Gl X "isinstance")
    (he : PE (X.suite a ((a, oe) :: pn)) (.Name x p1) (tVar i)) (ha : PA (X.suite a ((a, oe) :: pn)) es (tRefs cs))
    (hs : starEach [(.Name x p1 : Expr), .Tuple es x1 p2] X.env = (false, eval (.Name x p1) X.env) :: starEach [(.Tuple es x1 p2 : Expr)] X.env := by rfl) (hs1 : starEach [(.Tuple es x1 p2 : Expr)] X.env = (false, eval (.Tuple es x1 p2) X.env) :: starEach [] X.env := by rfl) (hpl : (backTo pos (starEach [(.Tuple es x1 p2 : Expr)] X.env)).any (·.1) = false := by rfl) :
    DE (X.suite a ((a, oe) :: pn)) (.Call (.Name "isinstance" p) [.Name x p1, .Tuple es x1 p2] [] pos) (dIsEt X.K cls a i cs) := by
  have hc : CallR (X.suite a ((a, oe) :: pn)) (.builtin "isinstance") (fun xs H Q => ∃ D, ExcC X.K D ∧ rIsEt X.K D a cls d xs H Q) := fun pins s σ H xs us Q I r ⟨D, C, h⟩ => call_isEt C hz hv pins s σ H xs us Q I r h
  refine PE_mono (pe_callB hc hg hi PyProof.Rows.boot_isinstance (pa_cons he (pa_cons (pe_tup ha) pa_nil hs1) hs)) fun σ H Q ⟨δ, G, R, sl, w, ⟨hsl, D, b, ec, C, hk, hl, q⟩, f⟩ => ?_
  obtain ⟨v, e1, r1⟩ := sl.get hsl
  cases r1
  refine ⟨_, e1, by rw [List.length_map]; exact hl, fun tp np => ?_⟩
  have s' := same_new np (.tup (cs.map V.ref))
  exact ⟨D, C, ec, hd, tp, cs.map V.ref, _, b, rfl, upd_same, cls_refs cs, hk, f _ G _ _ q (TKs.of s') (w.same s') (.bl b)⟩
end
section
variable {K : Frag} {c : Value} {i : Nat} {tb : TDSX} {ts : Addr → Value → TDS} {D : DEnds} {δ : DSt} {G : DG} {RX : DXk} {Q : DK} {te : TDX} {t : TD} {u : TDAX} {QA : List DV → DG → Prop} {tda : TDA} {n : Nat} {dsp : DSpX}
theorem w_try (h : tb D δ G fun cls G1 => exmOne K cls c = some true ∧ ∀ a, G1 a = none →
  ts a cls { nx := fun δ' G2 => G2 a = none → D.nx (δ'.set i none) (dupd G2 a (.err cls)), rt := D.rt, bk := fun δ' G2 => D.bk (δ'.set i none) G2, ct := fun δ' G2 => D.ct (δ'.set i none) G2 } (δ.set i (some (.ref a))) G1) : dTry K c i tb ts D δ G := h
theorem w_xSet (h : te δ G (fun d G1 => D.nx (δ.set i (some d)) G1) RX) : xSet i te D δ G RX := h
theorem w_xExpr (h : te δ G (fun _ G1 => D.nx δ G1) RX) : xExpr te D δ G RX := h
theorem w_xLst (h : u δ G (fun ds G1 => ds.length ≤ sizeLine ∧ ∀ p, G1 p = none → Q (.ref p) (dupd G1 p (.lst ds))) RX) : xLst u δ G Q RX := h
theorem w_xTup (h : u δ G (fun ds G1 => ds.length ≤ sizeLine ∧ Q (.tup ds) G1) RX) : xTup u δ G Q RX := h
theorem w_xCons (h : te δ G (fun d G1 => u δ G1 (fun ds G2 => QA (d :: ds) G2) RX) RX) : xCons te u δ G QA RX := h
theorem w_xNil (h : QA [] G) : xNil δ G QA RX := h
theorem w_xE (h : t δ G Q) : xE t δ G Q RX := h
theorem w_xCall (h : tda δ G fun ds G1 => ds.length = n ∧ dsp ds G1 Q RX) : xCall n dsp tda δ G Q RX := h
theorem w_xCallL {f : Addr} (hs : δ[i]? = some (some (.ref f))) (h : tda δ G fun ds G1 => ds.length = n ∧ dsp ds G1 Q RX) : xCallL i f n dsp tda δ G Q RX := ⟨hs, h⟩
theorem w_isEt {a C : Addr} {cs : List Addr} {b : Bool} (hs : δ[i]? = some (some (.ref a))) (x : ExcC K C) (hk : kitAny K (.ref C) (cs.map Value.ref) = some b) (hl : cs.length ≤ sizeLine) (h : Q (.bl b) G) : dIsEt K (.ref C) a i cs δ G Q := ⟨hs, C, b, rfl, x, hk, hl, h⟩
theorem w_isE {a C : Addr} {d : DV} {v : Value} {b : Bool} (x : ExcC K C) (hc : clsOf d = some v) (hk : kitOne K (.ref C) v = some b) (h : Q (.bl b) G) : bIsE K a (.ref C) [.ref a, d] G Q := ⟨C, d, v, b, rfl, x, rfl, hc, hk, h⟩
theorem w_isH {a C : Addr} {d : DV} {v : Value} {b : Bool} (ha : G a = some (.err (.ref C))) (x : ExcC K C) (hc : clsOf d = some v) (hk : kitOne K (.ref C) v = some b) (h : Q (.bl b) G) : bIsH K [.ref a, d] G Q := ⟨a, C, d, v, b, rfl, ha, x, hc, hk, h⟩
end
end DD
/-! methods of two outcomes over data -/
namespace DD
open PySem PySem.W L2 SX Cm
/-- the method m of the class at C keeps a promise of two outcomes -/
def HasMX (P : Program) (w : World) (K : Frag) (mg : Str → Option Value) (base : Heap) (k : Nat) (C : Addr) (m : Str) (ps : List Str) (dsp : DSpX) : Prop :=
  ∃ f fd, FnOk P w K mg base (L2.CX P w) k f fd ps (toSpX K ps.length dsp) ∧ L2.Binds K fd ps [] ∧ Meth K C m f ∧ Cls K C
section
variable {P : Program} {w : World} {K : Frag} {mg : Str → Option Value} {base : Heap}
theorem atmx_mk {C : Addr} {m qual : Str} {st : Stmt} {N ps : List Str} {k : Nat} {dsp : DSpX} (a : AtM K C m qual st ps) (S : FnScope N ps (defScope st))
    (body : ∀ (f : Addr) (cdv : Value) (A : Around) (outer : List Env) (s : Shared) (H : Hp) (E : XK), Room k (A.deeper (PyProof.Rows.envOfC qual (defScope st) s.heap.objs.size f cdv)) → ∀ ds G R RX, ds.length = ps.length → FinX K H (LessX RX) E → dsp ds G R RX →
      ∃ t, DSs (cxOf (L2.CX P w) P w K mg base N qual (defScope st) f cdv A outer s H E) (defBody st) t ∧ t { nx := fun _ G => Less R .non G, rt := Less R } (dstart N ds) G) : HasMX P w K mg base (k + 1) C m ps dsp := by
  obtain ⟨f, fd, F, b, me, c⟩ := a
  refine ⟨f, fd, F.okX S (fun vs H Q E h => ?_) (fun cdv A outer s H vs Q E hr h => ?_), b, me, c⟩
  · obtain ⟨ds, G, R, RX, r, w, l, _⟩ := h
    rw [r.len]; exact l
  · obtain ⟨ds, G, R, RX, r, wd, l, h, fin, fx⟩ := h
    obtain ⟨t, h1, h2⟩ := body f cdv A outer s H E hr ds G R RX l fx.less h
    exact ⟨_, h1, _, _, G, sl_start r, wd, links_def fin, h2⟩
end
section
variable {X : Cx} {k : Nat} {C : Addr} {m nm : Str} {ps : List Str} {dsp : DSpX} {o e : Expr} {es : List Expr} {to : TD} {ts : TDA} {p apos pos : Pos} {E : XK} {RX : DXk}
theorem pe_inv {e : Expr} {t : TE} (h : PE X e t) : PE X e (fun σ H Q => TKs X.K X.H_0 H → t σ H Q) := ⟨fun pins s σ H Q I q => h.run pins s σ H Q I (q (inv_tks I))⟩
def dMethX (C : Addr) (m : Str) (n : Nat) (dsp : DSpX) (RX : DXk) (to : TD) (ts : TDA) : TD := fun δ G Q => to δ G fun x G1 => ∃ a fs, x = .ref a ∧ G1 a = some (.obj C fs) ∧ fs.lookup m = none ∧ ts δ G1 fun ds G2 => (x :: ds).length = n ∧ dsp (x :: ds) G2 Q RX
theorem w_methX {n : Nat} {δ : DSt} {G : DG} {Q : DK} (h : to δ G fun x G1 => ∃ a fs, x = .ref a ∧ G1 a = some (.obj C fs) ∧ fs.lookup m = none ∧ ts δ G1 fun ds G2 => (x :: ds).length = n ∧ dsp (x :: ds) G2 Q RX) : dMethX C m n dsp RX to ts δ G Q := h
theorem de_methX (h : HasMX X.prog X.w X.K X.mg X.base k C m ps dsp) (hx : FinX X.K X.H_0 RX E) (tk : Takes X (fun cls d _ H => E cls d H)) (hr : Room k X.A) (ho : DE X o to) (ha : DA X (e :: es) ts)
    (hst : starEach (e :: es) X.env = (false, eval e X.env) :: starEach es X.env := by rfl) (hpl : (backTo pos (starEach es X.env)).any (·.1) = false := by rfl) {pl : Sem Bool}
    (ht : eval (.Call (.Attribute o m apos) (e :: es) [] pos) X.env = (do
      let ov ← eval o X.env
      standAt apos.atName
      let (f, first) ← holding [ov] (getMethod ov m pl)
      callWith pos f first (backTo pos (starEach (e :: es) X.env)) (backToKw pos (keywordEach [] X.env))) := by rfl) : DE X (.Call (.Attribute o m apos) (e :: es) [] pos) (dMethX C m ps.length dsp RX to ts) := by
  obtain ⟨f, fd, F, b, me, c⟩ := h
  refine PE_mono (pe_inv (pe_meth ho c me F hr b .nil (passes_call (E := E) tk fun _ _ _ _ h => h) ha hst hpl ht)) fun σ H Q ⟨δ, G, R, sl, w, h, fn⟩ => fun t0 => ⟨δ, G, _, sl, w, h, fun x G1 vx H1 ⟨a, fs, e1, e2, l, q⟩ t1 w1 r1 => ?_⟩
  subst e1
  cases r1
  obtain ⟨dx, vs, hh, r⟩ := wd_obj w1 e2
  refine ⟨a, dx, vs, rfl, hh, r.none l, δ, G1, _, sl.mono t1, w1, q, fun ds G2 us H2 q2 t2 w2 r2 => ?_⟩
  show toSpX X.K ps.length dsp (V.ref a :: (us ++ [])) H2 Q E
  rw [List.append_nil]
  exact ⟨_, G2, R, RX, .cons (.ref a) r2, w2, q2.1, q2.2, fn.step (t1.trans t2), hx.step (t0.trans (t1.trans t2))⟩
theorem de_meth0X (h : HasMX X.prog X.w X.K X.mg X.base k C m ps dsp) (hx : FinX X.K X.H_0 RX E) (tk : Takes X (fun cls d _ H => E cls d H)) (hr : Room k X.A) (ho : DE X o to) {pl : Sem Bool}
    (ht : eval (.Call (.Attribute o m apos) [] [] pos) X.env = (do
      let ov ← eval o X.env
      standAt apos.atName
      let (f, first) ← holding [ov] (getMethod ov m pl)
      callWith pos f first (backTo pos (starEach [] X.env)) (backToKw pos (keywordEach [] X.env))) := by rfl) : DE X (.Call (.Attribute o m apos) [] [] pos) (dMethX C m ps.length dsp RX to dNil) := by
  obtain ⟨f, fd, F, b, me, c⟩ := h
  refine PE_mono (pe_inv (pe_meth0 ho c me F hr b .nil (passes_call (E := E) tk fun _ _ _ _ h => h) ht)) fun σ H Q ⟨δ, G, R, sl, w, h, fn⟩ => fun t0 => ⟨δ, G, _, sl, w, h, fun x G1 vx H1 ⟨a, fs, e1, e2, l, q⟩ t1 w1 r1 => ?_⟩
  subst e1
  cases r1
  obtain ⟨dx, vs, hh, r⟩ := wd_obj w1 e2
  refine ⟨a, dx, vs, rfl, hh, r.none l, ?_⟩
  show toSpX X.K ps.length dsp [V.ref a] H1 Q E
  exact ⟨_, G1, R, RX, .cons (.ref a) .nil, w1, q.1, q.2, fn.step t1, hx.step (t0.trans t1)⟩
end
end DD
/-! the pieces that kinds are written by -/
namespace DD
open PySem PySem.W L2 SX Cm
inductive MT where
  | mark (z : Str)
  | kind (k : Kd)
  | stack (s : Sk)
def eM : MT → DV
  | .mark z => .tup [.str "mark", .str z]
  | .kind k => .tup [.str "kind", eK k]
  | .stack s => .tup [.str "stack", eS s]
def mkT : MT → List Str
  | .mark z => [z]
  | .kind k => mkK k
  | .stack s => mkS s
def wtM : MT → Nat
  | .mark _ => 1
  | .kind k => 4 * szK k
  | .stack s => 4 * szS s
def wtMs : List MT → Nat
  | [] => 0
  | t :: r => wtM t + wtMs r
theorem wtMs_app : ∀ a b, wtMs (a ++ b) = wtMs a + wtMs b
  | [], b => (Nat.zero_add _).symm
  | t :: r, b => by show wtM t + wtMs (r ++ b) = wtM t + wtMs r + wtMs b; rw [wtMs_app r b]; omega
theorem wtM_pos (t : MT) : 1 ≤ wtM t := by
  cases t with
  | mark z => exact Nat.le_refl 1
  | kind k => have := szK_pos k; show 1 ≤ 4 * szK k; omega
  | stack k => have := szS_pos k; show 1 ≤ 4 * szS k; omega
theorem wtMs_len : ∀ ts, ts.length ≤ wtMs ts
  | [] => Nat.le_refl 0
  | t :: r => by have := wtM_pos t; have := wtMs_len r; show r.length + 1 ≤ wtM t + wtMs r; omega
/-- the pieces of a piece -/
def pcS : Sk → List MT
  | .mk r ks => (if r = ("" : Str) then [] else [.mark r]) ++ ks.map .kind
def pcK : Kd → List MT
  | .num => [.mark "number"]
  | .opn z => [.mark z]
  | .lst k => [.mark "{", .kind k, .mark "}"]
  | .row a b => [.mark "[", .stack a, .mark "--", .stack b, .mark "]"]
theorem kinds_wt : ∀ ks : List Kd, wtMs (ks.map .kind) = 4 * szKs ks
  | [] => rfl
  | k :: r => by show 4 * szK k + wtMs (r.map .kind) = 4 * (szK k + szKs r); rw [kinds_wt r]; omega
theorem kinds_mk : ∀ ks : List Kd, (ks.map MT.kind).flatMap mkT = mkKs ks
  | [] => rfl
  | k :: r => by rw [List.map_cons, List.flatMap_cons, kinds_mk r]; rfl
theorem pcS_mk (s : Sk) : (pcS s).flatMap mkT = mkS s := by
  cases s with
  | mk r ks =>
    show ((if r = ("" : Str) then [] else [MT.mark r]) ++ ks.map MT.kind).flatMap mkT = (if r = ("" : Str) then [] else [r]) ++ mkKs ks
    rw [List.flatMap_append, kinds_mk]
    congr 1
    split <;> rfl
theorem pcK_mk (k : Kd) : (pcK k).flatMap mkT = mkK k := by
  cases k with
  | num => rfl
  | opn z => rfl
  | lst k => show ("{" : Str) :: (mkK k ++ (("}" : Str) :: [])) = _; rfl
  | row a b => show ("[" : Str) :: (mkS a ++ (("--" : Str) :: (mkS b ++ [("]" : Str)]))) = _; rfl
theorem pcS_wt (s : Sk) : wtMs (pcS s) < wtM (.stack s) := by
  cases s with
  | mk r ks =>
    show wtMs ((if r = ("" : Str) then [] else [MT.mark r]) ++ ks.map MT.kind) < 4 * (1 + szKs ks)
    rw [wtMs_app, kinds_wt]
    split
    · show 0 + _ < _; omega
    · show 1 + 0 + _ < _; omega
theorem pcK_wt (k : Kd) : wtMs (pcK k) < wtM (.kind k) := by
  cases k with
  | num => decide
  | opn z => show 1 + 0 < 4; omega
  | lst k => show 1 + (4 * szK k + (1 + 0)) < 4 * (1 + szK k); omega
  | row a b => show 1 + (4 * szS a + (1 + (4 * szS b + (1 + 0)))) < 4 * (1 + szS a + szS b); omega
theorem eMs_kind (ks : List Kd) : (ks.map MT.kind).map eM = (eKs ks).map fun d => .tup [.str "kind", d] := by
  rw [eKs_map, List.map_map, List.map_map]; rfl
/-- a stack's top is what comes next -/
def stk (ts : List MT) : List DV := (ts.map eM).reverse
theorem stk_cons (t : MT) (r : List MT) : stk (t :: r) = stk r ++ [eM t] := by unfold stk; rw [List.map_cons, List.reverse_cons]
theorem stk_app (a b : List MT) : stk b ++ (a.map eM).reverse = stk (a ++ b) := by unfold stk; rw [List.map_append, List.reverse_append]
theorem stk_len (ts : List MT) : (stk ts).length = ts.length := by unfold stk; rw [List.length_reverse, List.length_map]
/-- a def that makes a new list -/
def MkL (G : DG) (R : DK) (xs : List DV) : Prop := ∀ r G', G r = none → Sub G G' → G' r = some (.lst xs) → R (.ref r) G'
theorem MkL.less {G G' : DG} {R : DK} {xs : List DV} {r : Addr} (h : MkL G R xs) (n : G r = none) (s : Sub G G') (e : G' r = some (.lst xs)) : Less R (.ref r) G' := Less.of (h r G' n s e)
end DD
set_option maxHeartbeats 1000000
/-! the words of a text -/
namespace DD
open PySem PySem.W L2 SX Cm
/-- the longest text -/
abbrev LTx : Nat := 200000
theorem szTx {x : List Nat} (h : x.length ≤ LTx) : (S x).length ≤ sizeLine := by rw [S_len]; exact mid (Nat.le_trans h (by decide))
def wdsOf (z : Str) : List Str := if z = "" then [] else Txt.split z " "
theorem mem_sum : ∀ {l : List Str} {y : Str}, y ∈ l → y.length ≤ (l.map (·.length)).sum
  | a :: r, y, h => by
    rw [List.map_cons, List.sum_cons]
    rcases List.mem_cons.mp h with rfl | h
    · omega
    · have := mem_sum h; omega
theorem join_split_len : ∀ l : List Str, l.length ≤ (Str.join " " l).length + 1 ∧ ∀ y ∈ l, y.length ≤ (Str.join " " l).length := by
  intro l
  have e1 : (" " : Str).length = 1 := by decide +kernel
  cases l with
  | nil => exact ⟨Nat.zero_le _, fun y h => nomatch h⟩
  | cons a l =>
    have hm := fun y (hy : y ∈ a :: l) => mem_sum hy
    rw [PyProof.Rows.len_join_cons, e1, Nat.mul_one, List.length_cons]
    exact ⟨by omega, fun y hy => by have := hm y hy; omega⟩
theorem split_len (z : Str) : (Txt.split z " ").length ≤ z.length + 1 ∧ ∀ y ∈ Txt.split z " ", y.length ≤ z.length := by
  have := join_split_len (Txt.split z " ")
  rw [PySem.StrLaws.join_split z " "] at this
  exact this
theorem words_len (z : Str) : (wdsOf z).length ≤ z.length + 1 ∧ ∀ y ∈ wdsOf z, y.length ≤ z.length := by
  unfold wdsOf
  split
  · exact ⟨Nat.zero_le _, fun y h => nomatch h⟩
  · exact split_len z
theorem word_in {z y : Str} (h : y ∈ wdsOf z) : y ∈ Txt.split z " " := by
  unfold wdsOf at h
  split at h
  · cases h
  · exact h
theorem ty_sub {G G' : DG} {d : DV} {a : String} (s : Sub G G') (h : TyAt G d a) : TyAt G' d a := by
  cases d with
  | ref p =>
    rcases h with ⟨e, h | ⟨ds, h | h⟩⟩ | ⟨e, kvs, h⟩
    · exact .inl ⟨e, .inl (s _ _ h)⟩
    · exact .inl ⟨e, .inr ⟨ds, .inl (s _ _ h)⟩⟩
    · exact .inl ⟨e, .inr ⟨ds, .inr (s _ _ h)⟩⟩
    · exact .inr ⟨e, kvs, s _ _ h⟩
  | _ => exact h
end DD
set_option maxHeartbeats 1000000
namespace K18
open PySem PySem.W L2 SX Cm DD
local macro_rules | `(tactic| walk_at "d1") => `(tactic| first | (with_reducible refine w_seq ?_) | (with_reducible refine w_next ?_) | ((with_reducible show dVar _ _ _ _); refine w_var rfl ?_) | (with_reducible refine w_asg ?_) | (with_reducible refine w_cons ?_) | (with_reducible refine w_nil ?_) | (with_reducible refine w_c ?_) | (with_reducible refine w_op ?_) | (with_reducible refine w_call ?_) | (with_reducible refine w_CB ?_) | (with_reducible refine w_ret ?_) | (with_reducible refine w_ifS ?_) | (with_reducible refine w_drop ?_) | (with_reducible refine w_tup ?_) | (with_reducible refine w_lst ?_) | (with_reducible refine w_sl ?_) | (with_reducible refine w_none ?_) | (with_reducible refine w_some ?_) | (with_reducible refine w_BM ?_) | (with_reducible refine w_BM0 ?_) | (with_reducible refine w_test ?_) | (with_reducible refine w_tru ?_) | (with_reducible refine w_and ?_) | (with_reducible refine w_or ?_) | (with_reducible refine w_not ?_) | (with_reducible refine w_yes ?_) | (with_reducible refine w_ifE ?_) | (with_reducible refine w_andV ?_) | (with_reducible refine w_orV ?_) | (with_reducible refine w_notV ?_) | (with_reducible refine w_neg ?_) | (with_reducible refine w_rev ?_) | (with_reducible refine w_exI ?_) | (with_reducible refine w_exB ?_) | (with_reducible refine w_exT ?_) | (with_reducible refine w_exS ?_) | (with_reducible refine w_parE ?_) | (with_reducible refine w_par ?_) | (with_reducible refine w_asgS ?_) | (with_reducible refine w_retN ?_) | (with_reducible refine w_break ?_) | (with_reducible refine w_cont ?_) | (with_reducible refine w_truB ?_) | (with_reducible refine w_truI ?_) | (with_reducible refine w_truN ?_) | (with_reducible refine w_truT ?_) | (with_reducible refine w_addI ?_) | (with_reducible refine w_subI ?_) | (with_reducible refine w_cmpI ?_) | (with_reducible refine w_cmpS ?_) | (with_reducible refine w_eqSS ?_) | (with_reducible refine w_eqII ?_) | (with_reducible refine w_eqBB ?_) | (with_reducible refine w_neSS ?_) | (with_reducible refine w_neII ?_) | (with_reducible refine w_neBB ?_) | (with_reducible refine w_eqSN ?_) | (with_reducible refine w_eqIN ?_) | (with_reducible refine w_eqSI ?_) | (with_reducible refine w_eqIS ?_) | (with_reducible refine w_eqNS ?_) | (with_reducible refine w_eqBS ?_) | (with_reducible refine w_eqT0 ?_) | (with_reducible refine w_ix0 ?_) | (with_reducible refine w_ix1 ?_) | (with_reducible refine w_ix2 ?_) | (with_reducible refine w_ix3 ?_) | (with_reducible refine w_slT ?_) | (with_reducible refine w_lenT ?_) | (with_reducible refine w_intB ?_) | (with_reducible refine w_intI ?_) | (with_reducible refine w_tupT ?_) | (with_reducible refine w_rcvS ?_) | (with_reducible refine ly1 ?_) | (with_reducible refine ly2 ?_) | (with_reducible refine lt1' ?_) | (with_reducible refine lt2' ?_) | (with_reducible refine g_n ?_) | (with_reducible refine w_isN ?_) | (with_reducible refine w_isnN ?_) | (with_reducible refine w_for ?_) | (with_reducible refine w_lc ?_) | (with_reducible refine wi_tup ?_) | (with_reducible refine wi_lst ?_) | (with_reducible refine wi_str ?_) | (with_reducible refine wi_rng ?_) | (with_reducible refine wi_rng2 ?_) | (with_reducible refine wi_enumT ?_) | (with_reducible refine wi_enum ?_) | (with_reducible refine wi_rev ?_) | (with_reducible refine wi_revR ?_) | (with_reducible refine wx_enumT ?_) | (with_reducible refine w_callX ?_) | (with_reducible refine w_methX ?_) | (with_reducible refine w_raise ?_) | (with_reducible refine w_try ?_) | (with_reducible refine w_xSet ?_) | (with_reducible refine w_xExpr ?_) | (with_reducible refine w_xLst ?_) | (with_reducible refine w_xTup ?_) | (with_reducible refine w_xCons ?_) | (with_reducible refine w_xNil ?_) | (with_reducible refine w_xE ?_) | (with_reducible refine w_xCall ?_) | (with_reducible refine w_call0 ?_) | (with_reducible refine w_asgL ?_) | (with_reducible refine w_tupPd ?_) | (with_reducible refine wi_zip ?_) | (with_reducible refine w_dnew ?_) | (with_reducible refine w_dget ?_) | (with_reducible refine w_dget2 ?_) | (with_reducible refine w_din ?_) | (with_reducible refine w_dput ?_) | (with_reducible refine w_asgT ?_) | (with_reducible refine g_C ?_) | (with_reducible refine g_0 ?_) | (with_reducible refine w_inS ?_) | (with_reducible refine w_delT ?_) | (with_reducible refine w_dc ?_) | (with_reducible refine w_revL ?_) | (with_reducible refine wi_revT ?_) | (with_reducible refine w_lstZip ?_) | (with_reducible refine w_chain ?_) | (with_reducible refine w_orT ?_) | ((with_reducible show gT _ _ _ _ _ _); refine g_T ?_ rfl) | ((with_reducible show ∃ p, DV.ref _ = _ ∧ (∃ kvs, _) ∧ _); refine wx_get (by walk_at "gq") ?_) | ((with_reducible show ∃ kvs z, _ = _ ∧ _ = some (DO.dct _) ∧ _); refine wx_get2 (by walk_at "gq") ?_) | ((with_reducible show ∃ p kvs z, _ = _ ∧ _ = _ ∧ _ = some (DO.dct _) ∧ _); refine wx_in (by walk_at "gq") ?_) | ((with_reducible show List.length _ = _ ∧ _); refine w_len ?_ rfl) | ((with_reducible show List.length _ ≤ sizeLine ∧ _); refine w_sz ?_ (szl rfl)) | ((with_reducible show bIx _ (.int _) _ _); first | refine w_ix0 ?_ | refine w_ix1 ?_ | refine w_ix2 ?_ | refine w_ix3 ?_) | ((with_reducible show bIsi [_, _] _ _); first | refine w_isi (by decide) (a := "tuple") rfl rfl ?_ | refine w_isi (by decide) (a := "str") rfl rfl ?_ | refine w_isi (by decide) (a := "int") rfl rfl ?_ | refine w_isi (by decide) (a := "bool") rfl rfl ?_ | refine w_isi (by decide) (a := "NoneType") rfl rfl ?_) | ((with_reducible show ∃ ds, _ = DV.tup ds ∧ _); refine w_exT ?_) | ((with_reducible show ∃ z, _ = DV.str z ∧ _); refine w_exS ?_) | ((with_reducible show ∃ ds, [_] = [DV.tup ds] ∧ _); refine wx_enumT ?_) | ((with_reducible show bSl _ _ _ _ _); refine w_slT ?_) | ((with_reducible show bTuple [_] _ _); refine w_tupT ?_) | ((with_reducible show bLen [_] _ _); refine w_lenT ?_) | ((with_reducible show bTru _ _ _); first | refine w_truT ?_ | refine w_truN ?_ | refine w_truB ?_ | refine w_truI ?_) | ((with_reducible show bEq _ _ _ _ _); first | refine w_eqSS ?_ | refine w_eqII ?_ | refine w_neSS ?_ | refine w_neII ?_ | refine w_eqT0 ?_) | ((with_reducible show bInt _ _ (.int _) (.int _) _ _); refine w_int (by first | decide | exact ⟨by decide, by decide, by decide⟩ | exact .inl ⟨by decide, by decide⟩ | exact .inr ⟨by decide, by decide⟩) ?_) | ((with_reducible show if _ = true then _ else _); first | refine w_it (by first | rfl | decide +kernel) ?_ | refine w_if0 (by first | rfl | decide +kernel) ?_) | ((with_reducible show rcv "list" (.ref _) _ ∧ _); refine w_rcvL (by walk_at "gq") ?_) | ((with_reducible show bTuple [.ref _] _ _); refine w_tupL (by walk_at "gq") ?_) | ((with_reducible show bLen [.ref _] _ _); refine w_lenL (by walk_at "gq") ?_) | ((with_reducible show bTru (.ref _) _ _); refine w_truL (by walk_at "gq") ?_) | ((with_reducible show ∃ _ _, DV.ref _ = _ ∧ Ls _ _ _ ∧ _); refine wx_lst (by walk_at "gq") ?_) | ((with_reducible show ∃ _ _, [DV.ref _] = _ ∧ Ls _ _ _ ∧ _); refine wx_lstA (by walk_at "gq") ?_))
local macro_rules | `(tactic| walk_at "dd") => `(tactic| repeat (walk_at "d1"))
local macro_rules | `(tactic| walk_at "gq") => `(tactic| first | assumption | exact dupd_same | exact sub_get (by assumption) (by walk_at "gq") | exact upd_get (by assumption) (by walk_at "gq") (by walk_at "gn") | exact subx_get (by assumption) (by walk_at "gq") (by walk_at "gn") | (refine (dupd_ne ?_).trans ?_; (focus walk_at "gn"); walk_at "gq"))
local macro_rules | `(tactic| walk_at "gs") => `(tactic| first | assumption | exact Sub.refl _ | exact sub_tr (by assumption) (by walk_at "gs") | exact sub_up (by assumption) (by walk_at "gs") (by walk_at "g0") | exact sub_ux (by assumption) (by walk_at "gs") (by walk_at "g0") | (refine Sub.new ?_ ?_; (focus walk_at "gs"); walk_at "g0"))
local macro_rules | `(tactic| walk_at "gk") => `(tactic| first | assumption | exact dk_sub (by assumption) (by walk_at "gk") | exact dk_upd (by assumption) (by walk_at "gk") ⟨_, by walk_at "gq"⟩ | exact dk_updD (by assumption) (by walk_at "gk") ⟨_, by walk_at "gq"⟩)
local macro_rules | `(tactic| walk_at "gu") => `(tactic| first | assumption | exact Upd.refl _ _ | exact upd_in (by assumption) (by walk_at "gu"))
local macro_rules | `(tactic| walk_at "gx") => `(tactic| first | assumption | exact SubX.refl _ _ | exact subx_sub (by assumption) (by walk_at "gx") | exact subx_upd (by assumption) (by walk_at "gx") | exact subx_tr (by assumption) (by walk_at "gx"))
local macro_rules | `(tactic| walk_at "gn") => `(tactic| first | assumption | exact Ne.symm (by assumption) | exact ne_ns (by assumption) ⟨_, by walk_at "gq"⟩ | exact ne_sn (by assumption) ⟨_, by walk_at "gq"⟩)
local macro_rules | `(tactic| walk_at "g0") => `(tactic| first | assumption | exact nn_ (by assumption) (by walk_at "gs"))
local macro_rules | `(tactic| walk_at "gl") => `(tactic| first | exact lv_w | exact lv_t | exact lv_r | exact lv_k)
local macro_rules | `(tactic| walk_at "df") => `(tactic| first | (with_reducible refine w_fld ?_) | (with_reducible refine w_fldS ?_) | (with_reducible refine w_meth ?_) | (with_reducible refine w_make ?_) | (with_reducible refine w_inK ?_) | ((with_reducible show ∃ a' C' fs' d', DV.ref _ = .ref a' ∧ _ ∧ Cls _ C' ∧ NoAttr _ C' _ ∧ List.lookup _ fs' = some d' ∧ _); refine ⟨_, _, _, _, rfl, by walk_at "gq", by assumption, by assumption, by walk_at "gl", ?_⟩))
local macro_rules | `(tactic| walk_at "de") => `(tactic| repeat (first | walk_at "d1" | walk_at "df"))
abbrev s_p_Level_init : Stmt := inClass (top 22) 0
abbrev s_p_Level_add_rest : Stmt := inClass (top 22) 1
abbrev s_p_Level_part_sides : Stmt := inClass (top 22) 2
abbrev s_p_Level_side : Stmt := inClass (top 22) 3
abbrev s_p_Level_row_kind : Stmt := inClass (top 22) 4
abbrev s_p_Level_kind : Stmt := inClass (top 22) 5
section
variable {P : Program} {w : World} {K : Frag} {mg : Str → Option Value} {base : Heap}
def SP_li (C : Addr) : DSp := fun ds G R => ∃ a w, ds = [.ref a, .str w] ∧ G a = some (.obj C []) ∧ ∀ l G', G l = none → Frm [a] G G' → LvAt C G' a l ⟨w, none, "", []⟩ → R .non G'
def SP_ls (C : Addr) : DSp := fun ds G R => ∃ a l v, ds = [.ref a] ∧ LvAt C G a l v ∧ R (eS (.mk v.rest v.ks)) G
def SP_la (C N : Addr) : DSpX := fun ds G R RX => ∃ a l v z, ds = [.ref a, .str z] ∧ LvAt C G a l v ∧ ((v.w = "list" ∨ v.rest ≠ "" ∨ v.ks ≠ []) → RX (.ref N) G) ∧ (¬ (v.w = "list" ∨ v.rest ≠ "" ∨ v.ks ≠ []) → ∀ G', Frm [a] G G' → LvAt C G' a l { v with rest := z } → R .non G')
def SP_lp (C N : Addr) : DSpX := fun ds G R RX => ∃ a l v, ds = [.ref a] ∧ LvAt C G a l v ∧ ((v.w = "list" ∨ v.take.isSome = true) → RX (.ref N) G) ∧ (¬ (v.w = "list" ∨ v.take.isSome = true) → ∀ l' G', G l' = none → Frm [a] G G' → LvAt C G' a l' { v with take := some (.mk v.rest v.ks), rest := "", ks := [] } → R .non G')
def SP_lr (C N : Addr) : DSpX := fun ds G R RX => ∃ a l v, ds = [.ref a] ∧ LvAt C G a l v ∧ (∀ t, v.take = some t → R (eR (t, .mk v.rest v.ks)) G) ∧ (v.take = none → RX (.ref N) G)
def SP_lk (C N : Addr) : DSpX := fun ds G R RX => ∃ a l v, ds = [.ref a] ∧ LvAt C G a l v ∧ v.ks.length ≤ 900000 ∧ (∀ k, clF v = some k → R (eK k) G) ∧ (clF v = none → RX (.ref N) G)
abbrev N_p_Level_init : List Str := ["self", "within"]
abbrev A_p_Level_init : List Str := ["self", "within"]
theorem sc_p_Level_init : FnScope N_p_Level_init A_p_Level_init (defScope s_p_Level_init) := ⟨rfl, rfl, rfl, by decide +kernel, rfl, by decide +kernel, by decide +kernel⟩
theorem h_p_Level_init {C : Addr} (a : AtI K mg C "Level" "Level.__init__" s_p_Level_init A_p_Level_init) (B : BI mg) (T : LvT K C) : HasI P w K mg base 1 C "Level" A_p_Level_init (SP_li C) := by
  refine ati_mk a sc_p_Level_init fun f cdv A outer s H E hr ds G R hl h => ?_
  refine ⟨_, (dss_cons (ds_fld (dv 0) (dv 1))
    (dss_cons (ds_fld (dv 0) de_non)
    (dss_cons (ds_fld (dv 0) de_str)
    (dss_one (ds_fld (dv 0) (de_lst da_nil)))))), ?_⟩
  obtain ⟨a, w, rfl, ha, q⟩ := h
  obtain ⟨hC, nW, nT, nR, nK⟩ := T
  walk_at "de"
  refine ⟨_, _, _, rfl, ha, by assumption, by assumption, (by show 0 < 1000; decide), ?_⟩
  refine abs_upd ha fun G1 u1 h1 => ?_
  walk_at "de"
  refine ⟨_, _, _, rfl, h1, by assumption, by assumption, (by show 1 < 1000; decide), ?_⟩
  refine abs_upd h1 fun G2 u2 h2 => ?_
  walk_at "de"
  refine ⟨_, _, _, rfl, h2, by assumption, by assumption, (by show 2 < 1000; decide), ?_⟩
  refine abs_upd h2 fun G3 u3 h3 => ?_
  walk_at "de"
  intro l nl
  refine abs_new nl fun G4 s4 h4 => ?_
  walk_at "de"
  have h3' := s4 _ _ h3
  refine ⟨_, _, _, rfl, h3', by assumption, by assumption, (by show 3 < 1000; decide), ?_⟩
  have la : l ≠ a := fun e => by rw [e, h3] at nl; cases nl
  refine abs_upd h3' fun G5 u5 h5 => ?_
  refine Less.of (q l G5 ?_ ((((Frm.upd u1).tr (.upd u2)).tr (.upd u3)).tr ((Frm.sub s4).tr (.upd u5))) ⟨?_, (u5 l la).trans h4⟩)
  · have e1 : G3 l = G l := (u3 l la).trans ((u2 l la).trans (u1 l la))
    rw [← e1]; exact nl
  · rw [h5]
    show some (DO.obj C _) = some (DO.obj C (lvF w .non "" l))
    rw [← lput_new]
abbrev N_p_Level_side : List Str := ["self"]
abbrev A_p_Level_side : List Str := ["self"]
theorem sc_p_Level_side : FnScope N_p_Level_side A_p_Level_side (defScope s_p_Level_side) := ⟨rfl, rfl, rfl, by decide +kernel, rfl, by decide +kernel, by decide +kernel⟩
theorem h_p_Level_side {C : Addr} (a : AtM K C "side" "Level.side" s_p_Level_side A_p_Level_side) (B : BI mg) (T : LvT K C) : HasM P w K mg base 1 C "side" A_p_Level_side (SP_ls C) := by
  refine atm_mk a sc_p_Level_side fun f cdv A outer s H E hr ds G R hl h => ?_
  refine ⟨_, (dss_one (ds_ret (de_tup (da_cons (de_fld (dv 0)) (da_cons (de_callTy cd_tuple B.tup rfl (by decide +kernel) (da_cons (de_fld (dv 0)) da_nil)) da_nil))))), ?_⟩
  obtain ⟨a, l, v, rfl, ⟨ha, hk⟩, q⟩ := h
  obtain ⟨hC, nW, nT, nR, nK⟩ := T
  walk_at "de"
  exact Less.of q
abbrev N_p_Level_add_rest : List Str := ["self", "rest"]
abbrev A_p_Level_add_rest : List Str := ["self", "rest"]
theorem sc_p_Level_add_rest : FnScope N_p_Level_add_rest A_p_Level_add_rest (defScope s_p_Level_add_rest) := ⟨rfl, rfl, rfl, by decide +kernel, rfl, by decide +kernel, by decide +kernel⟩
theorem h_p_Level_add_rest {C : Addr} (a : AtM K C "add_rest" "Level.add_rest" s_p_Level_add_rest A_p_Level_add_rest) (B : BI mg) (T : LvT K C) {e_NoText : Addr} (x_NoText : ErrC K mg "NoText" e_NoText) : HasMX P w K mg base 1 C "add_rest" A_p_Level_add_rest (SP_la C e_NoText) := by
  refine atmx_mk a sc_p_Level_add_rest fun f cdv A outer s H E hr ds G R RX hl hx h => ?_
  refine ⟨_, (dss_cons (ds_if (dt_w (dw_or (dt_cmp (od_eq hr.units) (de_fld (dv 0)) de_str (nomark _)) (dw_or (dt_cmp (od_ne hr.units) (de_fld (dv 0)) de_str (nomark _)) (dw_or1 (dt_cmp od_gt (de_callB cd_len B.len rfl (by decide +kernel) (da_cons (de_fld (dv 0)) da_nil)) de_int (nomark _)))))) (dss_one (ds_raiseC x_NoText rfl hx (takes_of rfl rfl rfl rfl) rfl)) dss_nil)
    (dss_one (ds_fld (dv 0) (dv 1)))), ?_⟩
  obtain ⟨a, l, ⟨w, t, r, ks⟩, z, rfl, ⟨ha, hk⟩, qx, q⟩ := h
  obtain ⟨hC, nW, nT, nR, nK⟩ := T
  have ha : G a = some (.obj C (lvF w (tkD t) r l)) := ha
  have hk : G l = some (.lst (eKs ks)) := hk
  walk_at "de"
  by_cases e1 : w = "list"
  · refine w_it (decide_eq_true e1) ?_
    walk_at "de"
    exact LessX.of (qx (.inl e1))
  refine w_if0 (decide_eq_false e1) ?_
  walk_at "de"
  rcases Classical.em (¬ r = "") with e2 | e2
  · refine w_it (by show (!decide (r = "")) = true; rw [decide_eq_false e2]; rfl) ?_
    walk_at "de"
    exact LessX.of (qx (.inr (.inl e2)))
  have e2 : r = "" := Classical.not_not.mp e2
  refine w_if0 (by show (!decide (r = "")) = false; rw [decide_eq_true e2]; rfl) ?_
  walk_at "de"
  rcases Classical.em (¬ ks = []) with e3 | e3
  · have l0 : 0 < ks.length := List.length_pos_iff.mpr e3
    refine w_it (by rw [eKs_len]; exact decide_eq_true (by omega)) ?_
    walk_at "de"
    exact LessX.of (qx (.inr (.inr e3)))
  have e3 : ks = [] := Classical.not_not.mp e3
  refine w_if0 (by rw [e3]; rfl) ?_
  walk_at "de"
  refine ⟨_, _, _, rfl, ha, by assumption, by assumption, (by show 4 < 1000; decide), ?_⟩
  refine abs_upd ha fun G1 u1 h1 => ?_
  rw [lput_r] at h1
  have la : l ≠ a := fun e => by rw [e, ha] at hk; cases hk
  exact Less.of (q (fun h => by rcases h with h | h | h; exact e1 h; exact h e2; exact h e3) G1 (.upd u1) ⟨h1, (u1 l la).trans hk⟩)
abbrev N_p_Level_part_sides : List Str := ["self"]
abbrev A_p_Level_part_sides : List Str := ["self"]
theorem sc_p_Level_part_sides : FnScope N_p_Level_part_sides A_p_Level_part_sides (defScope s_p_Level_part_sides) := ⟨rfl, rfl, rfl, by decide +kernel, rfl, by decide +kernel, by decide +kernel⟩
theorem h_p_Level_part_sides {C : Addr} (a : AtM K C "part_sides" "Level.part_sides" s_p_Level_part_sides A_p_Level_part_sides) (B : BI mg) (T : LvT K C) {e_NoText : Addr} (x_NoText : ErrC K mg "NoText" e_NoText) (m_side : HasM P w K mg base 1 C "side" A_p_Level_side (SP_ls C)) : HasMX P w K mg base 2 C "part_sides" A_p_Level_part_sides (SP_lp C e_NoText) := by
  refine atmx_mk a sc_p_Level_part_sides fun f cdv A outer s H E hr ds G R RX hl hx h => ?_
  refine ⟨_, (dss_cons (ds_if (dt_w (dw_or (dt_cmp (od_eq hr.units) (de_fld (dv 0)) de_str (nomark _)) (dw_or1 (dt_cmp od_isnot (de_fld (dv 0)) de_non (nomark _))))) (dss_one (ds_raiseC x_NoText rfl hx (takes_of rfl rfl rfl rfl) rfl)) dss_nil)
    (dss_cons (ds_fld (dv 0) (de_meth0 m_side (hr.mono (by omega)) (dv 0)))
    (dss_cons (ds_fld (dv 0) de_str)
    (dss_one (ds_fld (dv 0) (de_lst da_nil)))))), ?_⟩
  obtain ⟨a, l, ⟨w, t, r, ks⟩, rfl, ⟨ha, hk⟩, qx, q⟩ := h
  obtain ⟨hC, nW, nT, nR, nK⟩ := T
  have ha : G a = some (.obj C (lvF w (tkD t) r l)) := ha
  have hk : G l = some (.lst (eKs ks)) := hk
  walk_at "de"
  by_cases e1 : w = "list"
  · refine w_it (decide_eq_true e1) ?_
    walk_at "de"
    exact LessX.of (qx (.inl e1))
  refine w_if0 (decide_eq_false e1) ?_
  walk_at "de"
  cases t with
  | some t0 =>
    refine w_it (by show (!decide (eS t0 = DV.non)) = true; rw [decide_eq_false (by cases t0; exact fun z => nomatch z)]; rfl) ?_
    walk_at "de"
    exact LessX.of (qx (.inr rfl))
  | none =>
  refine w_if0 (by show (!decide (DV.non = DV.non)) = false; rw [decide_eq_true rfl]; rfl) ?_
  walk_at "de"
  refine ⟨_, _, rfl, ha, lv_no (by decide +kernel) (by decide +kernel) (by decide +kernel) (by decide +kernel), ?_⟩
  walk_at "de"
  refine ⟨a, l, ⟨w, none, r, ks⟩, rfl, ⟨ha, hk⟩, ?_⟩
  walk_at "de"
  refine ⟨_, _, _, rfl, ha, by assumption, by assumption, (by show 4 < 1000; decide), ?_⟩
  refine abs_upd ha fun G1 u1 h1 => ?_
  rw [lput_t] at h1
  walk_at "de"
  refine ⟨_, _, _, rfl, h1, by assumption, by assumption, (by show 4 < 1000; decide), ?_⟩
  refine abs_upd h1 fun G2 u2 h2 => ?_
  rw [lput_r] at h2
  walk_at "de"
  intro l' nl
  refine abs_new nl fun G3 s3 h3 => ?_
  have h2' := s3 _ _ h2
  walk_at "de"
  refine ⟨_, _, _, rfl, h2', by assumption, by assumption, (by show 4 < 1000; decide), ?_⟩
  have la : l' ≠ a := fun e => by rw [e, h2] at nl; cases nl
  refine abs_upd h2' fun G4 u4 h4 => ?_
  rw [lput_k] at h4
  refine Less.of (q (fun h => by rcases h with h | h; exact e1 h; cases h) l' G4 ?_ (((Frm.upd u1).tr (.upd u2)).tr ((Frm.sub s3).tr (.upd u4))) ⟨h4, (u4 l' la).trans h3⟩)
  have e1 : G2 l' = G l' := (u2 l' la).trans (u1 l' la)
  rw [← e1]; exact nl
abbrev N_p_Level_row_kind : List Str := ["self"]
abbrev A_p_Level_row_kind : List Str := ["self"]
theorem sc_p_Level_row_kind : FnScope N_p_Level_row_kind A_p_Level_row_kind (defScope s_p_Level_row_kind) := ⟨rfl, rfl, rfl, by decide +kernel, rfl, by decide +kernel, by decide +kernel⟩
theorem h_p_Level_row_kind {C : Addr} (a : AtM K C "row_kind" "Level.row_kind" s_p_Level_row_kind A_p_Level_row_kind) (B : BI mg) (T : LvT K C) {e_NoText : Addr} (x_NoText : ErrC K mg "NoText" e_NoText) (m_side : HasM P w K mg base 1 C "side" A_p_Level_side (SP_ls C)) : HasMX P w K mg base 2 C "row_kind" A_p_Level_row_kind (SP_lr C e_NoText) := by
  refine atmx_mk a sc_p_Level_row_kind fun f cdv A outer s H E hr ds G R RX hl hx h => ?_
  refine ⟨_, (dss_cons (ds_if (dt_cmp od_is (de_fld (dv 0)) de_non (nomark _)) (dss_one (ds_raiseC x_NoText rfl hx (takes_of rfl rfl rfl rfl) rfl)) dss_nil)
    (dss_one (ds_ret (de_tup (da_cons (de_fld (dv 0)) (da_cons (de_meth0 m_side (hr.mono (by omega)) (dv 0)) da_nil)))))), ?_⟩
  obtain ⟨a, l, ⟨w, t, r, ks⟩, rfl, ⟨ha, hk⟩, q, qx⟩ := h
  obtain ⟨hC, nW, nT, nR, nK⟩ := T
  have ha : G a = some (.obj C (lvF w (tkD t) r l)) := ha
  have hk : G l = some (.lst (eKs ks)) := hk
  cases t with
  | none =>
    walk_at "de"
    refine w_it (decide_eq_true rfl) ?_
    walk_at "de"
    exact LessX.of (qx rfl)
  | some t0 =>
    have q := q t0 rfl
    cases t0 with
    | mk r0 ks0 =>
      walk_at "de"
      refine w_if0 (decide_eq_false (fun h => by cases h)) ?_
      walk_at "de"
      refine ⟨_, _, rfl, ha, lv_no (by decide +kernel) (by decide +kernel) (by decide +kernel) (by decide +kernel), ?_⟩
      walk_at "de"
      refine ⟨a, l, ⟨w, some (.mk r0 ks0), r, ks⟩, rfl, ⟨ha, hk⟩, ?_⟩
      walk_at "de"
      exact Less.of q
abbrev N_p_Level_kind : List Str := ["self", "take", "leave"]
abbrev A_p_Level_kind : List Str := ["self"]
theorem sc_p_Level_kind : FnScope N_p_Level_kind A_p_Level_kind (defScope s_p_Level_kind) := ⟨rfl, rfl, rfl, by decide +kernel, rfl, by decide +kernel, by decide +kernel⟩
theorem h_p_Level_kind {C : Addr} (a : AtM K C "kind" "Level.kind" s_p_Level_kind A_p_Level_kind) (B : BI mg) (T : LvT K C) {e_NoText : Addr} (x_NoText : ErrC K mg "NoText" e_NoText) (m_row_kind : HasMX P w K mg base 2 C "row_kind" A_p_Level_row_kind (SP_lr C e_NoText)) : HasMX P w K mg base 3 C "kind" A_p_Level_kind (SP_lk C e_NoText) := by
  refine atmx_mk a sc_p_Level_kind fun f cdv A outer s H E hr ds G R RX hl hx h => ?_
  refine ⟨_, (dss_cons (ds_if (dt_cmp (od_eq hr.units) (de_fld (dv 0)) de_str (nomark _)) (dss_cons (ds_asg (de_meth0X m_row_kind hx (takes_of rfl rfl rfl rfl) (hr.mono (by omega)) (dv 0)) (dg_tup rfl (dgs_cons (dg_name (i := 1) sc_p_Level_kind.nd rfl (.inl rfl)) (dgs_cons (dg_name (i := 2) sc_p_Level_kind.nd rfl (.inl rfl)) dgs_nil))))
      (dss_one (ds_ret (de_tup (da_cons de_str (da_cons (dv 1) (da_cons (dv 2) da_nil))))))) dss_nil)
    (dss_cons (ds_if (dt_cmp (od_ne hr.units) (de_callB cd_len B.len rfl (by decide +kernel) (da_cons (de_fld (dv 0)) da_nil)) de_int (nomark _)) (dss_one (ds_raiseC x_NoText rfl hx (takes_of rfl rfl rfl rfl) rfl)) dss_nil)
    (dss_one (ds_ret (de_tup (da_cons de_str (da_cons (de_ix (de_fld (dv 0)) de_int) da_nil))))))), ?_⟩
  obtain ⟨a, l, ⟨w, t, r, ks⟩, rfl, ⟨ha, hk⟩, lk, q, qx⟩ := h
  obtain ⟨hC, nW, nT, nR, nK⟩ := T
  have ha : G a = some (.obj C (lvF w (tkD t) r l)) := ha
  have hk : G l = some (.lst (eKs ks)) := hk
  have lk : ks.length ≤ 900000 := lk
  walk_at "de"
  by_cases e1 : w = "row"
  · have ec : clF ⟨w, t, r, ks⟩ = t.map fun t => .row t (.mk r ks) := if_pos e1
    rw [ec] at q qx
    refine w_it (decide_eq_true e1) ?_
    walk_at "de"
    refine ⟨_, _, rfl, ha, lv_no (by decide +kernel) (by decide +kernel) (by decide +kernel) (by decide +kernel), ?_⟩
    walk_at "de"
    refine ⟨a, l, ⟨w, t, r, ks⟩, rfl, ⟨ha, hk⟩, fun t0 et => ?_, fun et => ?_⟩
    · have et : t = some t0 := et
      subst et
      walk_at "de"
      exact Less.of (q _ rfl)
    · have et : t = none := et
      subst et
      exact LessX.of (qx rfl)
  · have ec : clF ⟨w, t, r, ks⟩ = clL ks := if_neg e1
    clear lk
    rw [ec] at q qx
    refine w_if0 (decide_eq_false e1) ?_
    walk_at "de"
    match ks, hk, q, qx with
    | [], hk, q, qx =>
      refine w_it (by rfl) ?_
      walk_at "de"
      exact LessX.of (qx rfl)
    | [k], hk, q, qx =>
      refine w_if0 (by rfl) ?_
      walk_at "de"
      refine w_ixL hk (atI_nat (j := 0) rfl) ?_
      walk_at "de"
      exact Less.of (q (.lst k) rfl)
    | k :: k2 :: ks, hk, q, qx =>
      refine w_it (by show (!decide (_ = _)) = true; rw [decide_eq_false (by rw [eKs_len, List.length_cons, List.length_cons]; omega)]; rfl) ?_
      walk_at "de"
      exact LessX.of (qx rfl)
end
end K18
set_option maxHeartbeats 1000000
namespace K18
open PySem PySem.W L2 SX Cm DD
local macro_rules | `(tactic| walk_at "d1") => `(tactic| first | (with_reducible refine w_seq ?_) | (with_reducible refine w_next ?_) | ((with_reducible show dVar _ _ _ _); refine w_var rfl ?_) | (with_reducible refine w_asg ?_) | (with_reducible refine w_cons ?_) | (with_reducible refine w_nil ?_) | (with_reducible refine w_c ?_) | (with_reducible refine w_op ?_) | (with_reducible refine w_call ?_) | (with_reducible refine w_CB ?_) | (with_reducible refine w_ret ?_) | (with_reducible refine w_ifS ?_) | (with_reducible refine w_drop ?_) | (with_reducible refine w_tup ?_) | (with_reducible refine w_lst ?_) | (with_reducible refine w_sl ?_) | (with_reducible refine w_none ?_) | (with_reducible refine w_some ?_) | (with_reducible refine w_BM ?_) | (with_reducible refine w_BM0 ?_) | (with_reducible refine w_test ?_) | (with_reducible refine w_tru ?_) | (with_reducible refine w_and ?_) | (with_reducible refine w_or ?_) | (with_reducible refine w_not ?_) | (with_reducible refine w_yes ?_) | (with_reducible refine w_ifE ?_) | (with_reducible refine w_andV ?_) | (with_reducible refine w_orV ?_) | (with_reducible refine w_notV ?_) | (with_reducible refine w_neg ?_) | (with_reducible refine w_rev ?_) | (with_reducible refine w_exI ?_) | (with_reducible refine w_exB ?_) | (with_reducible refine w_exT ?_) | (with_reducible refine w_exS ?_) | (with_reducible refine w_parE ?_) | (with_reducible refine w_par ?_) | (with_reducible refine w_asgS ?_) | (with_reducible refine w_retN ?_) | (with_reducible refine w_break ?_) | (with_reducible refine w_cont ?_) | (with_reducible refine w_truB ?_) | (with_reducible refine w_truI ?_) | (with_reducible refine w_truN ?_) | (with_reducible refine w_truT ?_) | (with_reducible refine w_addI ?_) | (with_reducible refine w_subI ?_) | (with_reducible refine w_cmpI ?_) | (with_reducible refine w_cmpS ?_) | (with_reducible refine w_eqSS ?_) | (with_reducible refine w_eqII ?_) | (with_reducible refine w_eqBB ?_) | (with_reducible refine w_neSS ?_) | (with_reducible refine w_neII ?_) | (with_reducible refine w_neBB ?_) | (with_reducible refine w_eqSN ?_) | (with_reducible refine w_eqIN ?_) | (with_reducible refine w_eqSI ?_) | (with_reducible refine w_eqIS ?_) | (with_reducible refine w_eqNS ?_) | (with_reducible refine w_eqBS ?_) | (with_reducible refine w_eqT0 ?_) | (with_reducible refine w_ix0 ?_) | (with_reducible refine w_ix1 ?_) | (with_reducible refine w_ix2 ?_) | (with_reducible refine w_ix3 ?_) | (with_reducible refine w_slT ?_) | (with_reducible refine w_lenT ?_) | (with_reducible refine w_intB ?_) | (with_reducible refine w_intI ?_) | (with_reducible refine w_tupT ?_) | (with_reducible refine w_rcvS ?_) | (with_reducible refine ly1 ?_) | (with_reducible refine ly2 ?_) | (with_reducible refine lt1' ?_) | (with_reducible refine lt2' ?_) | (with_reducible refine g_n ?_) | (with_reducible refine w_isN ?_) | (with_reducible refine w_isnN ?_) | (with_reducible refine w_for ?_) | (with_reducible refine w_lc ?_) | (with_reducible refine wi_tup ?_) | (with_reducible refine wi_lst ?_) | (with_reducible refine wi_str ?_) | (with_reducible refine wi_rng ?_) | (with_reducible refine wi_rng2 ?_) | (with_reducible refine wi_enumT ?_) | (with_reducible refine wi_enum ?_) | (with_reducible refine wi_rev ?_) | (with_reducible refine wi_revR ?_) | (with_reducible refine wx_enumT ?_) | (with_reducible refine w_callX ?_) | (with_reducible refine w_methX ?_) | (with_reducible refine w_raise ?_) | (with_reducible refine w_try ?_) | (with_reducible refine w_xSet ?_) | (with_reducible refine w_xExpr ?_) | (with_reducible refine w_xLst ?_) | (with_reducible refine w_xTup ?_) | (with_reducible refine w_xCons ?_) | (with_reducible refine w_xNil ?_) | (with_reducible refine w_xE ?_) | (with_reducible refine w_xCall ?_) | (with_reducible refine w_call0 ?_) | (with_reducible refine w_asgL ?_) | (with_reducible refine w_tupPd ?_) | (with_reducible refine wi_zip ?_) | (with_reducible refine w_dnew ?_) | (with_reducible refine w_dget ?_) | (with_reducible refine w_dget2 ?_) | (with_reducible refine w_din ?_) | (with_reducible refine w_dput ?_) | (with_reducible refine w_asgT ?_) | (with_reducible refine g_C ?_) | (with_reducible refine g_0 ?_) | (with_reducible refine w_inS ?_) | (with_reducible refine w_delT ?_) | (with_reducible refine w_dc ?_) | (with_reducible refine w_revL ?_) | (with_reducible refine wi_revT ?_) | (with_reducible refine w_lstZip ?_) | (with_reducible refine w_chain ?_) | (with_reducible refine w_orT ?_) | ((with_reducible show gT _ _ _ _ _ _); refine g_T ?_ rfl) | ((with_reducible show ∃ p, DV.ref _ = _ ∧ (∃ kvs, _) ∧ _); refine wx_get (by walk_at "gq") ?_) | ((with_reducible show ∃ kvs z, _ = _ ∧ _ = some (DO.dct _) ∧ _); refine wx_get2 (by walk_at "gq") ?_) | ((with_reducible show ∃ p kvs z, _ = _ ∧ _ = _ ∧ _ = some (DO.dct _) ∧ _); refine wx_in (by walk_at "gq") ?_) | ((with_reducible show List.length _ = _ ∧ _); refine w_len ?_ rfl) | ((with_reducible show List.length _ ≤ sizeLine ∧ _); refine w_sz ?_ (szl rfl)) | ((with_reducible show bIx _ (.int _) _ _); first | refine w_ix0 ?_ | refine w_ix1 ?_ | refine w_ix2 ?_ | refine w_ix3 ?_) | ((with_reducible show bIsi [_, _] _ _); first | refine w_isi (by decide) (a := "tuple") rfl rfl ?_ | refine w_isi (by decide) (a := "str") rfl rfl ?_ | refine w_isi (by decide) (a := "int") rfl rfl ?_ | refine w_isi (by decide) (a := "bool") rfl rfl ?_ | refine w_isi (by decide) (a := "NoneType") rfl rfl ?_) | ((with_reducible show ∃ ds, _ = DV.tup ds ∧ _); refine w_exT ?_) | ((with_reducible show ∃ z, _ = DV.str z ∧ _); refine w_exS ?_) | ((with_reducible show ∃ ds, [_] = [DV.tup ds] ∧ _); refine wx_enumT ?_) | ((with_reducible show bSl _ _ _ _ _); refine w_slT ?_) | ((with_reducible show bTuple [_] _ _); refine w_tupT ?_) | ((with_reducible show bLen [_] _ _); refine w_lenT ?_) | ((with_reducible show bTru _ _ _); first | refine w_truT ?_ | refine w_truN ?_ | refine w_truB ?_ | refine w_truI ?_) | ((with_reducible show bEq _ _ _ _ _); first | refine w_eqSS ?_ | refine w_eqII ?_ | refine w_neSS ?_ | refine w_neII ?_ | refine w_eqT0 ?_) | ((with_reducible show bInt _ _ (.int _) (.int _) _ _); refine w_int (by first | decide | exact ⟨by decide, by decide, by decide⟩ | exact .inl ⟨by decide, by decide⟩ | exact .inr ⟨by decide, by decide⟩) ?_) | ((with_reducible show if _ = true then _ else _); first | refine w_it (by first | rfl | decide +kernel) ?_ | refine w_if0 (by first | rfl | decide +kernel) ?_) | ((with_reducible show rcv "list" (.ref _) _ ∧ _); refine w_rcvL (by walk_at "gq") ?_) | ((with_reducible show bTuple [.ref _] _ _); refine w_tupL (by walk_at "gq") ?_) | ((with_reducible show bLen [.ref _] _ _); refine w_lenL (by walk_at "gq") ?_) | ((with_reducible show bTru (.ref _) _ _); refine w_truL (by walk_at "gq") ?_) | ((with_reducible show ∃ _ _, DV.ref _ = _ ∧ Ls _ _ _ ∧ _); refine wx_lst (by walk_at "gq") ?_) | ((with_reducible show ∃ _ _, [DV.ref _] = _ ∧ Ls _ _ _ ∧ _); refine wx_lstA (by walk_at "gq") ?_))
local macro_rules | `(tactic| walk_at "dd") => `(tactic| repeat (walk_at "d1"))
local macro_rules | `(tactic| walk_at "gq") => `(tactic| first | assumption | exact dupd_same | exact sub_get (by assumption) (by walk_at "gq") | exact upd_get (by assumption) (by walk_at "gq") (by walk_at "gn") | exact subx_get (by assumption) (by walk_at "gq") (by walk_at "gn") | (refine (dupd_ne ?_).trans ?_; (focus walk_at "gn"); walk_at "gq"))
local macro_rules | `(tactic| walk_at "gs") => `(tactic| first | assumption | exact Sub.refl _ | exact sub_tr (by assumption) (by walk_at "gs") | exact sub_up (by assumption) (by walk_at "gs") (by walk_at "g0") | exact sub_ux (by assumption) (by walk_at "gs") (by walk_at "g0") | (refine Sub.new ?_ ?_; (focus walk_at "gs"); walk_at "g0"))
local macro_rules | `(tactic| walk_at "gk") => `(tactic| first | assumption | exact dk_sub (by assumption) (by walk_at "gk") | exact dk_upd (by assumption) (by walk_at "gk") ⟨_, by walk_at "gq"⟩ | exact dk_updD (by assumption) (by walk_at "gk") ⟨_, by walk_at "gq"⟩)
local macro_rules | `(tactic| walk_at "gu") => `(tactic| first | assumption | exact Upd.refl _ _ | exact upd_in (by assumption) (by walk_at "gu"))
local macro_rules | `(tactic| walk_at "gx") => `(tactic| first | assumption | exact SubX.refl _ _ | exact subx_sub (by assumption) (by walk_at "gx") | exact subx_upd (by assumption) (by walk_at "gx") | exact subx_tr (by assumption) (by walk_at "gx"))
local macro_rules | `(tactic| walk_at "gn") => `(tactic| first | assumption | exact Ne.symm (by assumption) | exact ne_ns (by assumption) ⟨_, by walk_at "gq"⟩ | exact ne_sn (by assumption) ⟨_, by walk_at "gq"⟩)
local macro_rules | `(tactic| walk_at "g0") => `(tactic| first | assumption | exact nn_ (by assumption) (by walk_at "gs"))
local macro_rules | `(tactic| walk_at "gl") => `(tactic| first | exact lv_w | exact lv_t | exact lv_r | exact lv_k)
local macro_rules | `(tactic| walk_at "df") => `(tactic| first | (with_reducible refine w_fld ?_) | (with_reducible refine w_fldS ?_) | (with_reducible refine w_meth ?_) | (with_reducible refine w_make ?_) | (with_reducible refine w_inK ?_) | ((with_reducible show ∃ a' C' fs' d', DV.ref _ = .ref a' ∧ _ ∧ Cls _ C' ∧ NoAttr _ C' _ ∧ List.lookup _ fs' = some d' ∧ _); refine ⟨_, _, _, _, rfl, by walk_at "gq", by assumption, by assumption, by walk_at "gl", ?_⟩))
local macro_rules | `(tactic| walk_at "de") => `(tactic| repeat (first | walk_at "d1" | walk_at "df"))
abbrev kO : List (Str × Str) := [("[", "row"), ("{", "list")]
abbrev kC : List (Str × Str) := [("]", "row"), ("}", "list")]
theorem held_B {C : Addr} {B G : DG} {p : Addr} {st : List Lv} {n : Nat} (h : Held C B G p st n) : Sub B G := by
  obtain ⟨as, sB, _⟩ := h
  exact sB
theorem stepW_bad (st : List Lv) : stepW "" st = none := by
  cases st with
  | nil => rfl
  | cons v r => rw [stepW_free (by decide +kernel), if_neg (by decide +kernel), if_neg (by decide +kernel)]
/-- words that are no texts of great length -/
def Short (W : List Str) : Prop := ∀ z ∈ W, (TL.tl z).length ≤ 1000
section
variable {P : Program} {w : World} {K : Frag} {mg : Str → Option Value} {base : Heap}
def SP_cl (C N : Addr) : DSpX := fun ds G R RX => ∃ B p s0 v r n, ds = [.ref p, .str s0] ∧ Held C B G p (v :: r) n ∧ n ≤ 800000 ∧ (∀ st G', closeF s0 (v :: r) = some st → Held C B G' p st (n + 1) → R .non G') ∧ (closeF s0 (v :: r) = none → RX (.ref N) B)
def SP_rm (C N : Addr) : DSpX := fun ds G R RX => ∃ B p v r z n, ds = [.str z, .ref p] ∧ Held C B G p (v :: r) n ∧ n ≤ 800000 ∧ (TL.tl z).length ≤ 1000 ∧ (∀ st G', stepW z (v :: r) = some st → Held C B G' p st (n + 1) → R .non G') ∧ (stepW z (v :: r) = none → RX (.ref N) B)
def SP_mt (N : Addr) : DSpX := fun ds G R RX => ∃ d, ds = [d] ∧ ((∃ z, d = .str z ∧ z.length ≤ LTx ∧ MkL G R ((wdsOf z).map .str)) ∨ ((∃ a, TyAt G d a ∧ tyB a "str" = false) ∧ RX (.ref N) G))
def SP_rk (N : Addr) : DSpX := fun ds G R RX => ∃ d, ds = [d] ∧ ((∃ z, d = .str z ∧ z.length ≤ LTx ∧ Short (wdsOf z) ∧ (∀ s t, toldK (wdsOf z) = some (s, t) → R (eR (s, t)) G) ∧ (toldK (wdsOf z) = none → RX (.ref N) G)) ∨ ((∃ a, TyAt G d a ∧ tyB a "str" = false) ∧ RX (.ref N) G))
abbrev N_p_close_level : List Str := ["levels", "sort", "kind"]
abbrev A_p_close_level : List Str := ["levels", "sort"]
theorem sc_p_close_level : FnScope N_p_close_level A_p_close_level (defScope s_p_close_level) := ⟨rfl, rfl, rfl, by decide +kernel, rfl, by decide +kernel, by decide +kernel⟩
theorem h_p_close_level (a : At K mg "close_level" s_p_close_level A_p_close_level) {C e_NoText : Addr} (B : BI mg) (T : LvT K C) (x_NoText : ErrC K mg "NoText" e_NoText) (m_kind : HasMX P w K mg base 3 C "kind" A_p_Level_kind (SP_lk C e_NoText)) : HasX P w K mg base 4 "close_level" A_p_close_level (SP_cl C e_NoText) := by
  refine atx_mk a sc_p_close_level fun f cdv A outer s H E hr ds G R RX hl hx h => ?_
  refine ⟨_, (dss_cons (ds_if (dt_w (dw_or (dt_cmp (od_eq hr.units) (de_callB cd_len B.len rfl (by decide +kernel) (da_cons (dv 0) da_nil)) de_int (nomark _)) (dw_or1 (dt_cmp (od_ne hr.units) (de_fld (de_ix (dv 0) (de_neg de_int))) (dv 1) (nomark _))))) (dss_one (ds_raiseC x_NoText rfl hx (takes_of rfl rfl rfl rfl) rfl)) dss_nil)
    (dss_cons (ds_set (i := 2) sc_p_close_level.nd rfl (.inl rfl) (de_meth0X m_kind hx (takes_of rfl rfl rfl rfl) (hr.mono (by omega)) (de_bm0 PySem.F.plainAttrs_list PySem.F.slot_list_pop PySem.F.type_list_pop md_pop (dv 0))))
    (dss_one (ds_expr (de_bm PySem.F.plainAttrs_list PySem.F.slot_list_append PySem.F.type_list_append md_append (de_fld (de_ix (dv 0) (de_neg de_int))) (da_cons (dv 2) da_nil)))))), ?_⟩
  obtain ⟨B', p, s0, v, r, n, rfl, hh, hn, q, qx⟩ := h
  obtain ⟨hC, nW, nT, nR, nK⟩ := T
  obtain ⟨a0, l0, L, hp, hL, ⟨ha, hl0⟩, hk, hr', pa, pl, _, pop⟩ := held_cons hh
  walk_at "de"
  match r, hL, hr', pop, q, qx with
  | [], hL, hr', pop, q, qx =>
    refine w_it (decide_eq_true (by rw [List.length_append, List.length_singleton, hL]; rfl)) ?_
    walk_at "de"
    exact ⟨B', held_B hh, qx rfl⟩
  | u :: r, hL, hr', pop, q, qx =>
  have ec : closeF s0 (v :: u :: r) = if v.w = s0 then (clF v).map fun k => { u with ks := u.ks ++ [k] } :: r else none := rfl
  refine w_if0 (decide_eq_false (fun e => ?_)) ?_
  · rw [List.length_append, List.length_singleton, hL, List.length_cons] at e
    omega
  walk_at "de"
  refine w_ixL hp (atI_last _ _) ?_
  walk_at "de"
  by_cases e0 : v.w = s0
  · rw [if_pos e0] at ec
    refine w_if0 (by rw [decide_eq_true e0]; rfl) ?_
    walk_at "de"
    refine w_pop hp ?_
    refine abs_upd hp fun G1 u1 h1 => ?_
    have ha1 := (u1 a0 pa).trans ha
    have hl1 := (u1 l0 pl).trans hl0
    have hh1 := pop G1 u1 h1
    refine ⟨_, _, rfl, ha1, lv_no (by decide +kernel) (by decide +kernel) (by decide +kernel) (by decide +kernel), ?_⟩
    walk_at "de"
    refine ⟨a0, l0, v, rfl, ⟨ha1, hl1⟩, by omega, fun kd ek => ?_, fun ek => ?_⟩
    · rw [ek] at ec
      have ec : closeF s0 (v :: u :: r) = some ({ u with ks := u.ks ++ [kd] } :: r) := ec
      obtain ⟨a2, l2, L2, hp2, hL2, ⟨ha2, hl2⟩, hk2, _, _, _, chg, _⟩ := held_cons hh1
      walk_at "de"
      refine w_ixL hp2 (atI_last _ _) ?_
      walk_at "de"
      refine w_app hl2 (by rw [eKs_len]; exact midlt (by omega)) ?_
      refine abs_upd hl2 fun G2 u2 h2 => ?_
      have al : a2 ≠ l2 := fun e => by rw [e, hl2] at ha2; cases ha2
      refine Less.of (q _ G2 ec (chg G2 l2 { u with ks := u.ks ++ [kd] } ((Frm.upd u2).mono fun x hx => List.mem_cons_of_mem _ hx) ⟨(u2 a2 al).trans ha2, ?_⟩ (.inl rfl) ?_))
      · rw [h2]; show _ = some (DO.lst (eKs (u.ks ++ [kd]))); rw [eKs_app]; rfl
      · show (u.ks ++ [kd]).length ≤ n + 1; rw [List.length_append, List.length_singleton]; omega
    · rw [ek] at ec
      exact ⟨B', held_B hh1, qx ec⟩
  · rw [if_neg e0] at ec
    refine w_it (by rw [decide_eq_false e0]; rfl) ?_
    walk_at "de"
    exact ⟨B', held_B hh, qx ec⟩
abbrev N_p_read_mark : List Str := ["mark", "levels"]
abbrev A_p_read_mark : List Str := ["mark", "levels"]
theorem sc_p_read_mark : FnScope N_p_read_mark A_p_read_mark (defScope s_p_read_mark) := ⟨rfl, rfl, rfl, by decide +kernel, rfl, by decide +kernel, by decide +kernel⟩
theorem h_p_read_mark (a : At K mg "read_mark" s_p_read_mark A_p_read_mark) {C dO dC e_NoText : Addr} (B : BI mg) (T : LvT K C) (T_OPENINGS : TabD K w dO kO) (T_CLOSINGS : TabD K w dC kC) (c_p_close_level : HasX P w K mg base 4 "close_level" A_p_close_level (SP_cl C e_NoText)) (c_p_is_open_thing : Has P w K mg base 3 "is_open_thing" A_p_is_open_thing SP_opt) (c_p_is_open_rest : Has P w K mg base 3 "is_open_rest" A_p_is_open_rest SP_opr) (x_NoText : ErrC K mg "NoText" e_NoText) (g_OPENINGS : mg "OPENINGS" = some (.ref dO)) (g_CLOSINGS : mg "CLOSINGS" = some (.ref dC)) (i_Level : HasI P w K mg base 1 C "Level" A_p_Level_init (SP_li C)) (m_part_sides : HasMX P w K mg base 2 C "part_sides" A_p_Level_part_sides (SP_lp C e_NoText)) (m_add_rest : HasMX P w K mg base 1 C "add_rest" A_p_Level_add_rest (SP_la C e_NoText)) : HasX P w K mg base 5 "read_mark" A_p_read_mark (SP_rm C e_NoText) := by
  refine atx_mk a sc_p_read_mark fun f cdv A outer s H E hr ds G R RX hl hx h => ?_
  refine ⟨_, (dss_one (ds_if (dt_cmp (od_inK T_OPENINGS) (dv 0) (de_gref g_OPENINGS rfl) rfl) (dss_one (ds_expr (de_bm PySem.F.plainAttrs_list PySem.F.slot_list_append PySem.F.type_list_append md_append (dv 1) (da_cons (de_make i_Level (hr.mono (by omega)) rfl (da_cons (de_kix T_OPENINGS (de_gref g_OPENINGS rfl) (dv 0)) da_nil)) da_nil)))) (dss_one (ds_if (dt_cmp (od_inK T_CLOSINGS) (dv 0) (de_gref g_CLOSINGS rfl) rfl) (dss_one (ds_expr (de_callX c_p_close_level hx (takes_of rfl rfl rfl rfl) (hr.mono (by omega)) rfl (da_cons (dv 1) (da_cons (de_kix T_CLOSINGS (de_gref g_CLOSINGS rfl) (dv 0)) da_nil))))) (dss_one (ds_if (dt_cmp (od_eq hr.units) (dv 0) de_str (nomark _)) (dss_one (ds_expr (de_meth0X m_part_sides hx (takes_of rfl rfl rfl rfl) (hr.mono (by omega)) (de_ix (dv 1) (de_neg de_int))))) (dss_one (ds_if (dt_cmp (od_eq hr.units) (dv 0) de_str (nomark _)) (dss_one (ds_expr (de_bm PySem.F.plainAttrs_list PySem.F.slot_list_append PySem.F.type_list_append md_append (de_fld (de_ix (dv 1) (de_neg de_int))) (da_cons (de_tup (da_cons de_str da_nil)) da_nil)))) (dss_one (ds_if (dt_e (de_call c_p_is_open_thing (hr.mono (by omega)) rfl (da_cons (dv 0) da_nil))) (dss_one (ds_expr (de_bm PySem.F.plainAttrs_list PySem.F.slot_list_append PySem.F.type_list_append md_append (de_fld (de_ix (dv 1) (de_neg de_int))) (da_cons (de_tup (da_cons de_str (da_cons (dv 0) da_nil))) da_nil)))) (dss_one (ds_if (dt_e (de_call c_p_is_open_rest (hr.mono (by omega)) rfl (da_cons (dv 0) da_nil))) (dss_one (ds_expr (de_methX m_add_rest hx (takes_of rfl rfl rfl rfl) (hr.mono (by omega)) (de_ix (dv 1) (de_neg de_int)) (da_cons (dv 0) da_nil)))) (dss_one (ds_raiseC x_NoText rfl hx (takes_of rfl rfl rfl rfl) rfl)))))))))))))), ?_⟩
  obtain ⟨B', p, v, r, z, n, rfl, hh, hn, hz1, q, qx⟩ := h
  obtain ⟨hC, nW, nT, nR, nK⟩ := id T
  by_cases b1 : z = "["
  · subst b1
    obtain ⟨L, hp, hL, push⟩ := held_lst hh
    walk_at "de"
    refine w_ixK look2_a ?_
    walk_at "de"
    intro a0 na
    refine ⟨rfl, a0, _, rfl, dupd_same, fun l0 G1 nl f1 h1 => ⟨rfl, ?_⟩⟩
    have pa : p ≠ a0 := fun e => by rw [e, na] at hp; cases hp
    have hp1 : G1 p = some (.lst L) := f1 p _ (fun z => pa (List.mem_singleton.mp z)) (by rw [dupd_ne pa]; exact hp)
    walk_at "de"
    refine w_app hp1 (midlt (by omega)) ?_
    refine abs_upd hp1 fun G2 u2 h2 => ?_
    exact Less.of (q _ G2 (sw_o v r) (push a0 l0 G1 G2 _ na nl f1 h1 rfl u2 h2))
  by_cases b2 : z = "{"
  · subst b2
    obtain ⟨L, hp, hL, push⟩ := held_lst hh
    walk_at "de"
    refine w_ixK (look2_b (by decide +kernel)) ?_
    walk_at "de"
    intro a0 na
    refine ⟨rfl, a0, _, rfl, dupd_same, fun l0 G1 nl f1 h1 => ⟨rfl, ?_⟩⟩
    have pa : p ≠ a0 := fun e => by rw [e, na] at hp; cases hp
    have hp1 : G1 p = some (.lst L) := f1 p _ (fun z => pa (List.mem_singleton.mp z)) (by rw [dupd_ne pa]; exact hp)
    walk_at "de"
    refine w_app hp1 (midlt (by omega)) ?_
    refine abs_upd hp1 fun G2 u2 h2 => ?_
    exact Less.of (q _ G2 (sw_b v r) (push a0 l0 G1 G2 _ na nl f1 h1 rfl u2 h2))
  by_cases b3 : z = "]"
  · subst b3
    rw [sw_c] at q qx
    walk_at "de"
    refine w_ixK look2_a ?_
    walk_at "de"
    refine ⟨B', p, _, v, r, n, rfl, hh, hn, fun st G' e' h' => ?_, fun e' => ?_⟩
    · walk_at "de"
      exact Less.of (q st G' e' h')
    · exact LessX.of (qx e')
  by_cases b4 : z = "}"
  · subst b4
    rw [sw_d] at q qx
    walk_at "de"
    refine w_ixK (look2_b (by decide +kernel)) ?_
    walk_at "de"
    refine ⟨B', p, _, v, r, n, rfl, hh, hn, fun st G' e' h' => ?_, fun e' => ?_⟩
    · walk_at "de"
      exact Less.of (q st G' e' h')
    · exact LessX.of (qx e')
  by_cases b5 : z = "--"
  · subst b5
    rw [sw_s] at q qx
    walk_at "de"
    obtain ⟨a2, l2, L2, hp2, hL2, ⟨ha2, hl2⟩, hk2, _, _, _, chg, _⟩ := held_cons hh
    walk_at "de"
    refine w_ixL hp2 (atI_last _ _) ?_
    refine ⟨_, _, rfl, ha2, lv_no (by decide +kernel) (by decide +kernel) (by decide +kernel) (by decide +kernel), ?_⟩
    walk_at "de"
    refine ⟨a2, l2, v, rfl, ⟨ha2, hl2⟩, fun hb => ?_, fun hb l' G' nl f1 h1 => ?_⟩
    · exact ⟨B', held_B hh, qx (if_pos hb)⟩
    · walk_at "de"
      exact Less.of (q _ G' (if_neg hb) (chg G' l' _ (f1.mono fun x hx => by rw [List.mem_singleton.mp hx]; exact List.mem_cons_self ..) h1 (.inr nl) (Nat.zero_le _)))
  by_cases b6 : z = "number"
  · subst b6
    walk_at "de"
    obtain ⟨a2, l2, L2, hp2, hL2, ⟨ha2, hl2⟩, hk2, _, _, _, chg, _⟩ := held_cons hh
    walk_at "de"
    refine w_ixL hp2 (atI_last _ _) ?_
    walk_at "de"
    refine w_app hl2 (by rw [eKs_len]; exact midlt (by omega)) ?_
    refine abs_upd hl2 fun G2 u2 h2 => ?_
    have al : a2 ≠ l2 := fun e => by rw [e, hl2] at ha2; cases ha2
    refine Less.of (q _ G2 (sw_n v r) (chg G2 l2 { v with ks := v.ks ++ [Kd.num] } ((Frm.upd u2).mono fun x hx => List.mem_cons_of_mem _ hx) ⟨(u2 a2 al).trans ha2, ?_⟩ (.inl rfl) ?_))
    · rw [h2]; show _ = some (DO.lst (eKs (v.ks ++ [Kd.num]))); rw [eKs_app]; rfl
    · show (v.ks ++ [Kd.num]).length ≤ n + 1; rw [List.length_append, List.length_singleton]; omega
  have nf : z ∉ fixW := fun m => by
    simp only [List.mem_cons, List.not_mem_nil, or_false] at m
    rcases m with m | m | m | m | m | m
    · exact b1 m
    · exact b2 m
    · exact b3 m
    · exact b4 m
    · exact b5 m
    · exact b6 m
  rw [stepW_free nf] at q qx
  walk_at "de"
  refine w_if0 (by rw [show List.lookup _ _ = none from look2_none b1 b2]; rfl) ?_
  walk_at "de"
  refine w_if0 (by rw [show List.lookup _ _ = none from look2_none b3 b4]; rfl) ?_
  walk_at "de"
  refine w_if0 (decide_eq_false b5) ?_
  walk_at "de"
  refine w_if0 (decide_eq_false b6) ?_
  walk_at "de"
  refine ⟨z, rfl, hz1, ?_⟩
  walk_at "de"
  cases hs : smB z with
  | true =>
    rw [if_pos hs] at q qx
    walk_at "de"
    obtain ⟨a2, l2, L2, hp2, hL2, ⟨ha2, hl2⟩, hk2, _, _, _, chg, _⟩ := held_cons hh
    walk_at "de"
    refine w_ixL hp2 (atI_last _ _) ?_
    walk_at "de"
    refine w_app hl2 (by rw [eKs_len]; exact midlt (by omega)) ?_
    refine abs_upd hl2 fun G2 u2 h2 => ?_
    have al : a2 ≠ l2 := fun e => by rw [e, hl2] at ha2; cases ha2
    refine Less.of (q _ G2 rfl (chg G2 l2 { v with ks := v.ks ++ [Kd.opn z] } ((Frm.upd u2).mono fun x hx => List.mem_cons_of_mem _ hx) ⟨(u2 a2 al).trans ha2, ?_⟩ (.inl rfl) ?_))
    · rw [h2]; show _ = some (DO.lst (eKs (v.ks ++ [Kd.opn z]))); rw [eKs_app]; rfl
    · show (v.ks ++ [Kd.opn z]).length ≤ n + 1; rw [List.length_append, List.length_singleton]; omega
  | false =>
    rw [if_neg (by rw [hs]; decide)] at q qx
    walk_at "de"
    refine ⟨z, rfl, hz1, ?_⟩
    walk_at "de"
    cases hg : gtB z with
    | true =>
      rw [if_pos hg] at q qx
      walk_at "de"
      obtain ⟨a2, l2, L2, hp2, hL2, ⟨ha2, hl2⟩, hk2, _, _, _, chg, _⟩ := held_cons hh
      walk_at "de"
      refine w_ixL hp2 (atI_last _ _) ?_
      refine ⟨_, _, rfl, ha2, lv_no (by decide +kernel) (by decide +kernel) (by decide +kernel) (by decide +kernel), ?_⟩
      walk_at "de"
      refine ⟨a2, l2, v, z, rfl, ⟨ha2, hl2⟩, fun hb => ?_, fun hb G' f1 h1 => ?_⟩
      · exact ⟨B', held_B hh, qx (if_pos hb)⟩
      · walk_at "de"
        exact Less.of (q _ G' (if_neg hb) (chg G' l2 _ (f1.mono fun x hx => by rw [List.mem_singleton.mp hx]; exact List.mem_cons_self ..) h1 (.inl rfl) (by show v.ks.length ≤ n + 1; omega)))
    | false =>
      rw [if_neg (by rw [hg]; decide)] at q qx
      walk_at "de"
      exact ⟨B', held_B hh, qx rfl⟩
abbrev N_p_marks_of_text : List Str := ["text"]
abbrev A_p_marks_of_text : List Str := ["text"]
theorem sc_p_marks_of_text : FnScope N_p_marks_of_text A_p_marks_of_text (defScope s_p_marks_of_text) := ⟨rfl, rfl, rfl, by decide +kernel, rfl, by decide +kernel, by decide +kernel⟩
theorem h_p_marks_of_text (a : At K mg "marks_of_text" s_p_marks_of_text A_p_marks_of_text) (B : BI mg) {e_NoText : Addr} (x_NoText : ErrC K mg "NoText" e_NoText) : HasX P w K mg base 1 "marks_of_text" A_p_marks_of_text (SP_mt e_NoText) := by
  refine atx_mk a sc_p_marks_of_text fun f cdv A outer s H E hr ds G R RX hl hx h => ?_
  refine ⟨_, (dss_cons (ds_if (dt_not (dt_e (de_callB cd_isi B.isi rfl (by decide +kernel) (da_cons (dv 0) (da_cons (de_ty (n := "str") B.str rfl (by decide +kernel)) da_nil))))) (dss_one (ds_raiseC x_NoText rfl hx (takes_of rfl rfl rfl rfl) rfl)) dss_nil)
    (dss_one (ds_ret (de_if (dt_cmp (od_eq hr.units) (dv 0) de_str (nomark _)) (de_lst da_nil) (de_bm PySem.F.plainAttrs_str PySem.F.slot_str_split PySem.F.type_str_split md_split (dv 0) (da_cons de_str da_nil)))))), ?_⟩
  obtain ⟨d, rfl, ⟨z, rfl, lz, q⟩ | ⟨⟨ty, ht, hk⟩, q⟩⟩ := h
  · walk_at "de"
    unfold wdsOf at q
    by_cases e : z = ""
    · rw [if_pos e] at q
      refine w_it (decide_eq_true e) ?_
      walk_at "de"
      intro p np
      refine abs_new np fun G1 s1 h1 => ?_
      exact q.less np s1 h1
    rw [if_neg e] at q
    refine w_if0 (decide_eq_false e) ?_
    walk_at "de"
    refine w_split rfl (mid (Nat.le_trans (Nat.add_le_add_right lz 2) (by decide))) ?_
    intro p np
    refine abs_new np fun G1 s1 h1 => ?_
    exact q.less np s1 h1
  · walk_at "de"
    refine w_isi (by decide) ht hk ?_
    walk_at "de"
    exact LessX.of q
abbrev N_p_read_kind : List Str := ["text", "levels", "mark"]
abbrev A_p_read_kind : List Str := ["text"]
theorem sc_p_read_kind : FnScope N_p_read_kind A_p_read_kind (defScope s_p_read_kind) := ⟨rfl, rfl, rfl, by decide +kernel, rfl, by decide +kernel, by decide +kernel⟩
theorem h_p_read_kind (a : At K mg "read_kind" s_p_read_kind A_p_read_kind) {C e_NoText : Addr} (B : BI mg) (c_p_marks_of_text : HasX P w K mg base 1 "marks_of_text" A_p_marks_of_text (SP_mt e_NoText)) (c_p_read_mark : HasX P w K mg base 5 "read_mark" A_p_read_mark (SP_rm C e_NoText)) (x_NoText : ErrC K mg "NoText" e_NoText) (i_Level : HasI P w K mg base 1 C "Level" A_p_Level_init (SP_li C)) (m_row_kind : HasMX P w K mg base 2 C "row_kind" A_p_Level_row_kind (SP_lr C e_NoText)) : HasX P w K mg base 6 "read_kind" A_p_read_kind (SP_rk e_NoText) := by
  refine atx_mk a sc_p_read_kind fun f cdv A outer s H E hr ds G R RX hl hx h => ?_
  refine ⟨_, (dss_cons (ds_set (i := 1) sc_p_read_kind.nd rfl (.inl rfl) (de_lst (da_cons (de_make i_Level (hr.mono (by omega)) rfl (da_cons de_str da_nil)) da_nil)))
    (dss_cons (ds_for (passes_of rfl) rfl (di_list (de_callX c_p_marks_of_text hx (takes_of rfl rfl rfl rfl) (hr.mono (by omega)) rfl (da_cons (dv 0) da_nil))) (dg_name (i := 2) sc_p_read_kind.nd rfl (.inl rfl)) (dss_one (ds_expr (de_callX c_p_read_mark hx (takes_of rfl rfl rfl rfl) (hr.mono (by omega)) rfl (da_cons (dv 2) (da_cons (dv 1) da_nil))))))
    (dss_cons (ds_if (dt_cmp (od_ne hr.units) (de_callB cd_len B.len rfl (by decide +kernel) (da_cons (dv 1) da_nil)) de_int (nomark _)) (dss_one (ds_raiseC x_NoText rfl hx (takes_of rfl rfl rfl rfl) rfl)) dss_nil)
    (dss_one (ds_ret (de_meth0X m_row_kind hx (takes_of rfl rfl rfl rfl) (hr.mono (by omega)) (de_ix (dv 1) de_int))))))), ?_⟩
  obtain ⟨d, rfl, h⟩ := h
  walk_at "de"
  intro a0 na
  refine ⟨rfl, a0, _, rfl, dupd_same, fun l0 G1 nl f1 h1 => ⟨rfl, ?_⟩⟩
  walk_at "de"
  intro p np
  refine abs_new np fun G2 s2 h2 => ?_
  walk_at "de"
  have la : l0 ≠ a0 := fun e => by rw [e, dupd_same] at nl; cases nl
  have nl' : G l0 = none := by rw [dupd_ne la] at nl; exact nl
  have s01 : Sub G G1 := fun x o e => by
    have xa : x ≠ a0 := fun q => by rw [q, na] at e; cases e
    exact f1 x o (fun z => xa (List.mem_singleton.mp z)) (by rw [dupd_ne xa]; exact e)
  rcases h.symm with ⟨⟨ty, ht, hk⟩, q⟩ | ⟨z, rfl, lz, sh, q1, q2⟩
  · exact ⟨d, rfl, .inr ⟨⟨ty, ty_sub (s01.trans s2) ht, hk⟩, G, s01.trans s2, q⟩⟩
  refine ⟨_, rfl, .inl ⟨z, rfl, lz, fun m G3 nm s3 h3 => ?_⟩⟩
  walk_at "de"
  obtain ⟨wl, wn⟩ := words_len z
  have lz' : z.length ≤ 200000 := lz
  generalize wdsOf z = W at sh q1 q2 h3 wl wn
  have n0 : ∀ {x}, G1 x = none → G x = none := fun {x} hx => by
    cases e : G x with
    | none => rfl
    | some o => rw [s01 _ _ e] at hx; cases hx
  have hm0 : ∀ x o, G2 x = some o → x ≠ m := fun x o e q => by rw [q, nm] at e; cases e
  have held : Held C (dupd G m (.lst (W.map .str))) G3 p [lv0] 0 := by
    refine ⟨[(a0, l0)], fun x o e => ?_, ?_, s3 _ _ h2, .cons ⟨s3 _ _ (s2 _ _ h1.1), s3 _ _ (s2 _ _ h1.2)⟩ ?_ ?_ ?_ (fun b hb => nomatch hb) .nil, Nat.le_refl _, fun v hv => by rw [List.mem_singleton.mp hv]; exact Nat.le_refl _⟩
    · by_cases xm : x = m
      · rw [xm, dupd_same] at e; rw [xm, ← e]; exact h3
      · rw [dupd_ne xm] at e; exact s3 _ _ (s2 _ _ (s01 _ _ e))
    · rw [dupd_ne (hm0 _ _ h2)]; exact n0 np
    · exact fun e => by rw [← e, h1.2] at np; cases np
    · rw [dupd_ne (hm0 _ _ (s2 _ _ h1.1))]; exact na
    · rw [dupd_ne (hm0 _ _ (s2 _ _ h1.2))]; exact nl'
  have nm1 : G1 m = none := by
    cases e : G1 m with
    | none => rfl
    | some o => rw [s2 _ _ e] at nm; cases nm
  have sB : Sub G (dupd G m (.lst (W.map .str))) := (Sub.refl G).new (n0 nm1)
  refine for_by (fun i δ G' => ∃ (x2 : Option DV) (st : List Lv), δ = [some (.str z), some (.ref p), x2] ∧ Held C (dupd G m (.lst (W.map .str))) G' p st i ∧ runLv W [lv0] = runLv (W.drop i) st ∧ st ≠ []) (fun i δ G' ⟨_, _, _, ⟨_, sb, _⟩, _⟩ => .inl (sb _ _ dupd_same)) ⟨_, _, rfl, held, rfl, List.cons_ne_nil _ _⟩ ?_ ?_
  · rintro i d δ G' hd ⟨x2, st, rfl, hh, hrun, ne⟩
    rw [List.getElem?_map] at hd
    obtain ⟨w1, hw2, rfl⟩ := Option.map_eq_some_iff.mp hd
    obtain ⟨hi, he⟩ := List.getElem?_eq_some_iff.mp hw2
    rw [List.drop_eq_getElem_cons hi, he] at hrun
    have hrun : runLv W [lv0] = (stepW w1 st).bind (runLv (W.drop (i + 1))) := hrun
    match st, ne with
    | v :: r, _ =>
    walk_at "de"
    refine ⟨_, p, v, r, w1, i, rfl, hh, by omega, sh w1 (List.mem_of_getElem? hw2), fun st1 G'' e1 h' => ?_, fun e1 => ?_⟩
    · walk_at "de"
      rw [e1] at hrun
      refine ⟨_, st1, rfl, h', hrun, ?_⟩
      obtain ⟨as, _, _, _, hs, _⟩ := hh
      exact stepW_ne e1
    · refine ⟨G, sB, q2 ?_⟩
      unfold toldK
      rw [hrun, e1]; rfl
  · rintro δ G' ⟨x2, st, rfl, hh, hrun, ne⟩
    rw [List.length_map, List.drop_length] at hrun
    have hrun : runLv W [lv0] = some st := hrun
    have sG := sB.trans (held_B hh)
    have et : toldK W = endW st := by unfold toldK; rw [hrun]; rfl
    rw [et] at q1 q2
    match st, ne with
    | v :: r, _ =>
    obtain ⟨a2, l2, L2, hp2, hL2, hv, _, _, _, _, _, _⟩ := held_cons hh
    walk_at "de"
    match r, hL2, q1, q2 with
    | [], hL2, q1, q2 =>
      have eL : L2 = [] := List.length_eq_zero_iff.mp hL2
      subst eL
      refine w_if0 rfl ?_
      walk_at "de"
      refine w_ixL hp2 (atI_nat (j := 0) rfl) ?_
      refine ⟨_, _, rfl, hv.1, lv_no (by decide +kernel) (by decide +kernel) (by decide +kernel) (by decide +kernel), ?_⟩
      walk_at "de"
      refine ⟨a2, l2, v, rfl, hv, fun t et => ?_, fun et => ?_⟩
      · exact ⟨G, sG, q1 t (.mk v.rest v.ks) (by show v.take.map _ = _; rw [et]; rfl)⟩
      · exact ⟨G, sG, q2 (by show v.take.map _ = _; rw [et]; rfl)⟩
    | u :: r, hL2, q1, q2 =>
      refine w_it (by show (!decide (_ = _)) = true; rw [decide_eq_false (by rw [List.length_append, List.length_singleton, hL2, List.length_cons]; omega)]; rfl) ?_
      walk_at "de"
      exact ⟨G, sG, q2 rfl⟩
end
end K18
/-! filling kinds by a table: the tasks -/
namespace DD
open PySem PySem.W L2 SX Cm
/-- all that is known but at p -/
def SubX (G : DG) (p : Addr) (G' : DG) : Prop := ∀ a o, a ≠ p → G a = some o → G' a = some o
theorem subx_get {G G' : DG} {a p : Addr} {o : DO} (u : SubX G p G') (h : G a = some o) (n : a ≠ p) : G' a = some o := u _ _ n h
theorem sub_ux {B G G' : DG} {p : Addr} (u : SubX G p G') (s : Sub B G) (n : B p = none) : Sub B G' := fun a o e => u a o (fun z => by rw [z, n] at e; cases e) (s a o e)
theorem SubX.refl (G : DG) (p : Addr) : SubX G p G := fun _ _ _ h => h
theorem subx_sub {B G G' : DG} {p : Addr} (s : Sub G G') (h : SubX B p G) : SubX B p G' := fun a o n e => s _ _ (h a o n e)
theorem subx_upd {B G G' : DG} {p : Addr} (u : Upd G p G') (h : SubX B p G) : SubX B p G' := fun a o n e => (u a n).trans (h a o n e)
theorem subx_tr {B G G' : DG} {p : Addr} (u : SubX G p G') (h : SubX B p G) : SubX B p G' := fun a o n e => u a o n (h a o n e)
theorem dk_subx {G G' : DG} {d p : Addr} (u : SubX G p G') (h : HasDk G d) (e : ∃ ds, G p = some (.lst ds)) : HasDk G' d := by
  obtain ⟨ds, e⟩ := e
  have n := h.ne e
  obtain ⟨c, h⟩ := h
  exact ⟨c, u d _ n h⟩
structure TabOK (kvs : List (Key × DV)) (P R : Str → Prop) (f : Str → Kd) (g : Str → Sk) : Prop where
  k : ∀ z, P z → (valD kvs (keyD z)).getD (eK (.opn z)) = eK (f z)
  s : ∀ r, R r → (valD kvs (keyD r)).getD (.tup [.str r, .tup []]) = eS (g r)
  w : ∀ r, R r → (g r).ks.length ≤ 1000
inductive FT where
  | kind (k : Kd)
  | stack (s : Sk)
  | endl
  | endr
  | ends (r : Str) (n : Nat)
def eF : FT → DV
  | .kind k => .tup [.str "kind", eK k]
  | .stack s => .tup [.str "stack", eS s]
  | .endl => .tup [.str "end list", .non]
  | .endr => .tup [.str "end row", .non]
  | .ends r n => .tup [.str "end stack", .tup [.str r, .int (n : Int)]]
def wtF : FT → Nat
  | .kind k => 2 * szK k
  | .stack s => 2 * szS s
  | _ => 1
def wtFs : List FT → Nat
  | [] => 0
  | t :: r => wtF t + wtFs r
theorem wtFs_app : ∀ a b, wtFs (a ++ b) = wtFs a + wtFs b
  | [], b => (Nat.zero_add _).symm
  | t :: r, b => by show wtF t + wtFs (r ++ b) = wtF t + wtFs r + wtFs b; rw [wtFs_app r b]; omega
theorem wtF_pos (t : FT) : 1 ≤ wtF t := by
  cases t with
  | kind k => have := szK_pos k; show 1 ≤ 2 * szK k; omega
  | stack k => have := szS_pos k; show 1 ≤ 2 * szS k; omega
  | _ => exact Nat.le_refl 1
theorem wtFs_len : ∀ ts, ts.length ≤ wtFs ts
  | [] => Nat.le_refl 0
  | t :: r => by have := wtF_pos t; have := wtFs_len r; show r.length + 1 ≤ wtF t + wtFs r; omega
theorem wtF_kinds : ∀ ks : List Kd, wtFs (ks.map .kind) = 2 * szKs ks
  | [] => rfl
  | k :: r => by show 2 * szK k + wtFs (r.map .kind) = 2 * (szK k + szKs r); rw [wtF_kinds r]; omega
def stF (ts : List FT) : List DV := (ts.map eF).reverse
theorem stF_cons (t : FT) (r : List FT) : stF (t :: r) = stF r ++ [eF t] := by unfold stF; rw [List.map_cons, List.reverse_cons]
theorem stF_app (a b : List FT) : stF b ++ (a.map eF).reverse = stF (a ++ b) := by unfold stF; rw [List.map_append, List.reverse_append]
theorem stF_len (ts : List FT) : (stF ts).length = ts.length := by unfold stF; rw [List.length_reverse, List.length_map]
section
variable {P R : Str → Prop} {f : Str → Kd} {g : Str → Sk}
/-- what the tasks make of what is made so far -/
inductive RunF (P R : Str → Prop) (f : Str → Kd) (g : Str → Sk) : List FT → List DV → List DV → Prop
  | nil {m : List DV} : RunF P R f g [] m m
  | kind {k : Kd} {r : List FT} {m z : List DV} : NK P R k → RunF P R f g r (m ++ [eK (fK f g k)]) z → RunF P R f g (.kind k :: r) m z
  | stack {s : Sk} {r : List FT} {m z : List DV} : NS P R s → RunF P R f g r (m ++ [eS (fS f g s)]) z → RunF P R f g (.stack s :: r) m z
  | endl {r : List FT} {m z : List DV} {x : DV} : RunF P R f g r (m ++ [.tup [.str "list", x]]) z → RunF P R f g (.endl :: r) (m ++ [x]) z
  | endr {r : List FT} {m z : List DV} {x y : DV} : RunF P R f g r (m ++ [.tup [.str "row", x, y]]) z → RunF P R f g (.endr :: r) ((m ++ [x]) ++ [y]) z
  | ends {r : List FT} {m z ks : List DV} {q : Str} {n : Nat} : R q → ks.length = n → RunF P R f g r (m ++ [.tup [.str (g q).rest, .tup (eKs (g q).ks ++ ks)]]) z → RunF P R f g (.ends q n :: r) (m ++ ks) z
theorem RunF.kinds {T : List FT} {z : List DV} : ∀ {ks : List Kd} {m : List DV}, NKs P R ks → RunF P R f g T (m ++ eKs (fKs f g ks)) z → RunF P R f g (ks.map .kind ++ T) m z
  | [], m, _, h => by
    have h' : RunF P R f g T (m ++ []) z := h
    rw [List.append_nil] at h'; exact h'
  | k :: r, m, n, h => by
    refine .kind n.1 (RunF.kinds n.2 ?_)
    rw [List.append_assoc]; exact h
theorem RunF.lst {k : Kd} {r : List FT} {m z : List DV} (h : RunF P R f g (.kind (.lst k) :: r) m z) : RunF P R f g (.kind k :: .endl :: r) m z := by
  cases h with
  | kind n h => exact .kind n (.endl h)
theorem RunF.row {a b : Sk} {r : List FT} {m z : List DV} (h : RunF P R f g (.kind (.row a b) :: r) m z) : RunF P R f g (.stack a :: .stack b :: .endr :: r) m z := by
  cases h with
  | kind n h => exact .stack n.1 (.stack n.2 (.endr h))
theorem RunF.stk {q : Str} {ks : List Kd} {r : List FT} {m z : List DV} (h : RunF P R f g (.stack (.mk q ks) :: r) m z) : RunF P R f g (ks.map .kind ++ .ends q ks.length :: r) m z := by
  cases h with
  | stack n h =>
    refine RunF.kinds n.2 (.ends n.1 (by rw [eKs_len, fKs_len]) ?_)
    have e : eS (fS f g (.mk q ks)) = .tup [.str (g q).rest, .tup (eKs (g q).ks ++ eKs (fKs f g ks))] := by
      show DV.tup [.str (g q).rest, .tup (eKs ((g q).ks ++ fKs f g ks))] = _
      rw [eKs_app]
    rw [← e]; exact h
end
def leafK : Kd → Bool
  | .num => true
  | .opn _ => true
  | _ => false
def pcF : Kd → List FT
  | .lst k => [.kind k, .endl]
  | .row a b => [.stack a, .stack b, .endr]
  | _ => []
def resF (f : Str → Kd) (g : Str → Sk) : FT → DV
  | .kind k => eK (fK f g k)
  | .stack s => eS (fS f g s)
  | _ => .non
end DD
/-! the open names of a kind, each once, and the told form -/
namespace DD
open PySem PySem.W L2 SX Cm
/-- each once, those that P lets by -/
def ddp (P : Str → Bool) (acc ws : List Str) : List Str := ws.foldl (fun acc w => if P w && !decide (w ∈ acc) then acc ++ [w] else acc) acc
theorem ddp_cons (P : Str → Bool) (acc : List Str) (w : Str) (r : List Str) : ddp P acc (w :: r) = ddp P (if P w && !decide (w ∈ acc) then acc ++ [w] else acc) r := rfl
theorem ddp_nodup (P : Str → Bool) : ∀ (ws acc : List Str), acc.Nodup → (ddp P acc ws).Nodup
  | [], acc, h => h
  | w :: r, acc, h => by
    rw [ddp_cons]
    refine ddp_nodup P r _ ?_
    split
    · rename_i hc
      rw [Bool.and_eq_true] at hc
      have : w ∉ acc := by simpa using hc.2
      rw [List.nodup_append]
      refine ⟨h, List.nodup_cons.mpr ⟨(fun h => nomatch h), List.nodup_nil⟩, fun a ha b hb => ?_⟩
      rw [List.mem_singleton.mp hb]
      intro z; rw [z] at ha; exact this ha
    · exact h
theorem ddp_sub (P : Str → Bool) : ∀ (ws acc : List Str) (z : Str), z ∈ acc → z ∈ ddp P acc ws
  | [], acc, z, h => h
  | w :: r, acc, z, h => by
    rw [ddp_cons]
    refine ddp_sub P r _ z ?_
    split
    · exact List.mem_append_left _ h
    · exact h
theorem ddp_mem (P : Str → Bool) : ∀ (ws acc : List Str) (z : Str), z ∈ ws → P z = true → z ∈ ddp P acc ws
  | w :: r, acc, z, h, hp => by
    rw [ddp_cons]
    rcases List.mem_cons.mp h with rfl | h
    · refine ddp_sub P r _ z ?_
      by_cases hz : z ∈ acc
      · rw [hp, decide_eq_true hz]; exact hz
      · rw [hp, decide_eq_false hz]; exact List.mem_append_right _ (List.mem_singleton.mpr rfl)
    · exact ddp_mem P r _ z h hp
theorem ddp_of (P : Str → Bool) : ∀ (ws acc : List Str) (z : Str), z ∈ ddp P acc ws → z ∈ acc ∨ (z ∈ ws ∧ P z = true)
  | [], acc, z, h => .inl h
  | w :: r, acc, z, h => by
    rw [ddp_cons] at h
    rcases ddp_of P r _ z h with h | ⟨h, hp⟩
    · split at h
      · rename_i hc
        rw [Bool.and_eq_true] at hc
        rcases List.mem_append.mp h with h | h
        · exact .inl h
        · rw [List.mem_singleton.mp h]
          exact .inr ⟨List.mem_cons_self .., hc.1⟩
      · exact .inl h
    · exact .inr ⟨List.mem_cons_of_mem _ h, hp⟩
theorem ddp_len (P : Str → Bool) : ∀ (ws acc : List Str), (ddp P acc ws).length ≤ acc.length + ws.length
  | [], acc => Nat.le_refl _
  | w :: r, acc => by
    rw [ddp_cons]
    have := ddp_len P r (if P w && !decide (w ∈ acc) then acc ++ [w] else acc)
    have l : (if P w && !decide (w ∈ acc) then acc ++ [w] else acc).length ≤ acc.length + 1 := by
      split
      · rw [List.length_append]; exact Nat.le_refl _
      · omega
    rw [List.length_cons]; omega
def isOpn (z : Str) : Bool := smB z || gtB z
def opens (p : Sk × Sk) : List Str := ddp isOpn [] (mkR p)
theorem sm_gt {z : Str} (h : smB z = true) : gtB z = false := by
  unfold smB gtB at *
  cases e : TL.tl z with
  | nil => rfl
  | cons c r =>
    rw [e] at h
    have h' : (decide (c ∈ azs) && (decide (r = []) || (figB r && !decide (r = [48])))) = true := h
    rw [Bool.and_eq_true] at h'
    have hc : c ∈ azs := of_decide_eq_true h'.1
    have : c ∉ AZs := by
      simp only [azs, List.mem_cons, List.not_mem_nil, or_false] at hc
      simp only [AZs, List.mem_cons, List.not_mem_nil, or_false]
      omega
    show (decide (c ∈ AZs) && _) = false
    rw [decide_eq_false this]; rfl
theorem gtB_nil : gtB "" = false := by decide +kernel
theorem smB_nil : smB "" = false := by decide +kernel
/-! names that are names -/
def vP (z : Str) : Prop := smB z = true ∧ (TL.tl z).length ≤ 1000
def vR (r : Str) : Prop := r = "" ∨ (gtB r = true ∧ (TL.tl r).length ≤ 1000)
mutual
theorem NK_mem {ws : List Str} : ∀ k, NK vP vR k → (∀ z ∈ mkK k, z ∈ ws) → NK (fun z => smB z = true ∧ z ∈ ws) (fun r => r = "" ∨ (gtB r = true ∧ r ∈ ws)) k
  | .num, _, _ => trivial
  | .opn z, h, g => ⟨h.1, g z (List.mem_singleton.mpr rfl)⟩
  | .lst k, h, g => NK_mem k h fun z hz => g z (List.mem_cons_of_mem _ (List.mem_append_left _ hz))
  | .row a b, h, g => ⟨NS_mem a h.1 fun z hz => g z (List.mem_cons_of_mem _ (List.mem_append_left _ hz)), NS_mem b h.2 fun z hz => g z (List.mem_cons_of_mem _ (List.mem_append_right _ (List.mem_cons_of_mem _ (List.mem_append_left _ hz))))⟩
theorem NS_mem {ws : List Str} : ∀ s, NS vP vR s → (∀ z ∈ mkS s, z ∈ ws) → NS (fun z => smB z = true ∧ z ∈ ws) (fun r => r = "" ∨ (gtB r = true ∧ r ∈ ws)) s
  | .mk r ks, h, g => by
    refine ⟨?_, NKs_mem ks h.2 fun z hz => g z (List.mem_append_right _ hz)⟩
    rcases h.1 with e | ⟨e, _⟩
    · exact .inl e
    · by_cases h0 : r = ""
      · exact .inl h0
      · exact .inr ⟨e, g r (List.mem_append_left _ (by rw [if_neg h0]; exact List.mem_singleton.mpr rfl))⟩
theorem NKs_mem {ws : List Str} : ∀ ks, NKs vP vR ks → (∀ z ∈ mkKs ks, z ∈ ws) → NKs (fun z => smB z = true ∧ z ∈ ws) (fun r => r = "" ∨ (gtB r = true ∧ r ∈ ws)) ks
  | [], _, _ => trivial
  | k :: r, h, g => ⟨NK_mem k h.1 fun z hz => g z (List.mem_append_left _ hz), NKs_mem r h.2 fun z hz => g z (List.mem_append_right _ hz)⟩
end
mutual
theorem mkK_short : ∀ k, NK vP vR k → ∀ z ∈ mkK k, (TL.tl z).length ≤ 1000
  | .num, _, z, h => by rw [List.mem_singleton.mp h]; decide +kernel
  | .opn y, g, z, h => by rw [List.mem_singleton.mp h]; exact g.2
  | .lst k, g, z, h => by
    rcases List.mem_cons.mp h with h | h
    · rw [h]; decide +kernel
    · rcases List.mem_append.mp h with h | h
      · exact mkK_short k g z h
      · rw [List.mem_singleton.mp h]; decide +kernel
  | .row a b, g, z, h => by
    rcases List.mem_cons.mp h with h | h
    · rw [h]; decide +kernel
    · rcases List.mem_append.mp h with h | h
      · exact mkS_short a g.1 z h
      · rcases List.mem_cons.mp h with h | h
        · rw [h]; decide +kernel
        · rcases List.mem_append.mp h with h | h
          · exact mkS_short b g.2 z h
          · rw [List.mem_singleton.mp h]; decide +kernel
theorem mkS_short : ∀ s, NS vP vR s → ∀ z ∈ mkS s, (TL.tl z).length ≤ 1000
  | .mk r ks, g, z, h => by
    rcases List.mem_append.mp h with h | h
    · split at h
      · exact nomatch h
      · rw [List.mem_singleton.mp h]
        rcases g.1 with e | ⟨_, e⟩
        · rw [e]; decide +kernel
        · exact e
    · exact mkKs_short ks g.2 z h
theorem mkKs_short : ∀ ks, NKs vP vR ks → ∀ z ∈ mkKs ks, (TL.tl z).length ≤ 1000
  | [], _, z, h => nomatch h
  | k :: r, g, z, h => by
    rcases List.mem_append.mp h with h | h
    · exact mkK_short k g.1 z h
    · exact mkKs_short r g.2 z h
end
theorem mkR_short {p : Sk × Sk} (h1 : NS vP vR p.1) (h2 : NS vP vR p.2) : ∀ z ∈ mkR p, (TL.tl z).length ≤ 1000 := fun z h => by
  rcases List.mem_append.mp h with h | h
  · exact mkS_short _ h1 z h
  · rcases List.mem_cons.mp h with h | h
    · rw [h]; decide +kernel
    · exact mkS_short _ h2 z h
/-! tables -/
def tabL (xs : List (Str × DV)) : List (Key × DV) := xs.map fun x => (keyD x.1, x.2)
theorem keyD_inj {a b : Str} (h : keyD a = keyD b) : a = b := Sum.inr.inj h
theorem any_tab (z : Str) : ∀ xs : List (Str × DV), ((tabL xs).any fun kv => decide (kv.1 = keyD z)) = decide (z ∈ xs.map (·.1))
  | [] => rfl
  | x :: r => by
    show (decide (keyD x.1 = keyD z) || (tabL r).any fun kv => decide (kv.1 = keyD z)) = _
    rw [any_tab z r, List.map_cons]
    by_cases h : x.1 = z
    · rw [h, decide_eq_true rfl, Bool.true_or, decide_eq_true (List.mem_cons_self ..)]
    · rw [decide_eq_false (fun e => h (keyD_inj e)), Bool.false_or]
      exact decq ⟨fun g => List.mem_cons_of_mem _ g, fun g => by
        rcases List.mem_cons.mp g with g | g
        · exact absurd g.symm h
        · exact g⟩
theorem put_new {xs : List (Str × DV)} {z : Str} {d : DV} (h : z ∉ xs.map (·.1)) : putD (tabL xs) (keyD z) d = tabL (xs ++ [(z, d)]) := by
  unfold putD
  rw [any_tab, decide_eq_false h]
  unfold tabL
  rw [List.map_append]; rfl
theorem fold_put : ∀ (ys xs : List (Str × DV)), ((xs ++ ys).map (·.1)).Nodup → ys.foldl (fun kvs x => putD kvs (keyD x.1) x.2) (tabL xs) = tabL (xs ++ ys)
  | [], xs, _ => by rw [List.append_nil]; rfl
  | y :: r, xs, h => by
    have hn : y.1 ∉ xs.map (·.1) := by
      rw [List.map_append, List.nodup_append] at h
      intro hm
      exact h.2.2 _ hm _ (List.mem_cons_self ..) rfl
    rw [List.foldl_cons, put_new hn, fold_put r (xs ++ [y]) (by rw [List.append_assoc]; exact h), List.append_assoc]; rfl
theorem val_tab {xs : List (Str × DV)} (hn : (xs.map (·.1)).Nodup) {z : Str} {d : DV} (h : (z, d) ∈ xs) : valD (tabL xs) (keyD z) = some d := by
  induction xs with
  | nil => exact nomatch h
  | cons x r ih =>
    unfold valD tabL
    rw [List.map_cons, List.find?_cons]
    by_cases e : x.1 = z
    · have e' : decide ((keyD x.1, x.2).1 = keyD z) = true := decide_eq_true (by rw [e])
      rw [e']
      rcases List.mem_cons.mp h with h | h
      · rw [← h]; rfl
      · rw [List.map_cons, List.nodup_cons] at hn
        exact absurd (List.mem_map.mpr ⟨_, h, e.symm⟩) hn.1
    · have e' : decide ((keyD x.1, x.2).1 = keyD z) = false := decide_eq_false (fun g => e (keyD_inj g))
      rw [e']
      rcases List.mem_cons.mp h with h | h
      · exact absurd (by rw [← h]) e
      · rw [List.map_cons, List.nodup_cons] at hn
        exact ih hn.2 h
theorem val_none {xs : List (Str × DV)} {z : Str} (h : z ∉ xs.map (·.1)) : valD (tabL xs) (keyD z) = none := by
  induction xs with
  | nil => rfl
  | cons x r ih =>
    unfold valD tabL
    rw [List.map_cons, List.find?_cons]
    rw [List.map_cons] at h
    have e : x.1 ≠ z := fun e => h (by rw [e]; exact List.mem_cons_self ..)
    have e' : decide ((keyD x.1, x.2).1 = keyD z) = false := decide_eq_false (fun g => e (keyD_inj g))
    rw [e']
    exact ih fun g => h (List.mem_cons_of_mem _ g)
/-- the keys of a dict that is filled by texts -/
theorem put_keys (P : Str → Bool) (d : DV) : ∀ (ws : List Str) (acc : List Str), ((ws.filterMap fun w => if P w then some (w, d) else none).foldl (fun kvs x => putD kvs (keyD x.1) x.2) (tabL (acc.map fun z => (z, d)))) = tabL ((ddp P acc ws).map fun z => (z, d))
  | [], acc => rfl
  | w :: r, acc => by
    rw [ddp_cons]
    cases hp : P w with
    | false =>
      rw [List.filterMap_cons_none (by rw [hp]; rfl)]
      exact put_keys P d r acc
    | true =>
      rw [List.filterMap_cons_some (b := (w, d)) (by rw [hp]; rfl), List.foldl_cons]
      have em : (acc.map fun z => (z, d)).map (·.1) = acc := by rw [List.map_map]; exact List.map_id'' (fun _ => rfl) acc
      by_cases hw : w ∈ acc
      · rw [decide_eq_true hw]
        have : putD (tabL (acc.map fun z => (z, d))) (keyD w) d = tabL (acc.map fun z => (z, d)) := by
          unfold putD
          rw [any_tab, em, decide_eq_true hw]
          unfold tabL
          rw [if_pos rfl, List.map_map, List.map_map, List.map_map]
          refine List.map_congr_left fun z _ => ?_
          show (if keyD z = keyD w then (keyD z, d) else (keyD z, d)) = (keyD z, d)
          split <;> rfl
        show List.foldl _ (putD (tabL (acc.map fun z => (z, d))) (keyD w) d) _ = _
        rw [this]
        exact put_keys P d r acc
      · rw [decide_eq_false hw]
        show List.foldl _ (putD (tabL (acc.map fun z => (z, d))) (keyD w) d) _ = _
        rw [put_new (by rw [em]; exact hw)]
        have : (acc.map fun z => (z, d)) ++ [(w, d)] = (acc ++ [w]).map fun z => (z, d) := by rw [List.map_append]; rfl
        rw [this]
        exact put_keys P d r (acc ++ [w])
theorem tab_keys (xs : List (Str × DV)) : (tabL xs).map (·.1) = (xs.map (·.1)).map keyD := by unfold tabL; rw [List.map_map, List.map_map]; rfl
/-! the letters -/
def letd (ls : List Nat) (i : Nat) : Str := if i / 26 = 0 then S [ls.getD (i % 26) 0] else S [ls.getD (i % 26) 0] ++ (toString ((i / 26 : Nat) : Int) : Str)
def things (p : Sk × Sk) : List Str := (opens p).filter smB
def rests (p : Sk × Sk) : List Str := (opens p).filter gtB
def calledK (p : Sk × Sk) (z : Str) : Kd := .opn (letd azs ((things p).idxOf z))
def calledS (p : Sk × Sk) (r : Str) : Sk := .mk (if r ∈ rests p then letd AZs ((rests p).idxOf r) else r) []
def told (p : Sk × Sk) : Sk × Sk := (fS (calledK p) (calledS p) p.1, fS (calledK p) (calledS p) p.2)
def numb (f : Nat → DV) (zs : List Str) : List (Str × DV) := zs.zipIdx.map fun x => (x.1, f x.2)
theorem numb_keys (f : Nat → DV) (zs : List Str) : (numb f zs).map (·.1) = zs := by
  unfold numb
  rw [List.map_map]
  exact (List.map_congr_left fun _ _ => rfl).trans (List.zipIdx_map_fst 0 zs)
theorem numb_mem (f : Nat → DV) {zs : List Str} {z : Str} (h : z ∈ zs) : (z, f (zs.idxOf z)) ∈ numb f zs := by
  unfold numb
  refine List.mem_map.mpr ⟨(z, zs.idxOf z), ?_, rfl⟩
  rw [List.mem_zipIdx_iff_getElem?]
  have hi := List.idxOf_lt_length_of_mem h
  rw [List.getElem?_eq_getElem hi, List.getElem_idxOf hi]
theorem numb_snoc (f : Nat → DV) (zs : List Str) (z : Str) : numb f (zs ++ [z]) = numb f zs ++ [(z, f zs.length)] := by
  unfold numb
  rw [List.zipIdx_append, List.map_append]
  simp
def pR (i : Nat) : DV := .tup [.str (letd AZs i), .tup []]
def pT (i : Nat) : DV := .tup [.str "open", .str (letd azs i)]
theorem told_tab (p : Sk × Sk) : TabOK (tabL (numb pR (rests p) ++ numb pT (things p))) (fun z => smB z = true ∧ z ∈ opens p) (fun r => r = "" ∨ (gtB r = true ∧ r ∈ opens p)) (calledK p) (calledS p) := by
  have nd : (opens p).Nodup := ddp_nodup _ _ _ List.nodup_nil
  have keys : (numb pR (rests p) ++ numb pT (things p)).map (·.1) = rests p ++ things p := by rw [List.map_append, numb_keys, numb_keys]
  have nd2 : ((numb pR (rests p) ++ numb pT (things p)).map (·.1)).Nodup := by
    rw [keys, List.nodup_append]
    refine ⟨nd.filter _, nd.filter _, fun a ha b hb e => ?_⟩
    have h1 := (List.mem_filter.mp ha).2
    have h2 := sm_gt (List.mem_filter.mp hb).2
    rw [e] at h1
    rw [h1] at h2; cases h2
  refine ⟨fun z ⟨hs, hz⟩ => ?_, fun r hr => ?_, fun r _ => Nat.zero_le _⟩
  · rw [val_tab nd2 (List.mem_append_right _ (numb_mem pT (List.mem_filter.mpr ⟨hz, hs⟩)))]; rfl
  · by_cases hm : r ∈ rests p
    · rw [val_tab nd2 (List.mem_append_left _ (numb_mem pR hm))]
      show pR _ = eS (calledS p r)
      unfold calledS
      rw [if_pos hm]; rfl
    · have hr0 : r = "" := by
        rcases hr with h | ⟨h1, h2⟩
        · exact h
        · exact absurd (List.mem_filter.mpr ⟨h2, h1⟩) hm
      have ht : r ∉ things p := fun h => by
        have := (List.mem_filter.mp h).2
        rw [hr0, smB_nil] at this; cases this
      rw [val_none (by rw [keys]; intro h; rcases List.mem_append.mp h with h | h; exact hm h; exact ht h)]
      show DV.tup [.str r, .tup []] = eS (calledS p r)
      unfold calledS
      rw [if_neg hm]; rfl
theorem nmbd_mem {zs : List Str} {d : DV} (h : d ∈ nmbd (zs.map .str)) : ∃ (i : Nat) (z : Str), zs[i]? = some z ∧ d = .tup [.int (i : Int), .str z] := by
  obtain ⟨i, hi, e⟩ := List.mem_iff_getElem.mp h
  rw [nmbd_len, List.length_map] at hi
  refine ⟨i, zs[i], List.getElem?_eq_getElem hi, ?_⟩
  have e1 : (zs.map DV.str)[i]? = some (.str zs[i]) := by rw [List.getElem?_map, List.getElem?_eq_getElem hi]; rfl
  have e2 := nmbd_get e1
  have e3 := List.getElem?_eq_getElem (l := nmbd (zs.map DV.str)) (i := i) (by rw [nmbd_len, List.length_map]; exact hi)
  rw [e3] at e2
  rw [← e]
  exact Option.some.inj e2
theorem fm_numb (f : Nat → DV) (g : DV → Option (Str × DV)) (hg : ∀ (i : Nat) (z : Str), g (.tup [.int (i : Int), .str z]) = some (z, f i)) (zs : List Str) : (nmbd (zs.map .str)).filterMap g = numb f zs := by
  unfold nmbd numb
  rw [List.zipIdx_map, List.map_map, List.filterMap_map]
  have : (g ∘ (fun p : DV × Nat => DV.tup [.int (p.2 : Nat), p.1]) ∘ Prod.map DV.str id) = fun x : Str × Nat => some (x.1, f x.2) := by
    funext x
    exact hg x.2 x.1
  rw [this]
  exact List.filterMap_eq_map ▸ rfl
theorem numb_take (f : Nat → DV) {zs : List Str} {i : Nat} {z : Str} (h : zs[i]? = some z) : numb f (zs.take (i + 1)) = numb f (zs.take i) ++ [(z, f i)] := by
  have hi : i < zs.length := (List.getElem?_eq_some_iff.mp h).1
  have : zs.take (i + 1) = zs.take i ++ [z] := by rw [List.take_add_one, h]; rfl
  rw [this, numb_snoc, List.length_take, Nat.min_eq_left (by omega)]
end DD
namespace DD
open PySem PySem.W L2 SX Cm
def six : List Str := [("[" : Str), ("]" : Str), ("{" : Str), ("}" : Str), ("--" : Str), ("number" : Str)]
def notSp (w : Str) : Bool := !decide (w ∈ six)
theorem six_not : ∀ z ∈ six, isOpn z = false := by decide +kernel
theorem ddp_congr {P Q : Str → Bool} : ∀ (ws acc : List Str), (∀ z ∈ ws, P z = Q z) → ddp P acc ws = ddp Q acc ws
  | [], acc, _ => rfl
  | w :: r, acc, h => by
    rw [ddp_cons, ddp_cons, h w (List.mem_cons_self ..)]
    exact ddp_congr r _ fun z hz => h z (List.mem_cons_of_mem _ hz)
theorem vP_opn {z : Str} (h : vP z) : isOpn z = true := by unfold isOpn; rw [h.1]; rfl
mutual
theorem mkK_sp : ∀ k, NK vP vR k → ∀ z ∈ mkK k, z ∈ six ∨ isOpn z = true
  | .num, _, z, h => .inl (by rw [List.mem_singleton.mp h]; decide)
  | .opn y, g, z, h => .inr (by rw [List.mem_singleton.mp h]; exact vP_opn g)
  | .lst k, g, z, h => by
    rcases List.mem_cons.mp h with h | h
    · exact .inl (by rw [h]; decide)
    · rcases List.mem_append.mp h with h | h
      · exact mkK_sp k g z h
      · exact .inl (by rw [List.mem_singleton.mp h]; decide)
  | .row a b, g, z, h => by
    rcases List.mem_cons.mp h with h | h
    · exact .inl (by rw [h]; decide)
    · rcases List.mem_append.mp h with h | h
      · exact mkS_sp a g.1 z h
      · rcases List.mem_cons.mp h with h | h
        · exact .inl (by rw [h]; decide)
        · rcases List.mem_append.mp h with h | h
          · exact mkS_sp b g.2 z h
          · exact .inl (by rw [List.mem_singleton.mp h]; decide)
theorem mkS_sp : ∀ s, NS vP vR s → ∀ z ∈ mkS s, z ∈ six ∨ isOpn z = true
  | .mk r ks, g, z, h => by
    rcases List.mem_append.mp h with h | h
    · split at h
      · exact nomatch h
      · rename_i hr
        rw [List.mem_singleton.mp h]
        rcases g.1 with e | ⟨e, _⟩
        · exact absurd e hr
        · exact .inr (by unfold isOpn; rw [e, Bool.or_true])
    · exact mkKs_sp ks g.2 z h
theorem mkKs_sp : ∀ ks, NKs vP vR ks → ∀ z ∈ mkKs ks, z ∈ six ∨ isOpn z = true
  | [], _, z, h => nomatch h
  | k :: r, g, z, h => by
    rcases List.mem_append.mp h with h | h
    · exact mkK_sp k g.1 z h
    · exact mkKs_sp r g.2 z h
end
theorem opens_sp {p : Sk × Sk} (h1 : NS vP vR p.1) (h2 : NS vP vR p.2) : ddp notSp [] (mkR p) = opens p := by
  refine ddp_congr _ _ fun z hz => ?_
  have : z ∈ six ∨ isOpn z = true := by
    rcases List.mem_append.mp hz with h | h
    · exact mkS_sp _ h1 z h
    · rcases List.mem_cons.mp h with h | h
      · exact .inl (by rw [h]; decide)
      · exact mkS_sp _ h2 z h
  rcases this with h | h
  · rw [six_not z h]; unfold notSp; rw [decide_eq_true h]; rfl
  · have hn : z ∉ six := fun g => by rw [six_not z g] at h; cases h
    rw [h]; unfold notSp; rw [decide_eq_false hn]; rfl
theorem w_ixm1 {a : DV} {G : DG} {Q : DK} (h : Q a G) : bIx (.tup [a]) (.int (-1)) G Q := ⟨a, by unfold atI; rfl, h⟩
theorem w_ixm2 {a b : DV} {G : DG} {Q : DK} (h : Q b G) : bIx (.tup [a, b]) (.int (-1)) G Q := ⟨b, by unfold atI; rfl, h⟩
end DD
/-! kinds with other names -/
namespace DD
open PySem PySem.W L2 SX Cm
theorem nodup_le {α : Type} [DecidableEq α] : ∀ {xs L : List α}, xs.Nodup → (∀ x ∈ xs, x ∈ L) → xs.length ≤ L.length
  | [], L, _, _ => Nat.zero_le _
  | x :: r, L, h, g => by
    rw [List.nodup_cons] at h
    have hx := g x (List.mem_cons_self ..)
    have ih := nodup_le (xs := r) (L := L.erase x) h.2 fun y hy => by
      have hyL := g y (List.mem_cons_of_mem _ hy)
      have ne : y ≠ x := fun z => by rw [z] at hy; exact h.1 hy
      exact (List.mem_erase_of_ne ne).mpr hyL
    rw [List.length_erase_of_mem hx] at ih
    have := List.length_pos_of_mem hx
    rw [List.length_cons]; omega
/-- other names: each told by ρ -/
def renK (ρ : Str → Str) (z : Str) : Kd := .opn (ρ z)
def renS (ρ : Str → Str) (r : Str) : Sk := .mk (if r = ("" : Str) then "" else ρ r) []
def ren (ρ : Str → Str) (p : Sk × Sk) : Sk × Sk := (fS (renK ρ) (renS ρ) p.1, fS (renK ρ) (renS ρ) p.2)
/-- what ρ must keep, on the names zs -/
structure RenOK (ρ : Str → Str) (zs : List Str) : Prop where
  sm : ∀ z ∈ zs, smB z = true → smB (ρ z) = true
  gt : ∀ z ∈ zs, gtB z = true → gtB (ρ z) = true
  inj : ∀ z ∈ zs, ∀ y ∈ zs, ρ z = ρ y → z = y
def mkOf (ρ : Str → Str) (z : Str) : Str := if isOpn z then ρ z else z
mutual
theorem mkK_ren (ρ : Str → Str) (ws : List Str) (h : ∀ z ∈ ws, isOpn z = true → ρ z ≠ "") : ∀ k, NK vP vR k → (∀ z ∈ mkK k, z ∈ ws) → mkK (fK (renK ρ) (renS ρ) k) = (mkK k).map (mkOf ρ)
  | .num, _, _ => by show [("number" : Str)] = [mkOf ρ "number"]; unfold mkOf; rw [if_neg (by decide +kernel)]
  | .opn z, g, _ => by show [ρ z] = [mkOf ρ z]; unfold mkOf; rw [if_pos (vP_opn g)]
  | .lst k, g, m => by
    have e1 : mkOf ρ "{" = "{" := by unfold mkOf; rw [if_neg (by decide +kernel)]
    have e2 : mkOf ρ "}" = "}" := by unfold mkOf; rw [if_neg (by decide +kernel)]
    show ("{" : Str) :: (mkK (fK (renK ρ) (renS ρ) k) ++ [("}" : Str)]) = (("{" : Str) :: (mkK k ++ [("}" : Str)])).map (mkOf ρ)
    rw [mkK_ren ρ ws h k g fun z hz => m z (List.mem_cons_of_mem _ (List.mem_append_left _ hz)), List.map_cons, List.map_append, e1]
    show _ = ("{" : Str) :: ((mkK k).map (mkOf ρ) ++ [mkOf ρ "}"])
    rw [e2]
  | .row a b, g, m => by
    have e1 : mkOf ρ "[" = "[" := by unfold mkOf; rw [if_neg (by decide +kernel)]
    have e2 : mkOf ρ "]" = "]" := by unfold mkOf; rw [if_neg (by decide +kernel)]
    have e3 : mkOf ρ "--" = "--" := by unfold mkOf; rw [if_neg (by decide +kernel)]
    show ("[" : Str) :: (mkS (fS (renK ρ) (renS ρ) a) ++ ("--" : Str) :: (mkS (fS (renK ρ) (renS ρ) b) ++ [("]" : Str)])) = (("[" : Str) :: (mkS a ++ ("--" : Str) :: (mkS b ++ [("]" : Str)]))).map (mkOf ρ)
    rw [mkS_ren ρ ws h a g.1 fun z hz => m z (List.mem_cons_of_mem _ (List.mem_append_left _ hz)), mkS_ren ρ ws h b g.2 fun z hz => m z (List.mem_cons_of_mem _ (List.mem_append_right _ (List.mem_cons_of_mem _ (List.mem_append_left _ hz)))),
      List.map_cons, List.map_append, List.map_cons, List.map_append, e1, e3]
    show _ = ("[" : Str) :: ((mkS a).map (mkOf ρ) ++ ("--" : Str) :: ((mkS b).map (mkOf ρ) ++ [mkOf ρ "]"]))
    rw [e2]
theorem mkS_ren (ρ : Str → Str) (ws : List Str) (h : ∀ z ∈ ws, isOpn z = true → ρ z ≠ "") : ∀ s, NS vP vR s → (∀ z ∈ mkS s, z ∈ ws) → mkS (fS (renK ρ) (renS ρ) s) = (mkS s).map (mkOf ρ)
  | .mk r ks, g, m => by
    show (if (if r = ("" : Str) then ("" : Str) else ρ r) = ("" : Str) then [] else [if r = ("" : Str) then ("" : Str) else ρ r]) ++ mkKs (fKs (renK ρ) (renS ρ) ks) = ((if r = ("" : Str) then [] else [r]) ++ mkKs ks).map (mkOf ρ)
    rw [mkKs_ren ρ ws h ks g.2 fun z hz => m z (List.mem_append_right _ hz), List.map_append]
    congr 1
    by_cases hr : r = ("" : Str)
    · rw [if_pos hr, if_pos hr, if_pos rfl]; rfl
    · have ho : isOpn r = true := by
        rcases g.1 with e | ⟨e, _⟩
        · exact absurd e hr
        · unfold isOpn; rw [e, Bool.or_true]
      have hm : r ∈ ws := m r (List.mem_append_left _ (by rw [if_neg hr]; exact List.mem_singleton.mpr rfl))
      rw [if_neg hr, if_neg hr, if_neg (h r hm ho)]
      show [ρ r] = [mkOf ρ r]
      unfold mkOf; rw [if_pos ho]
theorem mkKs_ren (ρ : Str → Str) (ws : List Str) (h : ∀ z ∈ ws, isOpn z = true → ρ z ≠ "") : ∀ ks, NKs vP vR ks → (∀ z ∈ mkKs ks, z ∈ ws) → mkKs (fKs (renK ρ) (renS ρ) ks) = (mkKs ks).map (mkOf ρ)
  | [], _, _ => rfl
  | k :: r, g, m => by
    show mkK (fK (renK ρ) (renS ρ) k) ++ mkKs (fKs (renK ρ) (renS ρ) r) = (mkK k ++ mkKs r).map (mkOf ρ)
    rw [mkK_ren ρ ws h k g.1 fun z hz => m z (List.mem_append_left _ hz), mkKs_ren ρ ws h r g.2 fun z hz => m z (List.mem_append_right _ hz), List.map_append]
end
theorem opn_ne {z : Str} (h : isOpn z = true) : z ≠ "" := fun e => by rw [e] at h; revert h; decide +kernel
theorem gt_opn {z : Str} (h : gtB z = true) : isOpn z = true := by unfold isOpn; rw [h, Bool.or_true]
theorem sm_opn {z : Str} (h : smB z = true) : isOpn z = true := by unfold isOpn; rw [h]; rfl
theorem opn_cases {z : Str} (h : isOpn z = true) : smB z = true ∨ gtB z = true := by
  unfold isOpn at h
  rw [Bool.or_eq_true] at h; exact h
section
variable {ρ : Str → Str} {p : Sk × Sk}
theorem ren_opn {ws : List Str} (R : RenOK ρ ws) {z : Str} (hz : z ∈ ws) (h : isOpn z = true) : isOpn (ρ z) = true := by
  rcases opn_cases h with h | h
  · exact sm_opn (R.sm z hz h)
  · exact gt_opn (R.gt z hz h)
/-- the names each once, after ρ -/
theorem ddp_map (ρ : Str → Str) (zs : List Str) (R : RenOK ρ zs) : ∀ (ws acc : List Str), (∀ z ∈ ws, isOpn z = true → z ∈ zs) → (∀ z ∈ acc, z ∈ zs) → (∀ z ∈ ws, isOpn z = false → isOpn (mkOf ρ z) = false) → ddp isOpn (acc.map ρ) (ws.map (mkOf ρ)) = (ddp isOpn acc ws).map ρ
  | [], acc, _, _, _ => rfl
  | w :: r, acc, h, ha, hn => by
    rw [List.map_cons, ddp_cons, ddp_cons]
    cases hw : isOpn w with
    | false =>
      rw [hn w (List.mem_cons_self ..) hw]
      exact ddp_map ρ zs R r acc (fun z hz => h z (List.mem_cons_of_mem _ hz)) ha fun z hz => hn z (List.mem_cons_of_mem _ hz)
    | true =>
      have hwz := h w (List.mem_cons_self ..) hw
      have e : mkOf ρ w = ρ w := by unfold mkOf; rw [if_pos hw]
      have em : decide (ρ w ∈ acc.map ρ) = decide (w ∈ acc) := decq ⟨fun g => by
        obtain ⟨y, hy, e⟩ := List.mem_map.mp g
        have := R.inj y (ha y hy) w hwz e
        rw [← this]; exact hy, fun g => List.mem_map_of_mem g⟩
      rw [e, ren_opn R hwz hw, em]
      have step := ddp_map ρ zs R r (if (true && !decide (w ∈ acc)) = true then acc ++ [w] else acc) (fun z hz => h z (List.mem_cons_of_mem _ hz)) (fun z hz => by
        split at hz
        · rcases List.mem_append.mp hz with hz | hz
          · exact ha z hz
          · rw [List.mem_singleton.mp hz]; exact hwz
        · exact ha z hz) fun z hz => hn z (List.mem_cons_of_mem _ hz)
      rw [← step]
      congr 1
      cases decide (w ∈ acc)
      · show acc.map ρ ++ [ρ w] = (acc ++ [w]).map ρ
        rw [List.map_append]; rfl
      · rfl
theorem opens_ren (R : RenOK ρ (opens p)) (h1 : NS vP vR p.1) (h2 : NS vP vR p.2) : opens (ren ρ p) = (opens p).map ρ := by
  have hz : ∀ z ∈ mkR p, isOpn z = true → z ∈ opens p := fun z hz ho => ddp_mem _ _ _ _ hz ho
  have hρ : ∀ z ∈ mkR p, isOpn z = true → ρ z ≠ "" := fun z h ho => opn_ne (ren_opn R (hz z h ho) ho)
  have e : mkR (ren ρ p) = (mkR p).map (mkOf ρ) := by
    show mkS (fS (renK ρ) (renS ρ) p.1) ++ ("--" : Str) :: mkS (fS (renK ρ) (renS ρ) p.2) = (mkS p.1 ++ ("--" : Str) :: mkS p.2).map (mkOf ρ)
    have e3 : mkOf ρ "--" = "--" := by unfold mkOf; rw [if_neg (by decide +kernel)]
    rw [mkS_ren ρ (mkR p) hρ p.1 h1 fun z h => List.mem_append_left _ h, mkS_ren ρ (mkR p) hρ p.2 h2 fun z h => List.mem_append_right _ (List.mem_cons_of_mem _ h), List.map_append, List.map_cons, e3]
  unfold opens
  rw [e]
  have := ddp_map ρ (opens p) R (mkR p) [] hz (fun z h => nomatch h) fun z _ ho => by
    unfold mkOf
    rw [if_neg (by rw [ho]; exact Bool.false_ne_true)]; exact ho
  exact this
theorem filter_ren (R : RenOK ρ (opens p)) : ((opens p).map ρ).filter smB = ((opens p).filter smB).map ρ ∧ ((opens p).map ρ).filter gtB = ((opens p).filter gtB).map ρ := by
  have ho : ∀ z ∈ opens p, isOpn z = true := fun z h => by
    rcases ddp_of _ _ _ _ h with h | h
    · exact nomatch h
    · exact h.2
  generalize opens p = zs at R ho
  have go : ∀ ys : List Str, (∀ y ∈ ys, y ∈ zs) → (ys.map ρ).filter smB = (ys.filter smB).map ρ ∧ (ys.map ρ).filter gtB = (ys.filter gtB).map ρ := by
    intro ys
    induction ys with
    | nil => intro _; exact ⟨rfl, rfl⟩
    | cons y r ih =>
      intro h
      obtain ⟨a, b⟩ := ih fun z hz => h z (List.mem_cons_of_mem _ hz)
      have hy := h y (List.mem_cons_self ..)
      rw [List.map_cons, List.filter_cons, List.filter_cons, List.filter_cons, List.filter_cons, a, b]
      rcases opn_cases (ho y hy) with e | e
      · rw [e, R.sm y hy e, sm_gt e, sm_gt (R.sm y hy e)]
        exact ⟨rfl, rfl⟩
      · have e2 : smB y = false := by
          cases c : smB y with
          | false => rfl
          | true => rw [sm_gt c] at e; cases e
        have e3 : smB (ρ y) = false := by
          cases c : smB (ρ y) with
          | false => rfl
          | true => have := R.gt y hy e; rw [sm_gt c] at this; cases this
        rw [e, R.gt y hy e, e2, e3]
        exact ⟨rfl, rfl⟩
  exact go zs fun y h => h
theorem idx_map {zs : List Str} (hi : ∀ z ∈ zs, ∀ y ∈ zs, ρ z = ρ y → z = y) : ∀ {ys : List Str}, (∀ y ∈ ys, y ∈ zs) → ∀ {z : Str}, z ∈ zs → (ys.map ρ).idxOf (ρ z) = ys.idxOf z
  | [], _, z, _ => rfl
  | y :: r, h, z, hz => by
    rw [List.map_cons, List.idxOf_cons, List.idxOf_cons]
    have ih := idx_map hi (ys := r) (fun x hx => h x (List.mem_cons_of_mem _ hx)) hz
    by_cases e : y = z
    · rw [e, beq_self_eq_true, beq_self_eq_true]; rfl
    · have e' : ρ y ≠ ρ z := fun g => e (hi y (h y (List.mem_cons_self ..)) z hz g)
      rw [beq_eq_false_iff_ne.mpr e, beq_eq_false_iff_ne.mpr e', ih]
theorem names_in (h : NS vP vR p.1) (g : NS vP vR p.2) : NS (fun z => smB z = true ∧ z ∈ opens p) (fun r => r = "" ∨ (gtB r = true ∧ r ∈ opens p)) p.1 ∧ NS (fun z => smB z = true ∧ z ∈ opens p) (fun r => r = "" ∨ (gtB r = true ∧ r ∈ opens p)) p.2 := by
  have mem : ∀ (s : Sk), NS vP vR s → (∀ z ∈ mkS s, z ∈ mkR p) → NS (fun z => smB z = true ∧ z ∈ opens p) (fun r => r = "" ∨ (gtB r = true ∧ r ∈ opens p)) s := fun s n h =>
    NS.imp (fun z ⟨a, b⟩ => ⟨a, ddp_mem _ _ _ _ b (sm_opn a)⟩) (fun r h => h.imp id fun ⟨a, b⟩ => ⟨a, ddp_mem _ _ _ _ b (gt_opn a)⟩) _ (NS_mem s n h)
  exact ⟨mem p.1 h fun z hz => List.mem_append_left _ hz, mem p.2 g fun z hz => List.mem_append_right _ (List.mem_cons_of_mem _ hz)⟩
/-- the told form hangs on no names -/
theorem told_ren (R : RenOK ρ (opens p)) (h1 : NS vP vR p.1) (h2 : NS vP vR p.2) : told (ren ρ p) = told p := by
  have eo := opens_ren R h1 h2
  obtain ⟨ft, fr⟩ := filter_ren R
  have et : things (ren ρ p) = (things p).map ρ := by unfold things; rw [eo]; exact ft
  have er : rests (ren ρ p) = (rests p).map ρ := by unfold rests; rw [eo]; exact fr
  obtain ⟨n1, n2⟩ := names_in h1 h2
  have hk : ∀ z, (smB z = true ∧ z ∈ opens p) → fK (calledK (ren ρ p)) (calledS (ren ρ p)) (renK ρ z) = calledK p z := fun z ⟨hs, hz⟩ => by
    show Kd.opn (letd azs ((things (ren ρ p)).idxOf (ρ z))) = Kd.opn (letd azs ((things p).idxOf z))
    rw [et, idx_map (ys := things p) R.inj (fun y hy => (List.mem_filter.mp hy).1) hz]
  have hs : ∀ r : Str, (r = "" ∨ (gtB r = true ∧ r ∈ opens p)) → fS (calledK (ren ρ p)) (calledS (ren ρ p)) (renS ρ r) = calledS p r := fun r hr => by
    by_cases h0 : r = ("" : Str)
    · have e1 : renS ρ r = .mk "" [] := by unfold renS; rw [if_pos h0]
      rw [e1]
      show Sk.mk (calledS (ren ρ p) "").rest ((calledS (ren ρ p) "").ks ++ []) = calledS p r
      have n1 : ("" : Str) ∉ rests (ren ρ p) := fun h => by have := (List.mem_filter.mp h).2; rw [gtB_nil] at this; cases this
      have n2 : r ∉ rests p := fun h => by have := (List.mem_filter.mp h).2; rw [h0, gtB_nil] at this; cases this
      unfold calledS
      rw [if_neg n1, if_neg n2, h0]; rfl
    · obtain ⟨hg, hz⟩ : gtB r = true ∧ r ∈ opens p := by
        rcases hr with h | h
        · exact absurd h h0
        · exact h
      have e1 : renS ρ r = .mk (ρ r) [] := by unfold renS; rw [if_neg h0]
      rw [e1]
      show Sk.mk (calledS (ren ρ p) (ρ r)).rest ((calledS (ren ρ p) (ρ r)).ks ++ []) = calledS p r
      have hr : r ∈ rests p := List.mem_filter.mpr ⟨hz, hg⟩
      unfold calledS
      rw [er, if_pos (List.mem_map_of_mem hr), if_pos hr, idx_map (ys := rests p) R.inj (fun y hy => (List.mem_filter.mp hy).1) hz]; rfl
  show (fS _ _ (fS (renK ρ) (renS ρ) p.1), fS _ _ (fS (renK ρ) (renS ρ) p.2)) = (fS (calledK p) (calledS p) p.1, fS (calledK p) (calledS p) p.2)
  rw [fS_fS, fS_fS, fS_congr (f' := calledK p) (g' := calledS p) hk hs p.1 n1, fS_congr (f' := calledK p) (g' := calledS p) hk hs p.2 n2]
end
mutual
theorem dpK_ren (ρ : Str → Str) : ∀ k, dpK (fK (renK ρ) (renS ρ) k) = dpK k ∧ szK (fK (renK ρ) (renS ρ) k) = szK k
  | .num => ⟨rfl, rfl⟩
  | .opn z => ⟨rfl, rfl⟩
  | .lst k => by obtain ⟨a, b⟩ := dpK_ren ρ k; exact ⟨by show 1 + _ = 1 + _; rw [a], by show 1 + _ = 1 + _; rw [b]⟩
  | .row a b => by
    obtain ⟨x, y⟩ := dpS_ren ρ a
    obtain ⟨x', y'⟩ := dpS_ren ρ b
    exact ⟨by show 1 + max _ _ = 1 + max _ _; rw [x, x'], by show 1 + _ + _ = 1 + _ + _; rw [y, y']⟩
theorem dpS_ren (ρ : Str → Str) : ∀ k, dpS (fS (renK ρ) (renS ρ) k) = dpS k ∧ szS (fS (renK ρ) (renS ρ) k) = szS k
  | .mk r ks => by obtain ⟨a, b⟩ := dpKs_ren ρ ks; exact ⟨a, by show 1 + szKs ([] ++ _) = 1 + _; rw [List.nil_append, b]⟩
theorem dpKs_ren (ρ : Str → Str) : ∀ k, dpKs (fKs (renK ρ) (renS ρ) k) = dpKs k ∧ szKs (fKs (renK ρ) (renS ρ) k) = szKs k
  | [] => ⟨rfl, rfl⟩
  | k :: r => by
    obtain ⟨x, y⟩ := dpK_ren ρ k
    obtain ⟨x', y'⟩ := dpKs_ren ρ r
    exact ⟨by show max _ _ = max _ _; rw [x, x'], by show _ + _ = _ + _; rw [y, y']⟩
end
mutual
theorem NK_fren {ρ : Str → Str} {P R P' R' : Str → Prop} (hp : ∀ z, P z → P' (ρ z)) (hr : ∀ r, R r → R' (if r = ("" : Str) then "" else ρ r)) : ∀ k, NK P R k → NK P' R' (fK (renK ρ) (renS ρ) k)
  | .num, _ => trivial
  | .opn z, h => hp z h
  | .lst k, h => NK_fren hp hr k h
  | .row a b, h => ⟨NS_fren hp hr a h.1, NS_fren hp hr b h.2⟩
theorem NS_fren {ρ : Str → Str} {P R P' R' : Str → Prop} (hp : ∀ z, P z → P' (ρ z)) (hr : ∀ r, R r → R' (if r = ("" : Str) then "" else ρ r)) : ∀ k, NS P R k → NS P' R' (fS (renK ρ) (renS ρ) k)
  | .mk r ks, h => ⟨hr r h.1, by show NKs P' R' ([] ++ _); rw [List.nil_append]; exact NKs_fren hp hr ks h.2⟩
theorem NKs_fren {ρ : Str → Str} {P R P' R' : Str → Prop} (hp : ∀ z, P z → P' (ρ z)) (hr : ∀ r, R r → R' (if r = ("" : Str) then "" else ρ r)) : ∀ k, NKs P R k → NKs P' R' (fKs (renK ρ) (renS ρ) k)
  | [], _ => trivial
  | k :: r, h => ⟨NK_fren hp hr k h.1, NKs_fren hp hr r h.2⟩
end
/-! ### names of letters and numbers -/
theorem numL_0 : TL.numL 0 = [48] := TL.numL_lt (by decide)
theorem numL_head : ∀ n : Nat, 1 ≤ n → (TL.numL n).head? ≠ some 48 := by
  intro n
  induction n using Nat.strongRecOn with
  | _ n ih =>
    intro h
    by_cases h10 : n < 10
    · rw [TL.numL_lt h10]
      intro e
      have : 48 + n = 48 := Option.some.inj e
      omega
    · rw [TL.numL_step (by omega)]
      have := ih (n / 10) (by omega) (by omega)
      have ne := TL.numL_ne (n / 10)
      cases e : TL.numL (n / 10) with
      | nil => exact absurd e ne
      | cons c r =>
        rw [e] at this
        exact this
theorem numL_fig {n : Nat} (h : 1 ≤ n) : figB (TL.numL n) = true ∧ TL.numL n ≠ [48] ∧ TL.numL n ≠ [] := by
  have h48 : TL.numL n ≠ [48] := fun e => by
    rw [← numL_0] at e
    have := TL.numL_inj e
    omega
  refine ⟨?_, h48, TL.numL_ne n⟩
  have hd := TL.numL_digits n
  have hh := numL_head n h
  cases e : TL.numL n with
  | nil => exact absurd e (TL.numL_ne n)
  | cons c r =>
    rw [e] at hd hh
    have hc : c ≠ 48 := fun z => hh (by rw [z]; rfl)
    have ha : ((c :: r).all fun s => decide (s ∈ figs)) = true := by
      rw [List.all_eq_true]
      intro d hm
      have b := hd d hm
      refine decide_eq_true ?_
      simp only [figs, List.mem_cons, List.not_mem_nil, or_false]
      omega
    show (((c :: r).all fun s => decide (s ∈ figs)) && (decide (c :: r = [48]) || !decide (c = 48))) = true
    rw [ha, decide_eq_false hc, Bool.not_false, Bool.or_true]; rfl
/-- a letter and a number -/
def lnum (c n : Nat) : Str := S [c] ++ (toString ((n : Nat) : Int) : Str)
theorem tl_lnum (c n : Nat) : TL.tl (lnum c n) = c :: TL.numL n := by
  unfold lnum
  rw [TL.tl_append]
  show [c] ++ TL.tl (Str.ofString (toString ((n : Nat) : Int))) = _
  rw [TL.tl_num]; rfl
theorem nm_lnum {ls : List Nat} {c n : Nat} (hc : c ∈ ls) (hn : 1 ≤ n) : nmB ls (TL.tl (lnum c n)) = true := by
  obtain ⟨a, b, d⟩ := numL_fig hn
  rw [tl_lnum]
  show (decide (c ∈ ls) && (decide (TL.numL n = []) || (figB (TL.numL n) && !decide (TL.numL n = [48])))) = true
  rw [decide_eq_true hc, a, decide_eq_false b, Bool.not_false, Bool.and_self, Bool.or_true]; rfl
theorem nm_one {ls : List Nat} {c : Nat} (hc : c ∈ ls) : nmB ls (TL.tl (S [c])) = true := by
  show (decide (c ∈ ls) && (decide ([] = ([] : List Nat)) || _)) = true
  rw [decide_eq_true hc, decide_eq_true rfl]; rfl
theorem lnum_inj {c d n m : Nat} (h : lnum c n = lnum d m) : c = d ∧ n = m := by
  have := congrArg TL.tl h
  rw [tl_lnum, tl_lnum] at this
  exact ⟨List.head_eq_of_cons_eq this, TL.numL_inj (List.tail_eq_of_cons_eq this)⟩
theorem lnum_len {c n : Nat} (h : n < 10 ^ 900) : (TL.tl (lnum c n)).length ≤ 1000 := by
  rw [tl_lnum, List.length_cons]
  have := TL.numL_len (k := 900) (by decide) h
  omega
theorem az_get {k : Nat} (h : k < 26) : azs.getD k 0 = 97 + k ∧ azs.getD k 0 ∈ azs ∧ AZs.getD k 0 = 65 + k ∧ AZs.getD k 0 ∈ AZs := by
  have := (by decide : ∀ k < 26, azs.getD k 0 = 97 + k ∧ azs.getD k 0 ∈ azs ∧ AZs.getD k 0 = 65 + k ∧ AZs.getD k 0 ∈ AZs) k h
  exact this
theorem letd_eq (ls : List Nat) (i : Nat) : letd ls i = if i / 26 = 0 then S [ls.getD (i % 26) 0] else lnum (ls.getD (i % 26) 0) (i / 26) := rfl
theorem letd_nm {ls : List Nat} (hl : ∀ k < 26, ls.getD k 0 ∈ ls) (i : Nat) : nmB ls (TL.tl (letd ls i)) = true := by
  rw [letd_eq]
  by_cases h : i / 26 = 0
  · rw [if_pos h]; exact nm_one (hl _ (Nat.mod_lt _ (by decide)))
  · rw [if_neg h]; exact nm_lnum (hl _ (Nat.mod_lt _ (by decide))) (by omega)
theorem letd_inj {ls : List Nat} {b : Nat} (hl : ∀ k < 26, ls.getD k 0 = b + k) {i j : Nat} (h : letd ls i = letd ls j) : i = j := by
  have hi : i % 26 < 26 := Nat.mod_lt _ (by decide)
  have hj : j % 26 < 26 := Nat.mod_lt _ (by decide)
  rw [letd_eq, letd_eq] at h
  have e := congrArg TL.tl h
  by_cases h1 : i / 26 = 0
  · by_cases h2 : j / 26 = 0
    · rw [if_pos h1, if_pos h2] at e
      have e' : [ls.getD (i % 26) 0] = [ls.getD (j % 26) 0] := e
      have := List.head_eq_of_cons_eq e'
      rw [hl _ hi, hl _ hj] at this
      omega
    · rw [if_pos h1, if_neg h2, tl_lnum] at e
      have e' : [ls.getD (i % 26) 0] = ls.getD (j % 26) 0 :: TL.numL (j / 26) := e
      exact absurd (List.tail_eq_of_cons_eq e').symm (TL.numL_ne _)
  · by_cases h2 : j / 26 = 0
    · rw [if_neg h1, if_pos h2, tl_lnum] at e
      have e' : ls.getD (i % 26) 0 :: TL.numL (i / 26) = [ls.getD (j % 26) 0] := e
      exact absurd (List.tail_eq_of_cons_eq e') (TL.numL_ne _)
    · rw [if_neg h1, if_neg h2] at h
      obtain ⟨a, c⟩ := lnum_inj h
      rw [hl _ hi, hl _ hj] at a
      omega
theorem letd_len {ls : List Nat} {i : Nat} (h : i ≤ 2000) : (TL.tl (letd ls i)).length ≤ 1000 := by
  rw [letd_eq]
  by_cases h1 : i / 26 = 0
  · rw [if_pos h1]; show 1 ≤ 1000; decide
  · rw [if_neg h1]
    refine lnum_len ?_
    have : (100 : Nat) ≤ 10 ^ 900 := Nat.le_trans (show 100 ≤ 10 ^ 2 by decide) (Nat.pow_le_pow_right (by decide) (by decide))
    omega
theorem letd_sm (i : Nat) : smB (letd azs i) = true := letd_nm (fun k h => (az_get h).2.1) i
theorem letd_gt (i : Nat) : gtB (letd AZs i) = true := letd_nm (fun k h => (az_get h).2.2.2) i
/-- the told names -/
def rhoT (p : Sk × Sk) (z : Str) : Str := if smB z then letd azs ((things p).idxOf z) else letd AZs ((rests p).idxOf z)
theorem not_sm {z : Str} (h : gtB z = true) : smB z = false := by
  cases c : smB z with
  | false => rfl
  | true => rw [sm_gt c] at h; cases h
theorem told_eq {p : Sk × Sk} (h1 : NS vP vR p.1) (h2 : NS vP vR p.2) : told p = ren (rhoT p) p := by
  obtain ⟨n1, n2⟩ := names_in h1 h2
  have hk : ∀ z, (smB z = true ∧ z ∈ opens p) → calledK p z = renK (rhoT p) z := fun z ⟨hs, _⟩ => by
    unfold calledK renK rhoT; rw [if_pos hs]
  have hs : ∀ r : Str, (r = "" ∨ (gtB r = true ∧ r ∈ opens p)) → calledS p r = renS (rhoT p) r := fun r hr => by
    by_cases h0 : r = ("" : Str)
    · have n : r ∉ rests p := fun h => by have := (List.mem_filter.mp h).2; rw [h0, gtB_nil] at this; cases this
      unfold calledS renS
      rw [if_neg n, if_pos h0, h0]
    · obtain ⟨hg, hz⟩ : gtB r = true ∧ r ∈ opens p := by
        rcases hr with h | h
        · exact absurd h h0
        · exact h
      have hr : r ∈ rests p := List.mem_filter.mpr ⟨hz, hg⟩
      unfold calledS renS rhoT
      rw [if_pos hr, if_neg h0, if_neg (by rw [not_sm hg]; exact Bool.false_ne_true)]
  show (fS (calledK p) (calledS p) p.1, fS (calledK p) (calledS p) p.2) = _
  rw [fS_congr hk hs p.1 n1, fS_congr hk hs p.2 n2]; rfl
theorem idx_inj {zs : List Str} {z y : Str} (hz : z ∈ zs) (hy : y ∈ zs) (h : zs.idxOf z = zs.idxOf y) : z = y := by
  have h1 := List.getElem_idxOf (List.idxOf_lt_length_of_mem hz)
  have h2 := List.getElem_idxOf (List.idxOf_lt_length_of_mem hy)
  rw [← h1, ← h2]
  simp only [h]
theorem rhoT_ok {p : Sk × Sk} : RenOK (rhoT p) (opens p) := by
  refine ⟨fun z _ h => ?_, fun z _ h => ?_, fun z hz y hy e => ?_⟩
  · unfold rhoT; rw [if_pos h]; exact letd_sm _
  · unfold rhoT; rw [if_neg (by rw [not_sm h]; exact Bool.false_ne_true)]; exact letd_gt _
  · have ho : ∀ z ∈ opens p, isOpn z = true := fun z h => by
      rcases ddp_of _ _ _ _ h with h | h
      · exact nomatch h
      · exact h.2
    rcases opn_cases (ho z hz) with a | a <;> rcases opn_cases (ho y hy) with b | b
    · unfold rhoT at e
      rw [if_pos a, if_pos b] at e
      exact idx_inj (List.mem_filter.mpr ⟨hz, a⟩) (List.mem_filter.mpr ⟨hy, b⟩) (letd_inj (fun k h => (az_get h).1) e)
    · exfalso
      unfold rhoT at e
      rw [if_pos a, if_neg (by rw [not_sm b]; exact Bool.false_ne_true)] at e
      have := sm_gt (letd_sm ((things p).idxOf z))
      rw [e, letd_gt] at this; cases this
    · exfalso
      unfold rhoT at e
      rw [if_pos b, if_neg (by rw [not_sm a]; exact Bool.false_ne_true)] at e
      have := sm_gt (letd_sm ((things p).idxOf y))
      rw [← e, letd_gt] at this; cases this
    · unfold rhoT at e
      rw [if_neg (by rw [not_sm a]; exact Bool.false_ne_true), if_neg (by rw [not_sm b]; exact Bool.false_ne_true)] at e
      exact idx_inj (List.mem_filter.mpr ⟨hz, a⟩) (List.mem_filter.mpr ⟨hy, b⟩) (letd_inj (fun k h => (az_get h).2.2.1) e)
/-- told twice it is the same -/
theorem told_told {p : Sk × Sk} (h1 : NS vP vR p.1) (h2 : NS vP vR p.2) : told (told p) = told p := by
  have := told_ren (rhoT_ok (p := p)) h1 h2
  rw [← told_eq h1 h2] at this
  exact this
/-- renamed kinds have names, too -/
theorem ren_NS {ρ : Str → Str} {p : Sk × Sk} (h1 : NS vP vR p.1) (h2 : NS vP vR p.2) (R : RenOK ρ (opens p)) (hl : ∀ z ∈ opens p, (TL.tl (ρ z)).length ≤ 1000) : NS vP vR (ren ρ p).1 ∧ NS vP vR (ren ρ p).2 := by
  obtain ⟨n1, n2⟩ := names_in h1 h2
  have hp : ∀ z, (smB z = true ∧ z ∈ opens p) → vP (ρ z) := fun z ⟨a, b⟩ => ⟨R.sm z b a, hl z b⟩
  have hr : ∀ r : Str, (r = "" ∨ (gtB r = true ∧ r ∈ opens p)) → vR (if r = ("" : Str) then "" else ρ r) := fun r h => by
    by_cases h0 : r = ("" : Str)
    · rw [if_pos h0]; exact .inl rfl
    · rw [if_neg h0]
      rcases h with h | ⟨a, b⟩
      · exact absurd h h0
      · exact .inr ⟨R.gt r b a, hl r b⟩
  exact ⟨NS_fren hp hr p.1 n1, NS_fren hp hr p.2 n2⟩
theorem rhoT_len {p : Sk × Sk} (h : (opens p).length ≤ 1000) : ∀ z ∈ opens p, (TL.tl (rhoT p z)).length ≤ 1000 := fun z hz => by
  have l1 : (things p).length ≤ 1000 := Nat.le_trans (List.length_filter_le _ _) h
  have l2 : (rests p).length ≤ 1000 := Nat.le_trans (List.length_filter_le _ _) h
  unfold rhoT
  split
  · exact letd_len (Nat.le_trans List.idxOf_le_length (by omega))
  · exact letd_len (Nat.le_trans List.idxOf_le_length (by omega))
/-! names are texts -/
theorem nm_mem {ls : List Nat} {x : List Nat} (h : nmB ls x = true) : ∀ c ∈ x, c ∈ ls ∨ c ∈ figs := by
  cases x with
  | nil => exact fun c h => nomatch h
  | cons d r =>
    have h' : (decide (d ∈ ls) && (decide (r = []) || (figB r && !decide (r = [48])))) = true := h
    rw [Bool.and_eq_true, Bool.or_eq_true] at h'
    intro c hc
    rcases List.mem_cons.mp hc with rfl | hc
    · exact .inl (of_decide_eq_true h'.1)
    · rcases h'.2 with h2 | h2
      · rw [of_decide_eq_true h2] at hc; exact nomatch hc
      · rw [Bool.and_eq_true] at h2
        cases r with
        | nil => exact nomatch hc
        | cons e q =>
          have h3 : (((e :: q).all fun s => decide (s ∈ figs)) && (decide (e :: q = [48]) || !decide (e = 48))) = true := h2.1
          rw [Bool.and_eq_true, List.all_eq_true] at h3
          exact .inr (of_decide_eq_true (h3.1 c hc))
theorem ok_of {z : Str} (h : ∀ c ∈ TL.tl z, c < 256) : okS z := by
  show z.cps.all _ = true
  rw [Array.all_eq_true']
  intro c hc
  have := h c (by show c ∈ z.cps.toList; simpa using hc)
  exact decide_eq_true (by omega)
theorem vP_ok {z : Str} (h : vP z) : okS z := ok_of fun c hc => by
  rcases nm_mem h.1 c hc with h | h
  · simp only [azs, List.mem_cons, List.not_mem_nil, or_false] at h; omega
  · simp only [figs, List.mem_cons, List.not_mem_nil, or_false] at h; omega
theorem vR_ok {z : Str} (h : vR z) : okS z := by
  rcases h with h | ⟨h, _⟩
  · rw [h]; show PyData.strOk "" = true; decide +kernel
  · exact ok_of fun c hc => by
      rcases nm_mem h c hc with h | h
      · simp only [AZs, List.mem_cons, List.not_mem_nil, or_false] at h; omega
      · simp only [figs, List.mem_cons, List.not_mem_nil, or_false] at h; omega
theorem NS_ok {s : Sk} (h : NS vP vR s) : NS okS okS s := NS.imp (fun _ => vP_ok) (fun _ => vR_ok) s h
end DD
/-! names called by their order -/
namespace DD
open PySem PySem.W L2 SX Cm
def calL : List Str → Nat → Nat → List (Str × DV)
  | [], _, _ => []
  | z :: r, a, b => if gtB z then (z, pR b) :: calL r a (b + 1) else (z, pT a) :: calL r (a + 1) b
theorem calL_keys : ∀ (zs : List Str) (a b : Nat), (calL zs a b).map (·.1) = zs
  | [], _, _ => rfl
  | z :: r, a, b => by
    unfold calL
    split
    · rw [List.map_cons, calL_keys r]
    · rw [List.map_cons, calL_keys r]
def cntG (zs : List Str) : Nat := (zs.filter gtB).length
def cntS (zs : List Str) : Nat := (zs.filter fun z => !gtB z).length
theorem calL_snoc (z : Str) : ∀ (zs : List Str) (a b : Nat), calL (zs ++ [z]) a b = calL zs a b ++ [if gtB z then (z, pR (b + cntG zs)) else (z, pT (a + cntS zs))]
  | [], a, b => by
    show (if gtB z = true then (z, pR b) :: calL [] a (b + 1) else (z, pT a) :: calL [] (a + 1) b) = [] ++ [if gtB z = true then (z, pR (b + 0)) else (z, pT (a + 0))]
    split <;> rfl
  | y :: r, a, b => by
    show (if gtB y = true then (y, pR b) :: calL (r ++ [z]) a (b + 1) else (y, pT a) :: calL (r ++ [z]) (a + 1) b) = (if gtB y = true then (y, pR b) :: calL r a (b + 1) else (y, pT a) :: calL r (a + 1) b) ++ _
    cases hy : gtB y with
    | true =>
      have e1 : cntG (y :: r) = cntG r + 1 := by unfold cntG; rw [List.filter_cons, hy]; rfl
      have e2 : cntS (y :: r) = cntS r := by unfold cntS; rw [List.filter_cons, hy]; rfl
      rw [if_pos rfl, if_pos rfl, calL_snoc z r a (b + 1), e1, e2, show b + 1 + cntG r = b + (cntG r + 1) by omega]; rfl
    | false =>
      have e1 : cntG (y :: r) = cntG r := by unfold cntG; rw [List.filter_cons, hy]; rfl
      have e2 : cntS (y :: r) = cntS r + 1 := by unfold cntS; rw [List.filter_cons, hy]; rfl
      rw [if_neg Bool.false_ne_true, if_neg Bool.false_ne_true, calL_snoc z r (a + 1) b, e1, e2, show a + 1 + cntS r = a + (cntS r + 1) by omega]; rfl
theorem calL_sm : ∀ (zs : List Str) (a b : Nat) (z : Str), (∀ y ∈ zs, isOpn y = true) → z ∈ zs → smB z = true → (z, pT (a + (zs.filter smB).idxOf z)) ∈ calL zs a b
  | y :: r, a, b, z, ho, hz, hs => by
    show _ ∈ (if gtB y = true then (y, pR b) :: calL r a (b + 1) else (y, pT a) :: calL r (a + 1) b)
    rcases opn_cases (ho y (List.mem_cons_self ..)) with e | e
    · rw [if_neg (by rw [sm_gt e]; exact Bool.false_ne_true), List.filter_cons, if_pos e, List.idxOf_cons]
      by_cases hy : y = z
      · rw [hy, beq_self_eq_true]; exact List.mem_cons_self ..
      · rw [beq_eq_false_iff_ne.mpr hy]
        refine List.mem_cons_of_mem _ ?_
        have := calL_sm r (a + 1) b z (fun x hx => ho x (List.mem_cons_of_mem _ hx)) (by
          rcases List.mem_cons.mp hz with h | h
          · exact absurd h.symm hy
          · exact h) hs
        rw [show a + 1 + (r.filter smB).idxOf z = a + ((r.filter smB).idxOf z + 1) by omega] at this
        exact this
    · rw [if_pos e, List.filter_cons, if_neg (by rw [not_sm e]; exact Bool.false_ne_true)]
      refine List.mem_cons_of_mem _ (calL_sm r a (b + 1) z (fun x hx => ho x (List.mem_cons_of_mem _ hx)) ?_ hs)
      rcases List.mem_cons.mp hz with h | h
      · rw [h, not_sm e] at hs; cases hs
      · exact h
theorem calL_gt : ∀ (zs : List Str) (a b : Nat) (z : Str), (∀ y ∈ zs, isOpn y = true) → z ∈ zs → gtB z = true → (z, pR (b + (zs.filter gtB).idxOf z)) ∈ calL zs a b
  | y :: r, a, b, z, ho, hz, hs => by
    show _ ∈ (if gtB y = true then (y, pR b) :: calL r a (b + 1) else (y, pT a) :: calL r (a + 1) b)
    rcases opn_cases (ho y (List.mem_cons_self ..)) with e | e
    · rw [if_neg (by rw [sm_gt e]; exact Bool.false_ne_true), List.filter_cons, if_neg (by rw [sm_gt e]; exact Bool.false_ne_true)]
      refine List.mem_cons_of_mem _ (calL_gt r (a + 1) b z (fun x hx => ho x (List.mem_cons_of_mem _ hx)) ?_ hs)
      rcases List.mem_cons.mp hz with h | h
      · rw [h, sm_gt e] at hs; cases hs
      · exact h
    · rw [if_pos e, List.filter_cons, if_pos e, List.idxOf_cons]
      by_cases hy : y = z
      · rw [hy, beq_self_eq_true]; exact List.mem_cons_self ..
      · rw [beq_eq_false_iff_ne.mpr hy]
        refine List.mem_cons_of_mem _ ?_
        have := calL_gt r a (b + 1) z (fun x hx => ho x (List.mem_cons_of_mem _ hx)) (by
          rcases List.mem_cons.mp hz with h | h
          · exact absurd h.symm hy
          · exact h) hs
        rw [show b + 1 + (r.filter gtB).idxOf z = b + ((r.filter gtB).idxOf z + 1) by omega] at this
        exact this
theorem opens_opn {p : Sk × Sk} : ∀ z ∈ opens p, isOpn z = true := fun z h => by
  rcases ddp_of _ _ _ _ h with h | h
  · exact nomatch h
  · exact h.2
/-- a table of renamings -/
theorem ren_tab {ρ : Str → Str} {zs : List Str} (hn : zs.Nodup) (h0 : ("" : Str) ∉ zs) (ent : Str → DV) (he : ∀ z, smB z = true → ent z = eK (renK ρ z)) (hg : ∀ r : Str, gtB r = true → ent r = .tup [.str (ρ r), .tup []]) :
    TabOK (tabL (zs.map fun z => (z, ent z))) (fun z => smB z = true ∧ z ∈ zs) (fun r => r = "" ∨ (gtB r = true ∧ r ∈ zs)) (renK ρ) (renS ρ) := by
  have keys : (zs.map fun z => (z, ent z)).map (·.1) = zs := by rw [List.map_map]; exact List.map_id'' (fun _ => rfl) _
  refine ⟨fun z ⟨hs, hz⟩ => ?_, fun r hr => ?_, fun r _ => Nat.zero_le _⟩
  · rw [val_tab (d := ent z) (by rw [keys]; exact hn) (List.mem_map.mpr ⟨z, hz, rfl⟩), he z hs]; rfl
  · by_cases hr0 : r = ("" : Str)
    · rw [val_none (by rw [keys, hr0]; exact h0)]
      have e1 : renS ρ r = .mk "" [] := by unfold renS; rw [if_pos hr0]
      rw [e1, hr0]; rfl
    · obtain ⟨a, b⟩ : gtB r = true ∧ r ∈ zs := by
        rcases hr with h | h
        · exact absurd h hr0
        · exact h
      have e1 : renS ρ r = .mk (ρ r) [] := by unfold renS; rw [if_neg hr0]
      rw [val_tab (d := ent r) (by rw [keys]; exact hn) (List.mem_map.mpr ⟨r, b, rfl⟩), hg r a, e1]; rfl
theorem cal_tab (p : Sk × Sk) : TabOK (tabL (calL (opens p) 0 0)) (fun z => smB z = true ∧ z ∈ opens p) (fun r => r = "" ∨ (gtB r = true ∧ r ∈ opens p)) (calledK p) (calledS p) := by
  have nd : (opens p).Nodup := ddp_nodup _ _ _ List.nodup_nil
  have keys := calL_keys (opens p) 0 0
  refine ⟨fun z ⟨hs, hz⟩ => ?_, fun r hr => ?_, fun r _ => Nat.zero_le _⟩
  · have := calL_sm (opens p) 0 0 z opens_opn hz hs
    rw [Nat.zero_add] at this
    rw [val_tab (by rw [keys]; exact nd) this]; rfl
  · by_cases hm : r ∈ rests p
    · obtain ⟨hz, hg⟩ := List.mem_filter.mp hm
      have := calL_gt (opens p) 0 0 r opens_opn hz hg
      rw [Nat.zero_add] at this
      rw [val_tab (by rw [keys]; exact nd) this]
      show pR _ = eS (calledS p r)
      unfold calledS
      rw [if_pos hm]; rfl
    · have hr0 : r = "" := by
        rcases hr with h | ⟨h1, h2⟩
        · exact h
        · exact absurd (List.mem_filter.mpr ⟨h2, h1⟩) hm
      rw [val_none (by rw [keys, hr0]; intro h; exact opn_ne (opens_opn _ h) rfl)]
      show DV.tup [.str r, .tup []] = eS (calledS p r)
      unfold calledS
      rw [if_neg hm]; rfl
mutual
theorem mkK_in {P R : Str → Prop} : ∀ k, NK P R k → ∀ z ∈ mkK k, z ∈ six ∨ P z ∨ R z
  | .num, _, z, h => .inl (by rw [List.mem_singleton.mp h]; decide)
  | .opn y, g, z, h => .inr (.inl (by rw [List.mem_singleton.mp h]; exact g))
  | .lst k, g, z, h => by
    rcases List.mem_cons.mp h with h | h
    · exact .inl (by rw [h]; decide)
    · rcases List.mem_append.mp h with h | h
      · exact mkK_in k g z h
      · exact .inl (by rw [List.mem_singleton.mp h]; decide)
  | .row a b, g, z, h => by
    rcases List.mem_cons.mp h with h | h
    · exact .inl (by rw [h]; decide)
    · rcases List.mem_append.mp h with h | h
      · exact mkS_in a g.1 z h
      · rcases List.mem_cons.mp h with h | h
        · exact .inl (by rw [h]; decide)
        · rcases List.mem_append.mp h with h | h
          · exact mkS_in b g.2 z h
          · exact .inl (by rw [List.mem_singleton.mp h]; decide)
theorem mkS_in {P R : Str → Prop} : ∀ s, NS P R s → ∀ z ∈ mkS s, z ∈ six ∨ P z ∨ R z
  | .mk r ks, g, z, h => by
    rcases List.mem_append.mp h with h | h
    · split at h
      · exact nomatch h
      · rw [List.mem_singleton.mp h]
        exact .inr (.inr g.1)
    · exact mkKs_in ks g.2 z h
theorem mkKs_in {P R : Str → Prop} : ∀ ks, NKs P R ks → ∀ z ∈ mkKs ks, z ∈ six ∨ P z ∨ R z
  | [], _, z, h => nomatch h
  | k :: r, g, z, h => by
    rcases List.mem_append.mp h with h | h
    · exact mkK_in k g.1 z h
    · exact mkKs_in r g.2 z h
end
/-- few open names, where they are out of few -/
theorem opens_few {p : Sk × Sk} {L : List Str} (h1 : NS (· ∈ L) (· ∈ L) p.1) (h2 : NS (· ∈ L) (· ∈ L) p.2) : (opens p).length ≤ L.length := by
  refine nodup_le (ddp_nodup _ _ _ List.nodup_nil) fun z hz => ?_
  rcases ddp_of _ _ _ _ hz with h | ⟨hm, ho⟩
  · exact nomatch h
  · have ns : z ∉ six := fun g => by rw [six_not z g] at ho; cases ho
    rcases List.mem_append.mp hm with h | h
    · rcases mkS_in _ h1 z h with h | h | h
      · exact absurd h ns
      · exact h
      · exact h
    · rcases List.mem_cons.mp h with h | h
      · exact absurd (by rw [h]; decide) ns
      · rcases mkS_in _ h2 z h with h | h | h
        · exact absurd h ns
        · exact h
        · exact h
/-- a drawn row's kind, or one like it -/
structure GP (p : Sk × Sk) : Prop where
  d1 : dpS p.1 ≤ 3
  d2 : dpS p.2 ≤ 3
  z1 : szS p.1 ≤ 50000
  z2 : szS p.2 ≤ 50000
  n1 : NS vP vR p.1
  n2 : NS vP vR p.2
  ol : (opens p).length ≤ 100
theorem GP.ren {ρ : Str → Str} {p : Sk × Sk} (g : GP p) (R : RenOK ρ (opens p)) (hl : ∀ z ∈ opens p, (TL.tl (ρ z)).length ≤ 1000) : GP (ren ρ p) := by
  obtain ⟨a, b⟩ := dpS_ren ρ p.1
  obtain ⟨c, d⟩ := dpS_ren ρ p.2
  obtain ⟨x, y⟩ := ren_NS g.n1 g.n2 R hl
  exact ⟨by show dpS (fS _ _ _) ≤ 3; rw [a]; exact g.d1, by show dpS (fS _ _ _) ≤ 3; rw [c]; exact g.d2, by show szS (fS _ _ _) ≤ _; rw [b]; exact g.z1, by show szS (fS _ _ _) ≤ _; rw [d]; exact g.z2, x, y, by rw [opens_ren R g.n1 g.n2, List.length_map]; exact g.ol⟩
theorem GP.told {p : Sk × Sk} (g : GP p) : GP (told p) := by
  rw [told_eq g.n1 g.n2]
  exact g.ren rhoT_ok (rhoT_len (Nat.le_trans g.ol (by decide)))
theorem GP.cmp {p : Sk × Sk} (g : GP p) : Cmp (eR p) := cmp_R (NS_ok g.n1) (NS_ok g.n2) (Nat.le_trans g.d1 (by decide)) (Nat.le_trans g.d2 (by decide))
theorem GP.sp {p : Sk × Sk} (g : GP p) : ddp notSp [] (mkR p) = opens p := opens_sp g.n1 g.n2
theorem GP.ml {p : Sk × Sk} (g : GP p) : (mkR p).length ≤ 900000 := by
  have a := mkS_len p.1
  have b := mkS_len p.2
  have := g.z1
  have := g.z2
  show (mkS p.1 ++ ("--" : Str) :: mkS p.2).length ≤ _
  rw [List.length_append, List.length_cons]; omega
theorem GP.short {p : Sk × Sk} (g : GP p) : ∀ z ∈ opens p, (TL.tl z).length ≤ 1000 := fun z hz => by
  rcases ddp_of _ _ _ _ hz with h | h
  · exact nomatch h
  · exact mkR_short g.n1 g.n2 z h.1
theorem str_e (x : Str) : x ++ ("" : Str) = x := by
  rw [← DD.S_tl (x ++ ("" : Str)), TL.tl_append, show TL.tl ("" : Str) = [] from by decide +kernel, List.append_nil, DD.S_tl]
theorem e_up : Txt.upper ("abcdefghijklmnopqrstuvwxyz" : Str) = S AZs := by decide +kernel
/-- the first sign of a name tells its sort -/
theorem head_nm {ls x : List Nat} (h : nmB ls x = true) : ∃ c r, x = c :: r ∧ c ∈ ls := by
  cases x with
  | nil => cases h
  | cons c r =>
    have h' : (decide (c ∈ ls) && (decide (r = []) || (figB r && !decide (r = [48])))) = true := h
    rw [Bool.and_eq_true] at h'
    exact ⟨c, r, rfl, of_decide_eq_true h'.1⟩
theorem AZ_az {c : Nat} (h : c ∈ AZs) : c ∉ azs := by
  simp only [AZs, List.mem_cons, List.not_mem_nil, or_false] at h
  simp only [azs, List.mem_cons, List.not_mem_nil, or_false]
  omega
end DD
/-! the marks of a told form against the pattern of the open names -/
namespace DD
open PySem PySem.W L2 SX Cm
def patW (os : List Str) (z : Str) : DV := if z ∈ os then .tup [.int (if smB z = true then 1 else 0), .int (os.idxOf z : Nat)] else .str z
def pat (ws : List Str) : List DV := ws.map (patW (ddp notSp [] ws))
theorem mkR_ren {ρ : Str → Str} {p : Sk × Sk} (R : RenOK ρ (opens p)) (h1 : NS vP vR p.1) (h2 : NS vP vR p.2) : mkR (ren ρ p) = (mkR p).map (mkOf ρ) := by
  have hz : ∀ z ∈ mkR p, isOpn z = true → z ∈ opens p := fun z hz ho => ddp_mem _ _ _ _ hz ho
  have hρ : ∀ z ∈ mkR p, isOpn z = true → ρ z ≠ "" := fun z h ho => opn_ne (ren_opn R (hz z h ho) ho)
  show mkS (fS (renK ρ) (renS ρ) p.1) ++ ("--" : Str) :: mkS (fS (renK ρ) (renS ρ) p.2) = (mkS p.1 ++ ("--" : Str) :: mkS p.2).map (mkOf ρ)
  have e3 : mkOf ρ "--" = "--" := by unfold mkOf; rw [if_neg (by decide +kernel)]
  rw [mkS_ren ρ (mkR p) hρ p.1 h1 fun z h => List.mem_append_left _ h, mkS_ren ρ (mkR p) hρ p.2 h2 fun z h => List.mem_append_right _ (List.mem_cons_of_mem _ h), List.map_append, List.map_cons, e3]
theorem pat_eq {p : Sk × Sk} (h1 : NS vP vR p.1) (h2 : NS vP vR p.2) : pat (mkR p) = (mkR p).map (patW (opens p)) := by
  unfold pat
  rw [opens_sp h1 h2]
theorem ren_vNS {ρ : Str → Str} {p : Sk × Sk} (h1 : NS vP vR p.1) (h2 : NS vP vR p.2) (R : RenOK ρ (opens p)) (hl : ∀ z ∈ opens p, (TL.tl (ρ z)).length ≤ 1000) : NS vP vR (ren ρ p).1 ∧ NS vP vR (ren ρ p).2 := ren_NS h1 h2 R hl
/-- the pattern hangs on no names -/
theorem pat_ren {ρ : Str → Str} {p : Sk × Sk} (R : RenOK ρ (opens p)) (hl : ∀ z ∈ opens p, (TL.tl (ρ z)).length ≤ 1000) (h1 : NS vP vR p.1) (h2 : NS vP vR p.2) : pat (mkR (ren ρ p)) = pat (mkR p) := by
  obtain ⟨g1, g2⟩ := ren_NS h1 h2 R hl
  rw [pat_eq g1 g2, pat_eq h1 h2, opens_ren R h1 h2, mkR_ren R h1 h2, List.map_map]
  refine List.map_congr_left fun z hz => ?_
  show patW ((opens p).map ρ) (mkOf ρ z) = patW (opens p) z
  by_cases ho : isOpn z = true
  · have hm : z ∈ opens p := ddp_mem _ _ _ _ hz ho
    have e : mkOf ρ z = ρ z := by unfold mkOf; rw [if_pos ho]
    have es : smB (ρ z) = smB z := by
      rcases opn_cases ho with a | a
      · rw [a, R.sm z hm a]
      · rw [not_sm a, not_sm (R.gt z hm a)]
    rw [e]
    unfold patW
    rw [if_pos (List.mem_map_of_mem hm), if_pos hm, es, idx_map R.inj (fun _ h => h) hm]
  · have e : mkOf ρ z = z := by unfold mkOf; rw [if_neg ho]
    have n1 : z ∉ opens p := fun h => ho (opens_opn z h)
    have n2 : z ∉ (opens p).map ρ := fun h => by
      obtain ⟨y, hy, rfl⟩ := List.mem_map.mp h
      exact ho (ren_opn R hy (opens_opn y hy))
    rw [e]
    unfold patW
    rw [if_neg n1, if_neg n2]
theorem pat_told {p : Sk × Sk} (h1 : NS vP vR p.1) (h2 : NS vP vR p.2) (ol : (opens p).length ≤ 1000) : pat (mkR (told p)) = pat (mkR p) := by
  rw [told_eq h1 h2]
  exact pat_ren rhoT_ok (rhoT_len ol) h1 h2
/-! the other way: the told marks out of the pattern -/
noncomputable def cntB (L : List DV) (b : Int) (n : Nat) : Nat := ((List.range n).filter fun j => decide (DV.tup [.int b, .int (j : Nat)] ∈ L)).length
noncomputable def unpat (L : List DV) : DV → Str
  | .tup [.int b, .int i] => if b = 1 then letd azs (cntB L 1 i.toNat) else letd AZs (cntB L 0 i.toNat)
  | .str z => z
  | _ => ""
theorem idx_filter {P : Str → Bool} : ∀ {os : List Str} {z : Str}, os.Nodup → z ∈ os → P z = true → (os.filter P).idxOf z = ((os.take (os.idxOf z)).filter P).length
  | y :: r, z, hn, hz, hp => by
    rw [List.nodup_cons] at hn
    by_cases e : y = z
    · subst e
      rw [List.filter_cons, if_pos hp, List.idxOf_cons_self, List.idxOf_cons_self]; rfl
    · have hz' : z ∈ r := by
        rcases List.mem_cons.mp hz with h | h
        · exact absurd h.symm e
        · exact h
      have ih := idx_filter (P := P) hn.2 hz' hp
      have e1 : (y :: r).idxOf z = r.idxOf z + 1 := by rw [List.idxOf_cons, beq_eq_false_iff_ne.mpr e]; rfl
      rw [e1, List.take_succ_cons, List.filter_cons, List.filter_cons]
      by_cases hy : P y = true
      · rw [if_pos hy, if_pos hy, List.idxOf_cons, beq_eq_false_iff_ne.mpr e, List.length_cons, ← ih]; rfl
      · rw [if_neg hy, if_neg hy, ih]
theorem cnt_take {L : List DV} {b : Int} {P : Str → Bool} {os : List Str} (h : ∀ j (hj : j < os.length), (DV.tup [.int b, .int (j : Nat)] ∈ L ↔ P os[j] = true)) : ∀ n, n ≤ os.length → cntB L b n = ((os.take n).filter P).length
  | 0, _ => rfl
  | n + 1, hn => by
    have ih := cnt_take h n (by omega)
    unfold cntB at *
    rw [List.range_succ, List.filter_append, List.length_append, ih, List.take_add_one, List.getElem?_eq_getElem (by omega)]
    show _ = ((os.take n ++ [os[n]]).filter P).length
    rw [List.filter_append, List.length_append]
    have := h n (by omega)
    by_cases hp : P os[n] = true
    · rw [List.filter_cons, List.filter_cons, if_pos (decide_eq_true (this.mpr hp)), if_pos hp]; rfl
    · rw [List.filter_cons, List.filter_cons, if_neg (fun z => hp (this.mp (of_decide_eq_true z))), if_neg hp]; rfl
theorem in_pat {ws os : List Str} (hn : os.Nodup) (hs : ∀ z ∈ os, z ∈ ws) (b : Int) {j : Nat} (hj : j < os.length) : (DV.tup [.int b, .int (j : Nat)] ∈ ws.map (patW os)) ↔ (if smB os[j] = true then (1 : Int) else 0) = b := by
  constructor
  · intro h
    obtain ⟨w, hw, e⟩ := List.mem_map.mp h
    unfold patW at e
    by_cases hm : w ∈ os
    · rw [if_pos hm] at e
      injection e with e
      injection e with e1 e2
      injection e1 with e1
      injection e2 with e2 _
      injection e2 with e2
      have e3 : os.idxOf w = j := by omega
      have e4 := List.getElem_idxOf (List.idxOf_lt_length_of_mem hm)
      have : os[j] = w := by simp only [← e3]; exact e4
      rw [this]; exact e1
    · rw [if_neg hm] at e; cases e
  · intro h
    refine List.mem_map.mpr ⟨os[j], hs _ (List.getElem_mem hj), ?_⟩
    unfold patW
    have : os.idxOf os[j] = j := (List.getElem_inj hn).mp (List.getElem_idxOf (List.idxOf_lt_length_of_mem (List.getElem_mem hj)))
    rw [if_pos (List.getElem_mem hj), h, this]
theorem marks_told {p : Sk × Sk} (h1 : NS vP vR p.1) (h2 : NS vP vR p.2) : mkR (told p) = (pat (mkR p)).map (unpat (pat (mkR p))) := by
  have nd : (opens p).Nodup := ddp_nodup _ _ _ List.nodup_nil
  have hs : ∀ z ∈ opens p, z ∈ mkR p := fun z h => by
    rcases ddp_of _ _ _ _ h with h | h
    · exact nomatch h
    · exact h.1
  rw [told_eq h1 h2, mkR_ren rhoT_ok h1 h2, pat_eq h1 h2, List.map_map]
  refine List.map_congr_left fun z hz => ?_
  show mkOf (rhoT p) z = unpat _ (patW (opens p) z)
  by_cases ho : isOpn z = true
  · have hm : z ∈ opens p := ddp_mem _ _ _ _ hz ho
    have il := List.idxOf_lt_length_of_mem hm
    have e : mkOf (rhoT p) z = rhoT p z := by unfold mkOf; rw [if_pos ho]
    have e2 : patW (opens p) z = .tup [.int (if smB z = true then 1 else 0), .int ((opens p).idxOf z : Nat)] := by unfold patW; rw [if_pos hm]
    rw [e, e2]
    rcases opn_cases ho with a | a
    · rw [a, if_pos rfl]
      show _ = if (1 : Int) = 1 then letd azs (cntB ((mkR p).map (patW (opens p))) 1 (((opens p).idxOf z : Nat) : Int).toNat) else letd AZs (cntB ((mkR p).map (patW (opens p))) 0 (((opens p).idxOf z : Nat) : Int).toNat)
      rw [if_pos rfl, Int.toNat_natCast, cnt_take (P := smB) (os := opens p) (fun j hj => by
        rw [in_pat nd hs 1 hj]
        cases smB (opens p)[j]
        · exact ⟨(fun h => by cases h), (fun h => by cases h)⟩
        · exact ⟨fun _ => rfl, fun _ => rfl⟩) _ (by omega), ← idx_filter nd hm a]
      unfold rhoT
      rw [if_pos a]; rfl
    · have b := not_sm a
      rw [b, if_neg Bool.false_ne_true]
      show _ = if (0 : Int) = 1 then letd azs (cntB ((mkR p).map (patW (opens p))) 1 (((opens p).idxOf z : Nat) : Int).toNat) else letd AZs (cntB ((mkR p).map (patW (opens p))) 0 (((opens p).idxOf z : Nat) : Int).toNat)
      rw [if_neg (by decide), Int.toNat_natCast, cnt_take (P := gtB) (os := opens p) (fun j hj => by
        rw [in_pat nd hs 0 hj]
        rcases opn_cases (opens_opn _ (List.getElem_mem hj)) with c | c
        · rw [c, sm_gt c]; exact ⟨(fun h => by cases h), (fun h => by cases h)⟩
        · rw [c, not_sm c]; exact ⟨fun _ => rfl, fun _ => rfl⟩) _ (by omega), ← idx_filter nd hm a]
      unfold rhoT
      rw [if_neg (by rw [b]; exact Bool.false_ne_true)]; rfl
  · have e : mkOf (rhoT p) z = z := by unfold mkOf; rw [if_neg ho]
    have n1 : z ∉ opens p := fun h => ho (opens_opn z h)
    have e2 : patW (opens p) z = .str z := by unfold patW; rw [if_neg n1]
    rw [e, e2]; rfl
/-- the same but for names -/
theorem same_iff {p q : Sk × Sk} (h1 : NS vP vR p.1) (h2 : NS vP vR p.2) (g1 : NS vP vR q.1) (g2 : NS vP vR q.2) (lp : (opens p).length ≤ 1000) (lq : (opens q).length ≤ 1000) : mkR (told p) = mkR (told q) ↔ pat (mkR p) = pat (mkR q) := by
  constructor
  · intro h
    rw [← pat_told h1 h2 lp, ← pat_told g1 g2 lq, h]
  · intro h
    rw [marks_told h1 h2, marks_told g1 g2, h]
theorem pat_plain (os : List Str) : ∀ {ws : List Str}, (∀ z ∈ ws, okS z) → Cmps (ws.map (patW os)) ∧ plains (ws.map (patW os)) = true
  | [], _ => ⟨⟨rfl, rfl, Nat.zero_le _⟩, rfl⟩
  | z :: r, h => by
    obtain ⟨c, p⟩ := pat_plain os (ws := r) fun y hy => h y (List.mem_cons_of_mem _ hy)
    have hd : pure_ (patW os z) = true ∧ txB (patW os z) = true ∧ dpt (patW os z) ≤ 1 ∧ plain (patW os z) = true := by
      unfold patW
      split
      · exact ⟨rfl, rfl, (show 1 + max 0 (max 0 0) ≤ 1 from Nat.le_refl _), rfl⟩
      · exact ⟨rfl, h z (List.mem_cons_self ..), Nat.zero_le _, rfl⟩
    obtain ⟨a, b, d, e⟩ := hd
    refine ⟨⟨by show (pure_ _ && pures _) = true; rw [a, c.pu]; rfl, by show (txB _ && txBs _) = true; rw [b, c.tx]; rfl, ?_⟩, by show (plain _ && plains _) = true; rw [e, p]; rfl⟩
    have := c.dp
    show max _ (dpts _) ≤ 60
    omega
end DD
/-! tables of fillings that grow by puts; how much a filling adds -/
namespace DD
open PySem PySem.W L2 SX Cm
theorem val_nil (k : Key) : valD [] k = none := rfl
theorem val_cons (a : Key × DV) (r : List (Key × DV)) (k : Key) : valD (a :: r) k = if a.1 = k then some a.2 else valD r k := by
  unfold valD
  rw [List.find?_cons]
  by_cases e : a.1 = k
  · rw [if_pos e]
    have e' : decide (a.1 = k) = true := decide_eq_true e
    rw [e']; rfl
  · rw [if_neg e]
    have e' : decide (a.1 = k) = false := decide_eq_false e
    rw [e']
theorem val_none_any {k : Key} : ∀ {kvs : List (Key × DV)}, (kvs.any fun kv => decide (kv.1 = k)) = false → valD kvs k = none
  | [], _ => rfl
  | a :: r, h => by
    rw [List.any_cons, Bool.or_eq_false_iff] at h
    rw [val_cons, if_neg (of_decide_eq_false h.1), val_none_any h.2]
theorem val_map (k : Key) (v : DV) (k' : Key) : ∀ kvs : List (Key × DV), valD (kvs.map fun kv => if kv.1 = k then (kv.1, v) else kv) k' = if k' = k then (if (kvs.any fun kv => decide (kv.1 = k)) = true then some v else none) else valD kvs k'
  | [] => by
    by_cases e : k' = k
    · rw [if_pos e]; rfl
    · rw [if_neg e]; rfl
  | a :: r => by
    rw [List.map_cons, val_cons, val_map k v k' r, List.any_cons, val_cons]
    by_cases ea : a.1 = k
    · rw [if_pos ea]
      show (if a.1 = k' then some v else _) = _
      by_cases e : k' = k
      · rw [if_pos (ea.trans e.symm), if_pos e, decide_eq_true ea]; rfl
      · have : a.1 ≠ k' := fun h => e (h.symm.trans ea)
        rw [if_neg this, if_neg e, if_neg e, if_neg this]
    · rw [if_neg ea, decide_eq_false ea, Bool.false_or]
      by_cases e : k' = k
      · have : a.1 ≠ k' := fun h => ea (h.trans e)
        rw [if_neg this, if_pos e, if_pos e]
      · rw [if_neg e, if_neg e]
theorem val_put (kvs : List (Key × DV)) (k : Key) (v : DV) (k' : Key) : valD (putD kvs k v) k' = if k' = k then some v else valD kvs k' := by
  unfold putD
  by_cases h : (kvs.any fun kv => decide (kv.1 = k)) = true
  · rw [if_pos h, val_map, if_pos h]
  · rw [if_neg h]
    have h0 : (kvs.any fun kv => decide (kv.1 = k)) = false := by
      cases e : (kvs.any fun kv => decide (kv.1 = k)) with
      | true => exact absurd e h
      | false => rfl
    have n := val_none_any h0
    clear h h0
    induction kvs with
    | nil =>
      show valD [(k, v)] k' = _
      rw [val_cons, val_nil]
      by_cases e : k' = k
      · rw [if_pos e, if_pos e.symm]
      · rw [if_neg e, if_neg (Ne.symm e)]
    | cons a r ih =>
      rw [val_cons] at n
      by_cases ea : a.1 = k
      · rw [if_pos ea] at n; cases n
      · rw [if_neg ea] at n
        rw [List.cons_append, val_cons, ih n, val_cons]
        by_cases e : k' = k
        · have : a.1 ≠ k' := fun h => ea (h.trans e)
          rw [if_neg this, if_pos e, if_pos e]
        · rw [if_neg e, if_neg e]
/-- at most so many parts, so deep -/
structure GdK (m e : Nat) (k : Kd) : Prop where
  sz : szK k ≤ m
  dp : dpK k ≤ e
  nm : NK vP vR k
structure GdS (m e : Nat) (s : Sk) : Prop where
  sz : szS s ≤ m
  dp : dpS s ≤ e
  nm : NS vP vR s
/-- a table whose entries are so -/
def GTab (m e : Nat) (kvs : List (Key × DV)) : Prop := ∃ f g, TabOK kvs vP vR f g ∧ (∀ z, vP z → GdK m e (f z)) ∧ ∀ r, vR r → GdS m e (g r)
theorem GTab.nil {m e : Nat} (hm : 1 ≤ m) : GTab m e [] := ⟨.opn, fun r => .mk r [], ⟨fun z _ => rfl, fun r _ => rfl, fun r _ => Nat.zero_le _⟩, fun z h => ⟨hm, Nat.zero_le _, h⟩, fun r h => ⟨hm, Nat.zero_le _, h, trivial⟩⟩
theorem vP_ne {z r : Str} (h : vP z) (g : vR r) : r ≠ z := fun e => by
  subst e
  rcases g with g | ⟨g, _⟩
  · exact opn_ne (sm_opn h.1) g
  · have := sm_gt h.1
    rw [g] at this; cases this
theorem GTab.putK {m e : Nat} {kvs : List (Key × DV)} {z : Str} {k : Kd} (T : GTab m e kvs) (hz : vP z) (hk : GdK m e k) : GTab m e (putD kvs (keyD z) (eK k)) := by
  obtain ⟨f, g, T, hf, hg⟩ := T
  refine ⟨fun y => if y = z then k else f y, g, ⟨fun y hy => ?_, fun r hr => ?_, T.w⟩, fun y hy => ?_, hg⟩
  · rw [val_put]
    by_cases e : y = z
    · rw [if_pos (by rw [e]), if_pos e]; rfl
    · rw [if_neg (fun h => e (keyD_inj h)), if_neg e]; exact T.k y hy
  · rw [val_put, if_neg (fun h => vP_ne hz hr (keyD_inj h))]; exact T.s r hr
  · show GdK m e (if y = z then k else f y)
    by_cases e : y = z
    · rw [if_pos e]; exact hk
    · rw [if_neg e]; exact hf y hy
theorem GTab.putS {m e : Nat} {kvs : List (Key × DV)} {z : Str} {s : Sk} (T : GTab m e kvs) (hz : gtB z = true) (hk : GdS m e s) (hm : m ≤ 1000) : GTab m e (putD kvs (keyD z) (eS s)) := by
  obtain ⟨f, g, T, hf, hg⟩ := T
  have gs : ∀ y, vR y → GdS m e (if y = z then s else g y) := fun y hy => by
    by_cases e : y = z
    · rw [if_pos e]; exact hk
    · rw [if_neg e]; exact hg y hy
  refine ⟨f, fun y => if y = z then s else g y, ⟨fun y hy => ?_, fun r hr => ?_, fun r hr => ?_⟩, hf, gs⟩
  · have : y ≠ z := fun h => by
      have := sm_gt hy.1
      rw [h, hz] at this; cases this
    rw [val_put, if_neg (fun h => this (keyD_inj h))]; exact T.k y hy
  · rw [val_put]
    by_cases e : r = z
    · rw [if_pos (by rw [e]), if_pos e]; rfl
    · rw [if_neg (fun h => e (keyD_inj h)), if_neg e]; exact T.s r hr
  · have h1 := (gs r hr).sz
    generalize (if r = z then s else g r) = s' at h1
    cases s' with
    | mk r' ks =>
      have := szKs_len ks
      have h2 : 1 + szKs ks ≤ m := h1
      show ks.length ≤ 1000
      omega
/-! what a filling makes -/
section
variable {m e : Nat} {f : Str → Kd} {g : Str → Sk}
mutual
theorem fK_gd (hm : 1 ≤ m) (hf : ∀ z, vP z → GdK m e (f z)) (hg : ∀ r, vR r → GdS m e (g r)) : ∀ k, NK vP vR k → GdK (m * szK k) (dpK k + e) (fK f g k)
  | .num, _ => ⟨by show 1 ≤ m * 1; omega, Nat.zero_le _, trivial⟩
  | .opn z, h => ⟨by have := (hf z h).sz; show szK (f z) ≤ m * 1; omega, by have := (hf z h).dp; show dpK (f z) ≤ 0 + e; omega, (hf z h).nm⟩
  | .lst k, h => by
    have a := fK_gd hm hf hg k h
    have := a.sz
    have := a.dp
    exact ⟨by show 1 + szK _ ≤ m * (1 + szK k); rw [Nat.mul_add]; omega, by show 1 + dpK _ ≤ 1 + dpK k + e; omega, a.nm⟩
  | .row s t, h => by
    have a := fS_gd hm hf hg s h.1
    have b := fS_gd hm hf hg t h.2
    have := a.sz
    have := a.dp
    have := b.sz
    have := b.dp
    exact ⟨by show 1 + szS _ + szS _ ≤ m * (1 + szS s + szS t); rw [Nat.mul_add, Nat.mul_add]; omega, by show 1 + max (dpS _) (dpS _) ≤ 1 + max (dpS s) (dpS t) + e; omega, a.nm, b.nm⟩
theorem fS_gd (hm : 1 ≤ m) (hf : ∀ z, vP z → GdK m e (f z)) (hg : ∀ r, vR r → GdS m e (g r)) : ∀ s, NS vP vR s → GdS (m * szS s) (dpS s + e) (fS f g s)
  | .mk r ks, h => by
    obtain ⟨a1, a2, a3⟩ := fKs_gd hm hf hg ks h.2
    have b := hg r h.1
    have e1 : fS f g (.mk r ks) = .mk (g r).rest ((g r).ks ++ fKs f g ks) := rfl
    rw [e1]
    generalize g r = gr at b
    cases gr with
    | mk r' ks' =>
      have b1 : 1 + szKs ks' ≤ m := b.sz
      have b2 : dpKs ks' ≤ e := b.dp
      refine ⟨?_, ?_, b.nm.1, (NKs_app _ _).mpr ⟨b.nm.2, a3⟩⟩
      · show 1 + szKs (ks' ++ fKs f g ks) ≤ m * (1 + szKs ks)
        rw [szKs_app, Nat.mul_add]; omega
      · show dpKs (ks' ++ fKs f g ks) ≤ dpKs ks + e
        rw [dpKs_app]; omega
theorem fKs_gd (hm : 1 ≤ m) (hf : ∀ z, vP z → GdK m e (f z)) (hg : ∀ r, vR r → GdS m e (g r)) : ∀ ks, NKs vP vR ks → szKs (fKs f g ks) ≤ m * szKs ks ∧ dpKs (fKs f g ks) ≤ dpKs ks + e ∧ NKs vP vR (fKs f g ks)
  | [], _ => ⟨Nat.zero_le _, Nat.zero_le _, trivial⟩
  | k :: r, h => by
    have a := fK_gd hm hf hg k h.1
    obtain ⟨b1, b2, b3⟩ := fKs_gd hm hf hg r h.2
    have := a.sz
    have := a.dp
    exact ⟨by show szK _ + szKs _ ≤ m * (szK k + szKs r); rw [Nat.mul_add]; omega, by show max (dpK _) (dpKs _) ≤ max (dpK k) (dpKs r) + e; omega, a.nm, b3⟩
end
end
/-! how many open names -/
mutual
theorem opK_len : ∀ k, ((mkK k).filter isOpn).length ≤ szK k
  | .num => by show ((["number"] : List Str).filter isOpn).length ≤ 1; exact Nat.le_trans (List.length_filter_le _ _) (Nat.le_refl 1)
  | .opn z => Nat.le_trans (List.length_filter_le _ _) (Nat.le_refl 1)
  | .lst k => by
    have := opK_len k
    have e0 : ((["}"] : List Str).filter isOpn).length = 0 := by decide +kernel
    show ((("{" : Str) :: (mkK k ++ [("}" : Str)])).filter isOpn).length ≤ 1 + szK k
    rw [List.filter_cons, if_neg (by decide +kernel), List.filter_append, List.length_append, e0]; omega
  | .row a b => by
    have := opS_len a
    have := opS_len b
    have e0 : ((["]"] : List Str).filter isOpn).length = 0 := by decide +kernel
    show ((("[" : Str) :: (mkS a ++ ("--" : Str) :: (mkS b ++ [("]" : Str)]))).filter isOpn).length ≤ 1 + szS a + szS b
    rw [List.filter_cons, if_neg (by decide +kernel), List.filter_append, List.length_append, List.filter_cons, if_neg (by decide +kernel), List.filter_append, List.length_append, e0]; omega
theorem opS_len : ∀ s, ((mkS s).filter isOpn).length ≤ szS s
  | .mk r ks => by
    have := opKs_len ks
    have h1 : ((if r = ("" : Str) then [] else [r] : List Str).filter isOpn).length ≤ 1 := by
      refine Nat.le_trans (List.length_filter_le _ _) ?_
      split
      · exact Nat.zero_le _
      · exact Nat.le_refl 1
    show (((if r = ("" : Str) then [] else [r]) ++ mkKs ks).filter isOpn).length ≤ 1 + szKs ks
    rw [List.filter_append, List.length_append]; omega
theorem opKs_len : ∀ ks, ((mkKs ks).filter isOpn).length ≤ szKs ks
  | [] => Nat.zero_le _
  | k :: r => by
    have := opK_len k
    have := opKs_len r
    show ((mkK k ++ mkKs r).filter isOpn).length ≤ szK k + szKs r
    rw [List.filter_append, List.length_append]; omega
end
theorem opens_len (p : Sk × Sk) : (opens p).length ≤ szS p.1 + szS p.2 := by
  refine Nat.le_trans (nodup_le (L := (mkR p).filter isOpn) (ddp_nodup _ _ _ List.nodup_nil) fun z hz => ?_) ?_
  · rcases ddp_of _ _ _ _ hz with h | h
    · exact nomatch h
    · exact List.mem_filter.mpr h
  · have := opS_len p.1
    have := opS_len p.2
    show ((mkS p.1 ++ ("--" : Str) :: mkS p.2).filter isOpn).length ≤ _
    rw [List.filter_append, List.length_append, List.filter_cons, if_neg (by decide +kernel)]; omega
end DD
/-! laying one kind on another one: what is found for each open name -/
namespace DD
open PySem PySem.W L2 SX Cm
abbrev Part := Kd ⊕ Sk
noncomputable instance : DecidableEq Part := fun a b => Classical.propDecidable (a = b)
def eP : Part → DV
  | .inl k => eK k
  | .inr s => eS s
abbrev Fnd := List (Str × Part)
def look : Fnd → Str → Option Part
  | [], _ => none
  | c :: r, z => if c.1 = z then some c.2 else look r z
def eN (F : Fnd) : List (Key × DV) := F.map fun c => (keyD c.1, eP c.2)
theorem val_eN : ∀ (F : Fnd) (z : Str), valD (eN F) (keyD z) = (look F z).map eP
  | [], z => rfl
  | c :: r, z => by
    show valD ((keyD c.1, eP c.2) :: eN r) (keyD z) = _
    rw [val_cons, val_eN r z]
    show _ = Option.map eP (if c.1 = z then some c.2 else look r z)
    by_cases e : c.1 = z
    · rw [if_pos e, if_pos (by rw [e])]; rfl
    · rw [if_neg e, if_neg (fun h => e (keyD_inj h))]
theorem look_app : ∀ (F : Fnd) (c : Str × Part) (z : Str), look (F ++ [c]) z = match look F z with | some p => some p | none => if c.1 = z then some c.2 else none
  | [], c, z => rfl
  | a :: r, c, z => by
    show (if a.1 = z then some a.2 else look (r ++ [c]) z) = _
    rw [look_app r c z]
    show _ = match (if a.1 = z then some a.2 else look r z) with | some p => some p | none => if c.1 = z then some c.2 else none
    by_cases e : a.1 = z
    · rw [if_pos e, if_pos e]
    · rw [if_neg e, if_neg e]
theorem look_mem : ∀ {F : Fnd} {z : Str} {p : Part}, look F z = some p → (z, p) ∈ F
  | c :: r, z, p, h => by
    unfold look at h
    by_cases e : c.1 = z
    · rw [if_pos e] at h
      cases h
      rw [← e]; exact List.mem_cons_self ..
    · rw [if_neg e] at h
      exact List.mem_cons_of_mem _ (look_mem h)
theorem look_none : ∀ {F : Fnd} {z : Str}, look F z = none ↔ z ∉ F.map (·.1)
  | [], z => ⟨(fun _ h => nomatch h), fun _ => rfl⟩
  | c :: r, z => by
    unfold look
    rw [List.map_cons, List.mem_cons]
    by_cases e : c.1 = z
    · rw [if_pos e]; exact ⟨(fun h => nomatch h), fun h => absurd (Or.inl e.symm) h⟩
    · rw [if_neg e, look_none]
      exact ⟨fun h g => g.elim (fun q => e q.symm) h, fun h g => h (.inr g)⟩
theorem look_nodup : ∀ {F : Fnd} {c : Str × Part}, (F.map (·.1)).Nodup → c ∈ F → look F c.1 = some c.2
  | a :: r, c, nd, h => by
    rw [List.map_cons, List.nodup_cons] at nd
    unfold look
    rcases List.mem_cons.mp h with rfl | h
    · rw [if_pos rfl]
    · have : a.1 ≠ c.1 := fun e => nd.1 (by rw [e]; exact List.mem_map_of_mem h)
      rw [if_neg this, look_nodup nd.2 h]
theorem put_eN_new {F : Fnd} {z : Str} {p : Part} (h : look F z = none) : putD (eN F) (keyD z) (eP p) = eN (F ++ [(z, p)]) := by
  unfold putD
  have : ((eN F).any fun kv => decide (kv.1 = keyD z)) = false := by
    rw [List.any_eq_false]
    intro x hx
    obtain ⟨c, hc, rfl⟩ := List.mem_map.mp hx
    refine fun q => look_none.mp h ?_
    rw [← keyD_inj (of_decide_eq_true q)]
    exact List.mem_map_of_mem hc
  rw [this, if_neg Bool.false_ne_true]
  unfold eN
  rw [List.map_append]; rfl
theorem put_eN_old {F : Fnd} {z : Str} {p : Part} (nd : (F.map (·.1)).Nodup) (h : look F z = some p) : putD (eN F) (keyD z) (eP p) = eN F := by
  unfold putD
  have : ((eN F).any fun kv => decide (kv.1 = keyD z)) = true := by
    rw [List.any_eq_true]
    exact ⟨_, List.mem_map_of_mem (look_mem h), decide_eq_true rfl⟩
  rw [this, if_pos rfl]
  unfold eN
  rw [List.map_map]
  refine List.map_congr_left fun c hc => ?_
  show (if keyD c.1 = keyD z then (keyD c.1, eP p) else (keyD c.1, eP c.2)) = (keyD c.1, eP c.2)
  by_cases e : keyD c.1 = keyD z
  · rw [if_pos e]
    have := look_nodup nd hc
    rw [keyD_inj e, h] at this
    rw [Option.some.inj this]
  · rw [if_neg e]
/-! the steps -/
inductive WI where
  | k (a b : Kd)
  | s (a b : Sk)
def eWp : WI → DV
  | .k a b => .tup [.str "kind", eK a, eK b]
  | .s a b => .tup [.str "stack", eS a, eS b]
def eWl : WI → DV
  | .k a b => .tup [.int 0, eK a, eK b]
  | .s a b => .tup [.int 1, eS a, eS b]
def wtW : WI → Nat
  | .k a _ => szK a
  | .s a _ => szS a
def wtWs : List WI → Nat
  | [] => 0
  | t :: r => wtW t + wtWs r
theorem wtWs_app : ∀ a b, wtWs (a ++ b) = wtWs a + wtWs b
  | [], b => (Nat.zero_add _).symm
  | t :: r, b => by show wtW t + wtWs (r ++ b) = wtW t + wtWs r + wtWs b; rw [wtWs_app r b]; omega
theorem wtWs_rev : ∀ a, wtWs a.reverse = wtWs a
  | [] => rfl
  | t :: r => by rw [List.reverse_cons, wtWs_app, wtWs_rev r]; show _ + (wtW t + 0) = wtW t + _; omega
theorem wtW_pos (w : WI) : 1 ≤ wtW w := by
  cases w with
  | k a b => exact szK_pos a
  | s a b => exact szS_pos a
theorem wtWs_len : ∀ l, l.length ≤ wtWs l
  | [] => Nat.le_refl 0
  | t :: r => by have := wtW_pos t; have := wtWs_len r; show r.length + 1 ≤ wtW t + wtWs r; omega
def zk (ks ks' : List Kd) : List WI := List.zipWith WI.k ks ks'
theorem zk_wt : ∀ ks ks', wtWs (zk ks ks') ≤ szKs ks
  | [], _ => Nat.zero_le _
  | _ :: _, [] => Nat.zero_le _
  | k :: r, k' :: r' => by have := zk_wt r r'; show szK k + wtWs (zk r r') ≤ szK k + szKs r; omega
def step : WI → Option (List WI × Option (Str × Part))
  | .s (.mk r ks) (.mk r' ks') =>
    if ks'.length < ks.length then none
    else if r = "" then (if r' = "" ∧ ks'.length = ks.length then some (zk ks (ks'.drop (ks'.length - ks.length)), none) else none)
    else some (zk ks (ks'.drop (ks'.length - ks.length)), some (r, .inr (.mk r' (ks'.take (ks'.length - ks.length)))))
  | .k (.opn z) b => some ([], some (z, .inl b))
  | .k .num .num => some ([], none)
  | .k (.lst a) (.lst b) => some ([.k a b], none)
  | .k (.row a b) (.row c d) => some ([.s a c, .s b d], none)
  | .k _ _ => none
theorem step_wt {w : WI} {x : List WI × Option (Str × Part)} (h : step w = some x) : wtWs x.1 < wtW w := by
  unfold step at h
  split at h
  · rename_i r ks r' ks'
    have := zk_wt ks (ks'.drop (ks'.length - ks.length))
    split at h
    · cases h
    · split at h
      · split at h
        · cases h; show wtWs (zk ks (ks'.drop (ks'.length - ks.length))) < 1 + szKs ks; omega
        · cases h
      · cases h; show wtWs (zk ks (ks'.drop (ks'.length - ks.length))) < 1 + szKs ks; omega
  · cases h; exact Nat.lt_succ_self 0
  · cases h; exact Nat.lt_succ_self 0
  · cases h; rename_i a b; show szK a + 0 < 1 + szK a; omega
  · cases h; rename_i a b c d; show szS a + (szS b + 0) < 1 + szS a + szS b; omega
  · cases h
noncomputable def putFn (F : Fnd) (c : Str × Part) : Option Fnd := match look F c.1 with
  | none => some (F ++ [c])
  | some p => if p = c.2 then some F else none
noncomputable def putO (F : Fnd) : Option (Str × Part) → Option Fnd
  | none => some F
  | some c => putFn F c
noncomputable def run : Nat → List WI → Fnd → Option Fnd
  | _, [], F => some F
  | 0, _ :: _, _ => none
  | n + 1, w :: l, F => (step w).bind fun x => (putO F x.2).bind fun F' => run n (x.1.reverse ++ l) F'
theorem run_any : ∀ (n m : Nat) (l : List WI) (F : Fnd), wtWs l ≤ n → wtWs l ≤ m → run n l F = run m l F
  | n, m, [], F, _, _ => by cases n <;> cases m <;> rfl
  | 0, _, w :: l, F, h, _ => absurd h (by have := wtW_pos w; show ¬ wtW w + _ ≤ 0; omega)
  | _, 0, w :: l, F, _, h => absurd h (by have := wtW_pos w; show ¬ wtW w + _ ≤ 0; omega)
  | n + 1, m + 1, w :: l, F, h1, h2 => by
    show ((step w).bind fun x => (putO F x.2).bind fun F' => run n (x.1.reverse ++ l) F') = (step w).bind fun x => (putO F x.2).bind fun F' => run m (x.1.reverse ++ l) F'
    cases hs : step w with
    | none => rfl
    | some x =>
      have lt := step_wt hs
      show ((putO F x.2).bind fun F' => run n (x.1.reverse ++ l) F') = (putO F x.2).bind fun F' => run m (x.1.reverse ++ l) F'
      cases putO F x.2 with
      | none => rfl
      | some F' =>
        have e : wtWs (x.1.reverse ++ l) < wtWs (w :: l) := by rw [wtWs_app, wtWs_rev]; show _ < wtW w + wtWs l; omega
        exact run_any n m _ F' (by omega) (by omega)
noncomputable def runW (l : List WI) (F : Fnd) : Option Fnd := run (wtWs l) l F
theorem runW_nil (F : Fnd) : runW [] F = some F := rfl
theorem runW_cons (w : WI) (l : List WI) (F : Fnd) : runW (w :: l) F = (step w).bind fun x => (putO F x.2).bind fun F' => runW (x.1.reverse ++ l) F' := by
  have p := wtW_pos w
  have e : wtWs (w :: l) = (wtW w + wtWs l - 1) + 1 := by show wtW w + wtWs l = _; omega
  unfold runW
  rw [e]
  show ((step w).bind fun x => (putO F x.2).bind fun F' => run (wtW w + wtWs l - 1) (x.1.reverse ++ l) F') = _
  cases hs : step w with
  | none => rfl
  | some x =>
    have lt := step_wt hs
    show ((putO F x.2).bind fun F' => run _ (x.1.reverse ++ l) F') = (putO F x.2).bind fun F' => run _ (x.1.reverse ++ l) F'
    cases putO F x.2 with
    | none => rfl
    | some F' =>
      refine run_any _ _ _ F' ?_ (Nat.le_refl _)
      rw [wtWs_app, wtWs_rev]; omega
/-! what is found fills the one to the other -/
def fF (F : Fnd) (z : Str) : Kd := match look F z with
  | some (.inl k) => k
  | _ => .opn z
def gF (F : Fnd) (r : Str) : Sk := if r = "" then .mk "" [] else match look F r with
  | some (.inr s) => s
  | _ => .mk r []
def holdsW (f : Str → Kd) (g : Str → Sk) : WI → Prop
  | .k a b => fK f g a = b
  | .s a b => fS f g a = b
def Grow (F F' : Fnd) : Prop := ∀ z p, look F z = some p → look F' z = some p
theorem putFn_grow {F F' : Fnd} {c : Str × Part} (h : putFn F c = some F') : Grow F F' ∧ look F' c.1 = some c.2 := by
  unfold putFn at h
  split at h
  · rename_i hn
    cases h
    refine ⟨fun z p hp => ?_, ?_⟩
    · rw [look_app, hp]
    · rw [look_app, hn]; exact if_pos rfl
  · rename_i p hp
    split at h
    · rename_i e
      cases h
      exact ⟨fun _ _ h => h, by rw [hp, e]⟩
    · cases h
theorem putO_grow {F F' : Fnd} {o : Option (Str × Part)} (h : putO F o = some F') : Grow F F' ∧ ∀ c, o = some c → look F' c.1 = some c.2 := by
  cases o with
  | none => cases h; exact ⟨fun _ _ h => h, fun c e => nomatch e⟩
  | some c => obtain ⟨a, b⟩ := putFn_grow h; exact ⟨a, fun c' e => by cases e; exact b⟩
theorem zk_holds {f : Str → Kd} {g : Str → Sk} : ∀ {ks ks' : List Kd}, ks.length = ks'.length → (∀ w ∈ zk ks ks', holdsW f g w) → fKs f g ks = ks'
  | [], [], _, _ => rfl
  | [], _ :: _, h, _ => nomatch h
  | _ :: _, [], h, _ => nomatch h
  | k :: r, k' :: r', h, hw => by
    show fK f g k :: fKs f g r = k' :: r'
    have h1 : fK f g k = k' := hw (.k k k') (List.mem_cons_self ..)
    rw [h1, zk_holds (by simpa using h) fun w h => hw w (List.mem_cons_of_mem _ h)]
theorem holds_zk {f : Str → Kd} {g : Str → Sk} : ∀ {ks : List Kd}, ∀ w ∈ zk ks (fKs f g ks), holdsW f g w
  | k :: r, w, h => by
    have h' : w ∈ WI.k k (fK f g k) :: zk r (fKs f g r) := h
    rcases List.mem_cons.mp h' with rfl | h'
    · rfl
    · exact holds_zk w h'
theorem step_sound {w : WI} {x : List WI × Option (Str × Part)} {F : Fnd} (h : step w = some x) (hi : ∀ v ∈ x.1, holdsW (fF F) (gF F) v) (hc : ∀ c, x.2 = some c → look F c.1 = some c.2) : holdsW (fF F) (gF F) w := by
  unfold step at h
  split at h
  · rename_i r ks r' ks'
    show Sk.mk (gF F r).rest ((gF F r).ks ++ fKs (fF F) (gF F) ks) = .mk r' ks'
    split at h
    · cases h
    · rename_i hl
      have ld : ks.length = (ks'.drop (ks'.length - ks.length)).length := by rw [List.length_drop]; omega
      split at h
      · rename_i er
        split at h
        · rename_i e
          cases h
          have h2 := zk_holds ld hi
          have e0 : gF F r = .mk "" [] := by unfold gF; rw [if_pos er]
          rw [h2, e0, e.2, Nat.sub_self, List.drop_zero, e.1]; rfl
        · cases h
      · rename_i er
        cases h
        have h2 := zk_holds ld hi
        have e0 : gF F r = .mk r' (ks'.take (ks'.length - ks.length)) := by unfold gF; rw [if_neg er, hc _ rfl]
        rw [h2, e0]
        show Sk.mk r' (List.take _ ks' ++ List.drop _ ks') = _
        rw [List.take_append_drop]
  · cases h
    rename_i z b
    show fF F z = b
    unfold fF
    rw [hc _ rfl]
  · rfl
  · cases h
    rename_i a b
    have h1 : fK (fF F) (gF F) a = b := hi (.k a b) (List.mem_cons_self ..)
    show Kd.lst (fK (fF F) (gF F) a) = .lst b
    rw [h1]
  · cases h
    rename_i a b c d
    have h1 : fS (fF F) (gF F) a = c := hi (.s a c) (List.mem_cons_self ..)
    have h2 : fS (fF F) (gF F) b = d := hi (.s b d) (List.mem_cons_of_mem _ (List.mem_cons_self ..))
    show Kd.row (fS (fF F) (gF F) a) (fS (fF F) (gF F) b) = .row c d
    rw [h1, h2]
  · cases h
theorem run_sound : ∀ (n : Nat) (l : List WI) (F F' : Fnd), run n l F = some F' → Grow F F' ∧ ∀ w ∈ l, holdsW (fF F') (gF F') w
  | 0, [], F, F', h => by cases h; exact ⟨fun _ _ h => h, fun w hw => nomatch hw⟩
  | _ + 1, [], F, F', h => by cases h; exact ⟨fun _ _ h => h, fun w hw => nomatch hw⟩
  | 0, _ :: _, F, F', h => nomatch h
  | n + 1, w :: l, F, F', h => by
    have h : ((step w).bind fun x => (putO F x.2).bind fun F' => run n (x.1.reverse ++ l) F') = some F' := h
    cases hs : step w with
    | none => rw [hs] at h; cases h
    | some x =>
      rw [hs] at h
      have h : ((putO F x.2).bind fun F' => run n (x.1.reverse ++ l) F') = some F' := h
      cases hp : putO F x.2 with
      | none => rw [hp] at h; cases h
      | some F1 =>
        rw [hp] at h
        obtain ⟨g1, c1⟩ := putO_grow hp
        obtain ⟨g2, h2⟩ := run_sound n _ F1 F' h
        refine ⟨fun z p e => g2 z p (g1 z p e), fun v hv => ?_⟩
        rcases List.mem_cons.mp hv with rfl | hv
        · exact step_sound hs (fun u hu => h2 u (List.mem_append_left _ (List.mem_reverse.mpr hu))) fun c e => g2 _ _ (c1 c e)
        · exact h2 v (List.mem_append_right _ hv)
/-! where there is a filling, one is found -/
def hP (f : Str → Kd) (g : Str → Sk) (z : Str) : Part := if smB z = true then .inl (f z) else .inr (g z)
def okW : WI → Prop
  | .k a b => NK vP vR a ∧ NK vP vR b
  | .s a b => NS vP vR a ∧ NS vP vR b
theorem zk_ok : ∀ {ks ks' : List Kd}, NKs vP vR ks → NKs vP vR ks' → ∀ w ∈ zk ks ks', okW w
  | k :: r, k' :: r', h, h', w, hw => by
    have hw' : w ∈ WI.k k k' :: zk r r' := hw
    rcases List.mem_cons.mp hw' with rfl | hw'
    · exact ⟨h.1, h'.1⟩
    · exact zk_ok h.2 h'.2 w hw'
theorem NKs_mem_iff {P R : Str → Prop} : ∀ {ks : List Kd}, NKs P R ks ↔ ∀ k ∈ ks, NK P R k
  | [] => ⟨(fun _ k h => nomatch h), fun _ => trivial⟩
  | k :: r => ⟨fun h x hx => mem_NK hx h, fun h => ⟨h k (List.mem_cons_self ..), NKs_mem_iff.mpr fun x hx => h x (List.mem_cons_of_mem _ hx)⟩⟩
theorem NKs_take {P R : Str → Prop} {ks : List Kd} (n : Nat) (h : NKs P R ks) : NKs P R (ks.take n) := NKs_mem_iff.mpr fun k hk => mem_NK (List.mem_of_mem_take hk) h
theorem NKs_drop {P R : Str → Prop} {ks : List Kd} (n : Nat) (h : NKs P R ks) : NKs P R (ks.drop n) := NKs_mem_iff.mpr fun k hk => mem_NK (List.mem_of_mem_drop hk) h
/-- a part as its name asks -/
def okC (c : Str × Part) : Prop := match c.2 with
  | .inl k => vP c.1 ∧ NK vP vR k
  | .inr s => gtB c.1 = true ∧ (TL.tl c.1).length ≤ 1000 ∧ NS vP vR s
theorem step_ok {w : WI} {x : List WI × Option (Str × Part)} (h : step w = some x) (o : okW w) : (∀ v ∈ x.1, okW v) ∧ ∀ c, x.2 = some c → okC c := by
  unfold step at h
  split at h
  · rename_i r ks r' ks'
    have z := zk_ok o.1.2 (NKs_drop (ks'.length - ks.length) o.2.2)
    split at h
    · cases h
    · split at h
      · split at h
        · cases h; exact ⟨z, fun c e => nomatch e⟩
        · cases h
      · rename_i er
        cases h
        refine ⟨z, fun c e => ?_⟩
        cases e
        rcases o.1.1 with e | e
        · exact absurd e er
        · exact ⟨e.1, e.2, o.2.1, NKs_take _ o.2.2⟩
  · cases h
    refine ⟨fun v hv => (nomatch hv), fun c e => ?_⟩
    cases e
    exact ⟨o.1, o.2⟩
  · cases h; exact ⟨fun v hv => (nomatch hv), fun c e => nomatch e⟩
  · cases h
    refine ⟨fun v hv => ?_, fun c e => nomatch e⟩
    rcases List.mem_singleton.mp hv with rfl
    exact ⟨o.1, o.2⟩
  · cases h
    refine ⟨fun v hv => ?_, fun c e => nomatch e⟩
    rcases List.mem_cons.mp hv with rfl | hv
    · exact ⟨o.1.1, o.2.1⟩
    · rcases List.mem_singleton.mp hv with rfl
      exact ⟨o.1.2, o.2.2⟩
  · cases h
theorem step_complete {f : Str → Kd} {g : Str → Sk} (g0 : g "" = .mk "" []) {w : WI} (o : okW w) (h : holdsW f g w) : ∃ x, step w = some x ∧ (∀ v ∈ x.1, holdsW f g v) ∧ ∀ c, x.2 = some c → c.2 = hP f g c.1 := by
  cases w with
  | k a b =>
    have h : fK f g a = b := h
    subst h
    cases a with
    | num => exact ⟨_, rfl, fun v hv => (nomatch hv), fun c e => nomatch e⟩
    | opn z =>
      refine ⟨_, rfl, fun v hv => (nomatch hv), fun c e => ?_⟩
      cases e
      show Sum.inl (f z) = hP f g z
      unfold hP
      rw [if_pos o.1.1]
    | lst k =>
      refine ⟨_, rfl, fun v hv => ?_, fun c e => nomatch e⟩
      rcases List.mem_singleton.mp hv with rfl
      rfl
    | row s t =>
      refine ⟨_, rfl, fun v hv => ?_, fun c e => nomatch e⟩
      rcases List.mem_cons.mp hv with rfl | hv
      · rfl
      · rcases List.mem_singleton.mp hv with rfl
        rfl
  | s a b =>
    have h : fS f g a = b := h
    subst h
    cases a with
    | mk r ks =>
      have lk := fKs_len f g ks
      have e1 : (((g r).ks ++ fKs f g ks).length - ks.length) = (g r).ks.length := by rw [List.length_append]; omega
      have ed : ((g r).ks ++ fKs f g ks).drop (((g r).ks ++ fKs f g ks).length - ks.length) = fKs f g ks := by rw [e1, List.drop_left]
      have et : ((g r).ks ++ fKs f g ks).take (((g r).ks ++ fKs f g ks).length - ks.length) = (g r).ks := by rw [e1, List.take_left]
      have nl : ¬ ((g r).ks ++ fKs f g ks).length < ks.length := by rw [List.length_append]; omega
      by_cases er : r = ""
      · refine ⟨(zk ks (((g r).ks ++ fKs f g ks).drop (((g r).ks ++ fKs f g ks).length - ks.length)), none), ?_, ?_, fun c e => nomatch e⟩
        · show (if ((g r).ks ++ fKs f g ks).length < ks.length then none else if r = "" then (if (g r).rest = "" ∧ ((g r).ks ++ fKs f g ks).length = ks.length then _ else none) else _) = _
          rw [if_neg nl, if_pos er, if_pos]
          rw [er, g0]
          exact ⟨rfl, by show ([] ++ fKs f g ks).length = _; rw [List.nil_append, lk]⟩
        · rw [ed]; exact holds_zk
      · refine ⟨(zk ks (((g r).ks ++ fKs f g ks).drop (((g r).ks ++ fKs f g ks).length - ks.length)), some (r, .inr (.mk (g r).rest (((g r).ks ++ fKs f g ks).take (((g r).ks ++ fKs f g ks).length - ks.length))))), ?_, ?_, fun c e => ?_⟩
        · show (if ((g r).ks ++ fKs f g ks).length < ks.length then none else if r = "" then _ else _) = _
          rw [if_neg nl, if_neg er]
        · rw [ed]; exact holds_zk
        · cases e
          show Sum.inr (Sk.mk (g r).rest (((g r).ks ++ fKs f g ks).take _)) = hP f g r
          rw [et]
          have : smB r = false := by
            rcases o.1.1 with e | e
            · exact absurd e er
            · exact not_sm e.1
          unfold hP
          rw [if_neg (by rw [this]; exact Bool.false_ne_true)]
          show Sum.inr (Sk.mk (g r).rest (g r).ks) = Sum.inr (g r)
          cases g r; rfl
theorem run_complete {f : Str → Kd} {g : Str → Sk} (g0 : g "" = .mk "" []) : ∀ (n : Nat) (l : List WI) (F : Fnd), wtWs l ≤ n → (∀ w ∈ l, okW w) → (∀ w ∈ l, holdsW f g w) → (∀ z p, look F z = some p → p = hP f g z) → run n l F ≠ none
  | 0, [], F, _, _, _, _ => fun h => nomatch h
  | _ + 1, [], F, _, _, _, _ => fun h => nomatch h
  | 0, w :: l, F, h, _, _, _ => absurd h (by have := wtW_pos w; show ¬ wtW w + _ ≤ 0; omega)
  | n + 1, w :: l, F, h, o, hh, hF => by
    obtain ⟨x, hs, hi, hc⟩ := step_complete g0 (o w (List.mem_cons_self ..)) (hh w (List.mem_cons_self ..))
    have lt := step_wt hs
    show ((step w).bind fun x => (putO F x.2).bind fun F' => run n (x.1.reverse ++ l) F') ≠ none
    rw [hs]
    show ((putO F x.2).bind fun F' => run n (x.1.reverse ++ l) F') ≠ none
    have hp : ∃ F1, putO F x.2 = some F1 ∧ ∀ z p, look F1 z = some p → p = hP f g z := by
      cases hx : x.2 with
      | none => exact ⟨F, rfl, hF⟩
      | some c =>
        have ec := hc c hx
        show ∃ F1, putFn F c = some F1 ∧ _
        unfold putFn
        cases hl : look F c.1 with
        | none =>
          refine ⟨_, rfl, fun z p e => ?_⟩
          rw [look_app] at e
          cases hz : look F z with
          | some q => rw [hz] at e; cases e; exact hF z _ hz
          | none =>
            rw [hz] at e
            by_cases h : c.1 = z
            · have e : (if c.1 = z then some c.2 else none) = some p := e
              rw [if_pos h] at e; cases e; rw [← h]; exact ec
            · have e : (if c.1 = z then some c.2 else none) = some p := e
              rw [if_neg h] at e; cases e
        | some p =>
          have : p = c.2 := by rw [hF _ _ hl, ec]
          refine ⟨F, ?_, hF⟩
          show (if p = c.2 then some F else none) = _
          rw [if_pos this]
    obtain ⟨F1, e1, h1⟩ := hp
    rw [e1]
    refine run_complete g0 n _ F1 ?_ ?_ ?_ h1
    · rw [wtWs_app, wtWs_rev]
      have : wtW w + wtWs l ≤ n + 1 := h
      omega
    · intro v hv
      rcases List.mem_append.mp hv with hv | hv
      · exact (step_ok hs (o w (List.mem_cons_self ..))).1 v (List.mem_reverse.mp hv)
      · exact o v (List.mem_cons_of_mem _ hv)
    · intro v hv
      rcases List.mem_append.mp hv with hv | hv
      · exact hi v (List.mem_reverse.mp hv)
      · exact hh v (List.mem_cons_of_mem _ hv)
end DD
/-! names found; marks tell the kind; sorted names -/
namespace DD
open PySem PySem.W L2 SX Cm
/-! marks tell the kind -/
theorem sm_six {z : Str} (h : smB z = true) : z ≠ "number" ∧ z ≠ "{" ∧ z ≠ "}" ∧ z ≠ "[" ∧ z ≠ "]" ∧ z ≠ "--" := by
  refine ⟨?_, ?_, ?_, ?_, ?_, ?_⟩ <;> (intro e; rw [e] at h; revert h; decide +kernel)
theorem gt_six {z : Str} (h : gtB z = true) : z ≠ "number" ∧ z ≠ "{" ∧ z ≠ "}" ∧ z ≠ "[" ∧ z ≠ "]" ∧ z ≠ "--" := by
  refine ⟨?_, ?_, ?_, ?_, ?_, ?_⟩ <;> (intro e; rw [e] at h; revert h; decide +kernel)
def EndX (X : List Str) : Prop := X = [] ∨ ∃ r, X = ("--" : Str) :: r ∨ X = ("]" : Str) :: r
def begB (z : Str) : Prop := z = "number" ∨ smB z = true ∨ z = "{" ∨ z = "["
theorem mkK_beg : ∀ k, NK vP vR k → ∃ z r, mkK k = z :: r ∧ begB z
  | .num, _ => ⟨_, _, rfl, .inl rfl⟩
  | .opn z, h => ⟨_, _, rfl, .inr (.inl h.1)⟩
  | .lst k, _ => ⟨_, _, rfl, .inr (.inr (.inl rfl))⟩
  | .row a b, _ => ⟨_, _, rfl, .inr (.inr (.inr rfl))⟩
theorem beg_end {z : Str} {r X : List Str} (h : begB z) (e : EndX X) : X ≠ z :: r := fun q => by
  rcases e with e | ⟨s, e | e⟩
  · rw [e] at q; cases q
  · rw [e] at q
    injection q with q _
    subst q
    rcases h with h | h | h | h
    · exact absurd h (by decide +kernel)
    · exact (sm_six h).2.2.2.2.2 rfl
    · exact absurd h (by decide +kernel)
    · exact absurd h (by decide +kernel)
  · rw [e] at q
    injection q with q _
    subst q
    rcases h with h | h | h | h
    · exact absurd h (by decide +kernel)
    · exact (sm_six h).2.2.2.2.1 rfl
    · exact absurd h (by decide +kernel)
    · exact absurd h (by decide +kernel)
theorem gt_end {z : Str} {r X : List Str} (h : gtB z = true) (e : EndX X) : X ≠ z :: r := fun q => by
  rcases e with e | ⟨s, e | e⟩
  · rw [e] at q; cases q
  · rw [e] at q; injection q with q _; exact (gt_six h).2.2.2.2.2 q.symm
  · rw [e] at q; injection q with q _; exact (gt_six h).2.2.2.2.1 q.symm
theorem gt_beg {z y : Str} (h : gtB z = true) (b : begB y) : z ≠ y := fun e => by
  subst e
  rcases b with b | b | b | b
  · exact (gt_six h).1 b
  · rw [sm_gt b] at h; cases h
  · exact (gt_six h).2.1 b
  · exact (gt_six h).2.2.2.1 b
theorem opn_inj {z : Str} {X r : List Str} {b : Kd} {Y : List Str} (hz : smB z = true) (hb : NK vP vR b) (h : z :: X = mkK b ++ Y) : b = .opn z ∧ X = Y := by
  obtain ⟨n1, n2, n3, n4, n5, n6⟩ := sm_six hz
  cases b with
  | num => injection h with h _; exact absurd h n1
  | opn y => injection h with h h2; exact ⟨by rw [h], h2⟩
  | lst k => injection h with h _; exact absurd h n2
  | row a b => injection h with h _; exact absurd h n4
mutual
theorem mkK_inj : ∀ (a b : Kd) (X Y : List Str), NK vP vR a → NK vP vR b → mkK a ++ X = mkK b ++ Y → a = b ∧ X = Y
  | .num, .num, X, Y, _, _, h => by injection h with _ h; exact ⟨rfl, h⟩
  | .opn z, b, X, Y, ha, hb, h => by obtain ⟨e, e2⟩ := opn_inj (r := []) ha.1 hb h; exact ⟨e.symm, e2⟩
  | .lst a, .lst b, X, Y, ha, hb, h => by
    have h' : ("{" : Str) :: ((mkK a ++ [("}" : Str)]) ++ X) = ("{" : Str) :: ((mkK b ++ [("}" : Str)]) ++ Y) := h
    injection h' with _ h'
    rw [List.append_assoc, List.append_assoc] at h'
    obtain ⟨e, h2⟩ := mkK_inj a b _ _ ha hb h'
    injection h2 with _ h2
    exact ⟨by rw [e], h2⟩
  | .row a b, .row c d, X, Y, ha, hb, h => by
    have h' : ("[" : Str) :: ((mkS a ++ ("--" : Str) :: (mkS b ++ [("]" : Str)])) ++ X) = ("[" : Str) :: ((mkS c ++ ("--" : Str) :: (mkS d ++ [("]" : Str)])) ++ Y) := h
    injection h' with _ h'
    rw [List.append_assoc, List.append_assoc] at h'
    obtain ⟨e, h2⟩ := mkS_inj a c _ _ ha.1 hb.1 (.inr ⟨_, .inl rfl⟩) (.inr ⟨_, .inl rfl⟩) h'
    injection h2 with _ h2
    have h3 : (mkS b ++ [("]" : Str)]) ++ X = (mkS d ++ [("]" : Str)]) ++ Y := h2
    rw [List.append_assoc, List.append_assoc] at h3
    obtain ⟨e2, h4⟩ := mkS_inj b d _ _ ha.2 hb.2 (.inr ⟨_, .inr rfl⟩) (.inr ⟨_, .inr rfl⟩) h3
    injection h4 with _ h4
    exact ⟨by rw [e, e2], h4⟩
  | .num, .opn z, X, Y, _, hb, h => by injection h with h _; exact absurd h.symm (sm_six hb.1).1
  | .num, .lst k, X, Y, _, _, h => by injection h with h _; exact absurd h (by decide +kernel)
  | .num, .row a b, X, Y, _, _, h => by injection h with h _; exact absurd h (by decide +kernel)
  | .lst a, .num, X, Y, _, _, h => by injection h with h _; exact absurd h (by decide +kernel)
  | .lst a, .opn z, X, Y, _, hb, h => by injection h with h _; exact absurd h.symm (sm_six hb.1).2.1
  | .lst k, .row a b, X, Y, _, _, h => by injection h with h _; exact absurd h (by decide +kernel)
  | .row a b, .num, X, Y, _, _, h => by injection h with h _; exact absurd h (by decide +kernel)
  | .row a b, .opn z, X, Y, _, hb, h => by injection h with h _; exact absurd h.symm (sm_six hb.1).2.2.2.1
  | .row a b, .lst k, X, Y, _, _, h => by injection h with h _; exact absurd h (by decide +kernel)
theorem mkS_inj : ∀ (a b : Sk) (X Y : List Str), NS vP vR a → NS vP vR b → EndX X → EndX Y → mkS a ++ X = mkS b ++ Y → a = b ∧ X = Y
  | .mk r ks, .mk r' ks', X, Y, ha, hb, ex, ey, h => by
    have h : ((if r = ("" : Str) then [] else [r]) ++ mkKs ks) ++ X = ((if r' = ("" : Str) then [] else [r']) ++ mkKs ks') ++ Y := h
    have lead : ∀ (r : Str) (ks ks' : List Kd) (X Y : List Str), gtB r = true → NKs vP vR ks' → EndX Y → r :: (mkKs ks ++ X) ≠ mkKs ks' ++ Y := fun r ks ks' X Y hr hk ey e => by
      cases ks' with
      | nil => exact gt_end hr ey e.symm
      | cons k t =>
        obtain ⟨z, q, ez, bz⟩ := mkK_beg k hk.1
        have e : r :: (mkKs ks ++ X) = (mkK k ++ mkKs t) ++ Y := e
        rw [ez] at e
        injection e with e _
        exact gt_beg hr bz e
    by_cases h1 : r = ""
    · by_cases h2 : r' = ""
      · rw [if_pos h1, if_pos h2] at h
        obtain ⟨e, e2⟩ := mkKs_inj ks ks' X Y ha.2 hb.2 ex ey h
        exact ⟨by rw [e, h1, h2], e2⟩
      · rw [if_pos h1, if_neg h2] at h
        have g : gtB r' = true := (hb.1.resolve_left h2).1
        exact absurd h.symm (lead r' ks' ks Y X g ha.2 ex)
    · have g : gtB r = true := (ha.1.resolve_left h1).1
      by_cases h2 : r' = ""
      · rw [if_neg h1, if_pos h2] at h
        exact absurd h (lead r ks ks' X Y g hb.2 ey)
      · rw [if_neg h1, if_neg h2] at h
        have h : r :: (mkKs ks ++ X) = r' :: (mkKs ks' ++ Y) := h
        injection h with h0 h
        obtain ⟨e, e2⟩ := mkKs_inj ks ks' X Y ha.2 hb.2 ex ey h
        exact ⟨by rw [e, h0], e2⟩
theorem mkKs_inj : ∀ (a b : List Kd) (X Y : List Str), NKs vP vR a → NKs vP vR b → EndX X → EndX Y → mkKs a ++ X = mkKs b ++ Y → a = b ∧ X = Y
  | [], [], X, Y, _, _, _, _, h => ⟨rfl, h⟩
  | [], k :: r, X, Y, _, hb, ex, _, h => by
    obtain ⟨z, q, ez, bz⟩ := mkK_beg k hb.1
    have h : X = (mkK k ++ mkKs r) ++ Y := h
    rw [ez] at h
    exact absurd h (beg_end bz ex)
  | k :: r, [], X, Y, ha, _, _, ey, h => by
    obtain ⟨z, q, ez, bz⟩ := mkK_beg k ha.1
    have h : (mkK k ++ mkKs r) ++ X = Y := h
    rw [ez] at h
    exact absurd h.symm (beg_end bz ey)
  | k :: r, k' :: r', X, Y, ha, hb, ex, ey, h => by
    have h : (mkK k ++ mkKs r) ++ X = (mkK k' ++ mkKs r') ++ Y := h
    rw [List.append_assoc, List.append_assoc] at h
    obtain ⟨e, h2⟩ := mkK_inj k k' _ _ ha.1 hb.1 h
    obtain ⟨e2, h3⟩ := mkKs_inj r r' X Y ha.2 hb.2 ex ey h2
    exact ⟨by rw [e, e2], h3⟩
end
theorem mkK_iff {a b : Kd} (ha : NK vP vR a) (hb : NK vP vR b) : mkK a = mkK b ↔ a = b :=
  ⟨fun h => (mkK_inj a b [] [] ha hb (by rw [h])).1, fun h => by rw [h]⟩
theorem mkS_iff {a b : Sk} (ha : NS vP vR a) (hb : NS vP vR b) : mkS a = mkS b ↔ a = b :=
  ⟨fun h => (mkS_inj a b [] [] ha hb (.inl rfl) (.inl rfl) (by rw [h])).1, fun h => by rw [h]⟩
/-! names -/
mutual
def nmK : Kd → List Str
  | .num => []
  | .opn z => [z]
  | .lst k => nmK k
  | .row a b => nmS a ++ nmS b
def nmS : Sk → List Str
  | .mk r ks => (if r = ("" : Str) then [] else [r]) ++ nmKs ks
def nmKs : List Kd → List Str
  | [] => []
  | k :: r => nmK k ++ nmKs r
end
def nmW : WI → List Str
  | .k a _ => nmK a
  | .s a _ => nmS a
mutual
theorem nmK_iff : ∀ k, NK vP vR k → ∀ z, z ∈ nmK k ↔ z ∈ mkK k ∧ isOpn z = true
  | .num, _, z => ⟨(fun h => nomatch h), fun h => by have := List.mem_singleton.mp h.1; rw [this] at h; exact absurd h.2 (by decide +kernel)⟩
  | .opn y, h, z => ⟨fun g => ⟨g, by rw [List.mem_singleton.mp g]; exact sm_opn h.1⟩, fun g => g.1⟩
  | .lst k, h, z => by
    have ih := nmK_iff k h z
    show z ∈ nmK k ↔ z ∈ ("{" : Str) :: (mkK k ++ [("}" : Str)]) ∧ _
    rw [ih]
    refine ⟨fun g => ⟨List.mem_cons_of_mem _ (List.mem_append_left _ g.1), g.2⟩, fun g => ⟨?_, g.2⟩⟩
    rcases List.mem_cons.mp g.1 with e | g'
    · rw [e] at g; exact absurd g.2 (by decide +kernel)
    · rcases List.mem_append.mp g' with g' | g'
      · exact g'
      · rw [List.mem_singleton.mp g'] at g; exact absurd g.2 (by decide +kernel)
  | .row a b, h, z => by
    have ia := nmS_iff a h.1 z
    have ib := nmS_iff b h.2 z
    show z ∈ nmS a ++ nmS b ↔ z ∈ ("[" : Str) :: (mkS a ++ ("--" : Str) :: (mkS b ++ [("]" : Str)])) ∧ _
    rw [List.mem_append, ia, ib]
    refine ⟨fun g => ?_, fun g => ?_⟩
    · rcases g with g | g
      · exact ⟨List.mem_cons_of_mem _ (List.mem_append_left _ g.1), g.2⟩
      · exact ⟨List.mem_cons_of_mem _ (List.mem_append_right _ (List.mem_cons_of_mem _ (List.mem_append_left _ g.1))), g.2⟩
    · rcases List.mem_cons.mp g.1 with e | g'
      · rw [e] at g; exact absurd g.2 (by decide +kernel)
      · rcases List.mem_append.mp g' with g' | g'
        · exact .inl ⟨g', g.2⟩
        · rcases List.mem_cons.mp g' with e | g'
          · rw [e] at g; exact absurd g.2 (by decide +kernel)
          · rcases List.mem_append.mp g' with g' | g'
            · exact .inr ⟨g', g.2⟩
            · rw [List.mem_singleton.mp g'] at g; exact absurd g.2 (by decide +kernel)
theorem nmS_iff : ∀ s, NS vP vR s → ∀ z, z ∈ nmS s ↔ z ∈ mkS s ∧ isOpn z = true
  | .mk r ks, h, z => by
    have ih := nmKs_iff ks h.2 z
    show z ∈ (if r = ("" : Str) then [] else [r]) ++ nmKs ks ↔ z ∈ (if r = ("" : Str) then [] else [r]) ++ mkKs ks ∧ _
    rw [List.mem_append, List.mem_append, ih]
    by_cases e : r = ""
    · rw [if_pos e]
      exact ⟨fun g => g.elim (fun q => nomatch q) fun q => ⟨.inr q.1, q.2⟩, fun g => .inr ⟨g.1.resolve_left (fun q => nomatch q), g.2⟩⟩
    · rw [if_neg e]
      have go := gt_opn (h.1.resolve_left e).1
      refine ⟨fun g => g.elim (fun q => ⟨.inl q, by rw [List.mem_singleton.mp q]; exact go⟩) fun q => ⟨.inr q.1, q.2⟩, fun g => ?_⟩
      rcases g.1 with q | q
      · exact .inl q
      · exact .inr ⟨q, g.2⟩
theorem nmKs_iff : ∀ ks, NKs vP vR ks → ∀ z, z ∈ nmKs ks ↔ z ∈ mkKs ks ∧ isOpn z = true
  | [], _, z => ⟨(fun h => nomatch h), fun h => nomatch h.1⟩
  | k :: r, h, z => by
    show z ∈ nmK k ++ nmKs r ↔ z ∈ mkK k ++ mkKs r ∧ _
    rw [List.mem_append, List.mem_append, nmK_iff k h.1 z, nmKs_iff r h.2 z]
    exact ⟨fun g => g.elim (fun q => ⟨.inl q.1, q.2⟩) fun q => ⟨.inr q.1, q.2⟩, fun g => g.1.elim (fun q => .inl ⟨q, g.2⟩) fun q => .inr ⟨q, g.2⟩⟩
end
theorem opens_iff {p : Sk × Sk} (h1 : NS vP vR p.1) (h2 : NS vP vR p.2) (z : Str) : z ∈ opens p ↔ z ∈ nmS p.1 ∨ z ∈ nmS p.2 := by
  have e : z ∈ opens p ↔ z ∈ mkR p ∧ isOpn z = true := ⟨fun h => (ddp_of _ _ _ _ h).resolve_left (fun q => nomatch q), fun h => ddp_mem _ _ _ _ h.1 h.2⟩
  rw [e, nmS_iff _ h1, nmS_iff _ h2]
  show z ∈ mkS p.1 ++ ("--" : Str) :: mkS p.2 ∧ _ ↔ _
  rw [List.mem_append, List.mem_cons]
  refine ⟨fun g => ?_, fun g => ?_⟩
  · rcases g.1 with q | q | q
    · exact .inl ⟨q, g.2⟩
    · rw [q] at g; exact absurd g.2 (by decide +kernel)
    · exact .inr ⟨q, g.2⟩
  · rcases g with g | g
    · exact ⟨.inl g.1, g.2⟩
    · exact ⟨.inr (.inr g.1), g.2⟩
theorem zk_nm : ∀ {ks ks' : List Kd} (z : Str), ks.length = ks'.length → ((∃ v ∈ zk ks ks', z ∈ nmW v) ↔ z ∈ nmKs ks)
  | [], [], z, _ => ⟨fun ⟨v, h, _⟩ => (nomatch h), fun h => nomatch h⟩
  | [], _ :: _, z, h => nomatch h
  | _ :: _, [], z, h => nomatch h
  | k :: r, k' :: r', z, h => by
    have ih := zk_nm (ks := r) (ks' := r') z (by simpa using h)
    show (∃ v ∈ WI.k k k' :: zk r r', z ∈ nmW v) ↔ z ∈ nmK k ++ nmKs r
    rw [List.mem_append, ← ih]
    refine ⟨fun ⟨v, hv, hz⟩ => ?_, fun g => ?_⟩
    · rcases List.mem_cons.mp hv with rfl | hv
      · exact .inl hz
      · exact .inr ⟨v, hv, hz⟩
    · rcases g with g | ⟨v, hv, hz⟩
      · exact ⟨_, List.mem_cons_self .., g⟩
      · exact ⟨v, List.mem_cons_of_mem _ hv, hz⟩
theorem step_nm {w : WI} {x : List WI × Option (Str × Part)} (h : step w = some x) (z : Str) : z ∈ nmW w ↔ (∃ v ∈ x.1, z ∈ nmW v) ∨ ∃ c, x.2 = some c ∧ c.1 = z := by
  unfold step at h
  split at h
  · rename_i r ks r' ks'
    show z ∈ (if r = ("" : Str) then [] else [r]) ++ nmKs ks ↔ _
    split at h
    · cases h
    · rename_i hl
      have ld : ks.length = (ks'.drop (ks'.length - ks.length)).length := by rw [List.length_drop]; omega
      have zn := zk_nm (ks := ks) (ks' := ks'.drop (ks'.length - ks.length)) z ld
      split at h
      · rename_i er
        split at h
        · cases h
          rw [if_pos er]
          show z ∈ nmKs ks ↔ _
          rw [zn]
          exact ⟨.inl, fun g => g.elim id fun ⟨c, q, _⟩ => nomatch q⟩
        · cases h
      · rename_i er
        cases h
        rw [if_neg er, List.mem_append, zn]
        refine ⟨fun g => g.elim (fun q => .inr ⟨_, rfl, (List.mem_singleton.mp q).symm⟩) .inl, fun g => g.elim .inr fun ⟨c, q, e⟩ => ?_⟩
        cases q
        exact .inl (List.mem_singleton.mpr e.symm)
  · cases h
    rename_i y b
    exact ⟨fun g => .inr ⟨_, rfl, (List.mem_singleton.mp g).symm⟩, fun g => g.elim (fun ⟨v, hv, _⟩ => (nomatch hv)) fun ⟨c, q, e⟩ => by cases q; exact List.mem_singleton.mpr e.symm⟩
  · cases h
    exact ⟨(fun g => nomatch g), fun g => g.elim (fun ⟨v, hv, _⟩ => (nomatch hv)) fun ⟨c, q, e⟩ => nomatch q⟩
  · cases h
    rename_i a b
    exact ⟨fun g => .inl ⟨_, List.mem_cons_self .., g⟩, fun g => g.elim (fun ⟨v, hv, q⟩ => by rw [List.mem_singleton.mp hv] at q; exact q) fun ⟨c, q, e⟩ => nomatch q⟩
  · cases h
    rename_i a b c d
    show z ∈ nmS a ++ nmS b ↔ _
    rw [List.mem_append]
    refine ⟨fun g => .inl (g.elim (fun q => ⟨_, List.mem_cons_self .., q⟩) fun q => ⟨_, List.mem_cons_of_mem _ (List.mem_cons_self ..), q⟩), fun g => g.elim (fun ⟨v, hv, q⟩ => ?_) fun ⟨c, q, e⟩ => nomatch q⟩
    rcases List.mem_cons.mp hv with rfl | hv
    · exact .inl q
    · rw [List.mem_singleton.mp hv] at q; exact .inr q
  · cases h
/-! what is found -/
structure FOk (B D : Nat) (F : Fnd) : Prop where
  nd : (F.map (·.1)).Nodup
  ok : ∀ c ∈ F, okC c
  bd : ∀ c ∈ F, match c.2 with | .inl k => szK k ≤ B ∧ dpK k ≤ D | .inr s => szS s ≤ B ∧ dpS s ≤ D
def bdW (B D : Nat) : WI → Prop
  | .k _ b => szK b ≤ B ∧ dpK b ≤ D
  | .s _ b => szS b ≤ B ∧ dpS b ≤ D
theorem szKs_take (n : Nat) (ks : List Kd) : szKs (ks.take n) ≤ szKs ks ∧ dpKs (ks.take n) ≤ dpKs ks := by
  have e := List.take_append_drop n ks
  have h1 := szKs_app (ks.take n) (ks.drop n)
  have h2 := dpKs_app (ks.take n) (ks.drop n)
  rw [e] at h1 h2
  omega
theorem szKs_drop (n : Nat) (ks : List Kd) : szKs (ks.drop n) ≤ szKs ks ∧ dpKs (ks.drop n) ≤ dpKs ks := by
  have e := List.take_append_drop n ks
  have h1 := szKs_app (ks.take n) (ks.drop n)
  have h2 := dpKs_app (ks.take n) (ks.drop n)
  rw [e] at h1 h2
  omega
theorem zk_bd {B D : Nat} : ∀ {ks ks' : List Kd}, szKs ks' ≤ B → dpKs ks' ≤ D → ∀ w ∈ zk ks ks', bdW B D w
  | k :: r, k' :: r', h1, h2, w, hw => by
    have h1 : szK k' + szKs r' ≤ B := h1
    have h2 : max (dpK k') (dpKs r') ≤ D := h2
    have hw' : w ∈ WI.k k k' :: zk r r' := hw
    rcases List.mem_cons.mp hw' with rfl | hw'
    · exact ⟨by omega, by omega⟩
    · exact zk_bd (by omega) (by omega) w hw'
theorem step_bd {B D : Nat} {w : WI} {x : List WI × Option (Str × Part)} (h : step w = some x) (o : bdW B D w) : (∀ v ∈ x.1, bdW B D v) ∧ ∀ c, x.2 = some c → match c.2 with | .inl k => szK k ≤ B ∧ dpK k ≤ D | .inr s => szS s ≤ B ∧ dpS s ≤ D := by
  unfold step at h
  split at h
  · rename_i r ks r' ks'
    have o1 : 1 + szKs ks' ≤ B := o.1
    have o2 : dpKs ks' ≤ D := o.2
    have d1 := szKs_drop (ks'.length - ks.length) ks'
    have t1 := szKs_take (ks'.length - ks.length) ks'
    have z : ∀ v ∈ zk ks (ks'.drop (ks'.length - ks.length)), bdW B D v := zk_bd (by omega) (by omega)
    split at h
    · cases h
    · split at h
      · split at h
        · cases h; exact ⟨z, fun c e => nomatch e⟩
        · cases h
      · cases h
        refine ⟨z, fun c e => ?_⟩
        cases e
        exact ⟨by show 1 + szKs (ks'.take _) ≤ B; omega, by show dpKs (ks'.take _) ≤ D; omega⟩
  · cases h
    refine ⟨fun v hv => (nomatch hv), fun c e => ?_⟩
    cases e
    exact o
  · cases h; exact ⟨fun v hv => (nomatch hv), fun c e => nomatch e⟩
  · cases h
    rename_i a b
    have o1 : 1 + szK b ≤ B := o.1
    have o2 : 1 + dpK b ≤ D := o.2
    refine ⟨fun v hv => ?_, fun c e => nomatch e⟩
    rcases List.mem_singleton.mp hv with rfl
    exact ⟨by omega, by omega⟩
  · cases h
    rename_i a b c d
    have o1 : 1 + szS c + szS d ≤ B := o.1
    have o2 : 1 + max (dpS c) (dpS d) ≤ D := o.2
    refine ⟨fun v hv => ?_, fun c e => nomatch e⟩
    rcases List.mem_cons.mp hv with rfl | hv
    · exact ⟨by omega, by omega⟩
    · rcases List.mem_singleton.mp hv with rfl
      exact ⟨by omega, by omega⟩
  · cases h
theorem putO_ok {B D : Nat} {F F' : Fnd} {o : Option (Str × Part)} (h : putO F o = some F') (g : FOk B D F) (ho : ∀ c, o = some c → okC c) (hb : ∀ c, o = some c → match c.2 with | .inl k => szK k ≤ B ∧ dpK k ≤ D | .inr s => szS s ≤ B ∧ dpS s ≤ D) :
    FOk B D F' ∧ ∀ z, z ∈ F'.map (·.1) ↔ z ∈ F.map (·.1) ∨ ∃ c, o = some c ∧ c.1 = z := by
  cases o with
  | none => cases h; exact ⟨g, fun z => ⟨.inl, fun q => q.elim id fun ⟨c, q, _⟩ => nomatch q⟩⟩
  | some c =>
    have h : putFn F c = some F' := h
    unfold putFn at h
    split at h
    · rename_i hn
      cases h
      refine ⟨⟨?_, fun d hd => ?_, fun d hd => ?_⟩, fun z => ?_⟩
      · rw [List.map_append]
        refine List.nodup_append.mpr ⟨g.nd, List.nodup_cons.mpr ⟨(fun q => nomatch q), List.nodup_nil⟩, fun a ha b hb e => ?_⟩
        rw [List.mem_singleton.mp hb] at e
        have e : a = c.1 := e
        exact look_none.mp hn (by rw [← e]; exact ha)
      · rcases List.mem_append.mp hd with hd | hd
        · exact g.ok d hd
        · rw [List.mem_singleton.mp hd]; exact ho c rfl
      · rcases List.mem_append.mp hd with hd | hd
        · exact g.bd d hd
        · rw [List.mem_singleton.mp hd]; exact hb c rfl
      · rw [List.map_append, List.mem_append]
        exact ⟨fun q => q.elim .inl fun q => .inr ⟨c, rfl, (List.mem_singleton.mp q).symm⟩, fun q => q.elim .inl fun ⟨d, e, q⟩ => .inr (by cases e; exact List.mem_singleton.mpr q.symm)⟩
    · rename_i p hp
      split at h
      · cases h
        refine ⟨g, fun z => ⟨.inl, fun q => q.elim id fun ⟨d, e, q⟩ => ?_⟩⟩
        cases e
        rw [← q]
        exact List.mem_map.mpr ⟨_, look_mem hp, rfl⟩
      · cases h
theorem run_ok {B D : Nat} : ∀ (n : Nat) (l : List WI) (F F' : Fnd), run n l F = some F' → FOk B D F → (∀ w ∈ l, okW w) → (∀ w ∈ l, bdW B D w) → FOk B D F' ∧ ∀ z, z ∈ F'.map (·.1) ↔ z ∈ F.map (·.1) ∨ ∃ w ∈ l, z ∈ nmW w
  | 0, [], F, F', h, g, _, _ => by cases h; exact ⟨g, fun z => ⟨.inl, fun q => q.elim id fun ⟨w, q, _⟩ => nomatch q⟩⟩
  | _ + 1, [], F, F', h, g, _, _ => by cases h; exact ⟨g, fun z => ⟨.inl, fun q => q.elim id fun ⟨w, q, _⟩ => nomatch q⟩⟩
  | 0, _ :: _, F, F', h, _, _, _ => nomatch h
  | n + 1, w :: l, F, F', h, g, o, b => by
    have h : ((step w).bind fun x => (putO F x.2).bind fun F' => run n (x.1.reverse ++ l) F') = some F' := h
    cases hs : step w with
    | none => rw [hs] at h; cases h
    | some x =>
      rw [hs] at h
      have h : ((putO F x.2).bind fun F' => run n (x.1.reverse ++ l) F') = some F' := h
      cases hp : putO F x.2 with
      | none => rw [hp] at h; cases h
      | some F1 =>
        rw [hp] at h
        obtain ⟨o1, o2⟩ := step_ok hs (o w (List.mem_cons_self ..))
        obtain ⟨b1, b2⟩ := step_bd hs (b w (List.mem_cons_self ..))
        obtain ⟨g1, m1⟩ := putO_ok hp g o2 b2
        obtain ⟨g2, m2⟩ := run_ok n _ F1 F' h g1 (fun v hv => (List.mem_append.mp hv).elim (fun q => o1 v (List.mem_reverse.mp q)) fun q => o v (List.mem_cons_of_mem _ q)) (fun v hv => (List.mem_append.mp hv).elim (fun q => b1 v (List.mem_reverse.mp q)) fun q => b v (List.mem_cons_of_mem _ q))
        refine ⟨g2, fun z => ?_⟩
        rw [m2 z, m1 z]
        have sn := step_nm hs z
        refine ⟨fun q => ?_, fun q => ?_⟩
        · rcases q with (q | q) | ⟨v, hv, q⟩
          · exact .inl q
          · exact .inr ⟨w, List.mem_cons_self .., sn.mpr (.inr q)⟩
          · rcases List.mem_append.mp hv with hv | hv
            · exact .inr ⟨w, List.mem_cons_self .., sn.mpr (.inl ⟨v, List.mem_reverse.mp hv, q⟩)⟩
            · exact .inr ⟨v, List.mem_cons_of_mem _ hv, q⟩
        · rcases q with q | ⟨v, hv, q⟩
          · exact .inl (.inl q)
          · rcases List.mem_cons.mp hv with rfl | hv
            · rcases sn.mp q with ⟨u, hu, q⟩ | q
              · exact .inr ⟨u, List.mem_append_left _ (List.mem_reverse.mpr hu), q⟩
              · exact .inl (.inr q)
            · exact .inr ⟨v, List.mem_append_right _ hv, q⟩
/-! sorted names -/
open PyProof.Rows (sortedS risingS ltCps_eq)
open PySem.Spec (ltCps)
def leS (a b : Str) : Prop := ¬ (b.cps.toList < a.cps.toList)
theorem rise_pair : ∀ (p : Str) (l : List Str), risingS p l = true → (p :: l).Pairwise leS
  | p, [], _ => List.pairwise_singleton _ _
  | p, x :: r, h => by
    have h' : (!ltCps x.cps.toList p.cps.toList && risingS x r) = true := h
    rw [Bool.and_eq_true, ltCps_eq] at h'
    have h1 : leS p x := fun q => by rw [decide_eq_true q] at h'; cases h'.1
    have ih := rise_pair x r h'.2
    refine List.pairwise_cons.mpr ⟨fun y hy => ?_, ih⟩
    rcases List.mem_cons.mp hy with rfl | hy
    · exact h1
    · have h2 : leS x y := List.rel_of_pairwise_cons ih hy
      intro q
      have a1 : p.cps.toList ≤ x.cps.toList := List.not_lt.mp h1
      have a2 : x.cps.toList ≤ y.cps.toList := List.not_lt.mp h2
      exact List.not_lt.mpr (List.le_trans a1 a2) q
theorem sorted_pair {l : List Str} (h : sortedS l = true) : l.Pairwise leS := by
  cases l with
  | nil => exact List.Pairwise.nil
  | cons x r => exact rise_pair x r h
theorem str_ext {a b : Str} (h : a.cps.toList = b.cps.toList) : a = b := by
  obtain ⟨x⟩ := a
  obtain ⟨y⟩ := b
  congr 1
  exact Array.toList_inj.mp h
theorem sorted_eq {a b : List Str} (ha : sortedS a = true) (hb : sortedS b = true) (p : a.Perm b) : a = b :=
  List.Perm.eq_of_pairwise (le := leS) (fun x y _ _ h1 h2 => str_ext (List.le_antisymm (List.not_lt.mp h1) (List.not_lt.mp h2))) (sorted_pair ha) (sorted_pair hb) p
theorem sorted_strict : ∀ {l : List Str}, sortedS l = true → l.Nodup → ∀ i a b, l[i]? = some a → l[i + 1]? = some b → a.cps.toList < b.cps.toList
  | x :: r, h, nd, i, a, b, e1, e2 => by
    have pw := sorted_pair h
    obtain ⟨i1, g1⟩ := List.getElem?_eq_some_iff.mp e1
    obtain ⟨i2, g2⟩ := List.getElem?_eq_some_iff.mp e2
    have h1 : leS a b := by
      have := List.pairwise_iff_getElem.mp pw i (i + 1) i1 i2 (Nat.lt_succ_self i)
      rw [g1, g2] at this; exact this
    have ne : a ≠ b := fun e => by
      have := (List.getElem_inj nd).mp (g1.trans (e.trans g2.symm))
      omega
    have le : a.cps.toList ≤ b.cps.toList := List.not_lt.mp h1
    rcases Decidable.em (a.cps.toList < b.cps.toList) with q | q
    · exact q
    · exact absurd (str_ext (List.le_antisymm le (List.not_lt.mp q))) ne
end DD
/-! lists read from the front; dicts of texts -/
namespace DD
open PySem PySem.W L2 SX Cm
section
variable {X : Cx}
def bPopAt : DM := fun x ds G Q => ∃ p y xs, x = .ref p ∧ ds = [.int 0] ∧ G p = some (.lst (y :: xs)) ∧ Q y (dupd G p (.lst xs))
theorem md_popAt : MtD X "list.pop" bPopAt := by
  refine ⟨_, mt_popAt, fun x ds vx vs H G R Q rx rs w h f => ?_⟩
  obtain ⟨p, y, xs, rfl, rfl, e, q⟩ := h
  cases rx
  cases rs with
  | cons r1 r2 =>
  cases r2
  cases r1
  obtain ⟨us, hu, r⟩ := wd_list w e
  cases r with
  | cons ry rt =>
  obtain ⟨t, w'⟩ := put_lst w e hu rt
  exact ⟨p, _, 0, 0, _, rfl, rfl, hu, by decide, by decide, by unfold seqIndex?; simp, rfl, f _ _ _ _ q t w' (ry.mono t)⟩
end
theorem w_popAt {p : Addr} {y : DV} {xs : List DV} {G : DG} {Q : DK} (e : G p = some (.lst (y :: xs))) (h : Q y (dupd G p (.lst xs))) : bPopAt (.ref p) [.int 0] G Q := ⟨p, y, xs, rfl, rfl, e, h⟩
theorem cmps_strs : ∀ {ws : List Str}, (∀ z ∈ ws, okS z) → Cmps (ws.map DV.str) ∧ plains (ws.map DV.str) = true
  | [], _ => ⟨⟨rfl, rfl, Nat.zero_le _⟩, rfl⟩
  | z :: r, h => by
    obtain ⟨⟨a, b, c⟩, d⟩ := cmps_strs (ws := r) fun y hy => h y (List.mem_cons_of_mem _ hy)
    have hz : PyData.strOk z = true := h z (List.mem_cons_self ..)
    refine ⟨⟨?_, ?_, ?_⟩, ?_⟩
    · show (true && pures (r.map DV.str)) = true; rw [a]; rfl
    · show (PyData.strOk z && txBs (r.map DV.str)) = true; rw [hz, b]; rfl
    · show max 0 (dpts (r.map DV.str)) ≤ 60; omega
    · show (true && plains (r.map DV.str)) = true; rw [d]; rfl
theorem w_neL0 {p q : Addr} {ws : List Str} {G : DG} {Q : DK} (ep : G p = some (.lst (ws.map DV.str))) (eq : G q = some (.lst [])) (ok : ∀ z ∈ ws, okS z) (h : Q (.bl (!ws.isEmpty)) G) : bEq true (.ref p) (.ref q) G Q := by
  refine w_neLL ep eq (cmps_strs ok).1 ⟨rfl, rfl, Nat.zero_le _⟩ (cmps_strs ok).2 rfl ?_
  cases ws with
  | nil => rw [show decide (List.map DV.str [] = ([] : List DV)) = true from decide_eq_true rfl]; exact h
  | cons a r => rw [show decide (List.map DV.str (a :: r) = ([] : List DV)) = false from decide_eq_false (fun z => nomatch z)]; exact h
theorem subx_new {B G G' : DG} {p q : Addr} (u : Upd G q G') (h : SubX B p G) (n : B q = none) : SubX B p G' := fun a o ne e => by
  have : a ≠ q := fun z => by rw [z, n] at e; cases e
  rw [u a this]; exact h a o ne e
theorem SubX.of {G G' : DG} {p : Addr} (s : Sub G G') : SubX G p G' := fun a o _ e => s a o e
/-! dicts of texts -/
def toD (m : List (Str × Str)) : List (Key × DV) := m.map fun x => (keyD x.1, DV.str x.2)
def putS (m : List (Str × Str)) (k v : Str) : List (Str × Str) := if (m.any fun x => decide (x.1 = k)) = true then m.map (fun x => if x.1 = k then (k, v) else x) else m ++ [(k, v)]
theorem keyD_iff (a b : Str) : keyD a = keyD b ↔ a = b := ⟨fun h => by injection h, fun h => by rw [h]⟩
theorem put_toD (m : List (Str × Str)) (k v : Str) : putD (toD m) (keyD k) (.str v) = toD (putS m k v) := by
  have ea : ((toD m).any fun kv => decide (kv.1 = keyD k)) = m.any fun x => decide (x.1 = k) := by
    unfold toD
    rw [List.any_map]
    congr 1
    funext x
    exact decq (keyD_iff x.1 k)
  unfold putD putS
  rw [ea]
  by_cases h : (m.any fun x => decide (x.1 = k)) = true
  · rw [if_pos h, if_pos h]
    unfold toD
    rw [List.map_map, List.map_map]
    refine List.map_congr_left fun x _ => ?_
    show (if keyD x.1 = keyD k then (keyD x.1, DV.str v) else (keyD x.1, DV.str x.2)) = (keyD (if x.1 = k then (k, v) else x).1, DV.str (if x.1 = k then (k, v) else x).2)
    by_cases e : x.1 = k
    · rw [if_pos ((keyD_iff _ _).mpr e), if_pos e, e]
    · rw [if_neg (fun z => e ((keyD_iff _ _).mp z)), if_neg e]
  · rw [if_neg h, if_neg h]
    unfold toD
    rw [List.map_append]; rfl
theorem val_toD (z : Str) : ∀ m : List (Str × Str), valD (toD m) (keyD z) = (m.lookup z).map DV.str
  | [] => rfl
  | (a, b) :: r => by
    have ih := val_toD z r
    unfold valD toD at ih ⊢
    rw [List.map_cons, List.find?_cons, look_cons]
    by_cases e : z = a
    · subst e
      rw [if_pos rfl, show decide (keyD z = keyD z) = true from decide_eq_true rfl]; rfl
    · rw [if_neg e, show decide ((keyD a, DV.str b).1 = keyD z) = false from decide_eq_false fun q => e ((keyD_iff _ _).mp q).symm]
      exact ih
theorem lookup_memS {z x : Str} : ∀ {m : List (Str × Str)}, m.lookup z = some x → (z, x) ∈ m
  | (a, b) :: r, h => by
    rw [look_cons] at h
    by_cases e : z = a
    · rw [if_pos e] at h; cases h; rw [e]; exact List.mem_cons_self ..
    · rw [if_neg e] at h; exact List.mem_cons_of_mem _ (lookup_memS h)
end DD
set_option maxHeartbeats 1000000
/-! kinds read off the front of words -/
namespace DD
open PySem PySem.W L2 SX Cm
def PK (W : List Str) (k : Kd) (X : List Str) : Prop := NK vP vR k ∧ W = mkK k ++ X
def PS (W : List Str) (s : Sk) (X : List Str) : Prop := NS vP vR s ∧ EndX X ∧ W = mkS s ++ X
def PP (W : List Str) (p : Sk × Sk) (X : List Str) : Prop := NS vP vR p.1 ∧ NS vP vR p.2 ∧ EndX X ∧ W = mkS p.1 ++ ("--" : Str) :: (mkS p.2 ++ X)
theorem pk_un {W X X' : List Str} {k k' : Kd} (h : PK W k X) (h' : PK W k' X') : k = k' ∧ X = X' := mkK_inj k k' X X' h.1 h'.1 (h.2.symm.trans h'.2)
theorem ps_un {W X X' : List Str} {s s' : Sk} (h : PS W s X) (h' : PS W s' X') : s = s' ∧ X = X' := mkS_inj s s' X X' h.1 h'.1 h.2.1 h'.2.1 (h.2.2.symm.trans h'.2.2)
theorem pp_left {W X : List Str} {p : Sk × Sk} (h : PP W p X) : PS W p.1 (("--" : Str) :: (mkS p.2 ++ X)) := ⟨h.1, .inr ⟨_, .inl rfl⟩, h.2.2.2⟩
theorem pp_right {W X : List Str} {p : Sk × Sk} (h : PP W p X) : PS (mkS p.2 ++ X) p.2 X := ⟨h.2.1, h.2.2.1, rfl⟩
theorem pp_mk {W Y X : List Str} {s t : Sk} (h : PS W s (("--" : Str) :: Y)) (h' : PS Y t X) : PP W (s, t) X := ⟨h.1, h'.1, h'.2.1, by rw [← h'.2.2]; exact h.2.2⟩
theorem pk_nil {k : Kd} {X : List Str} (h : PK [] k X) : False := by
  obtain ⟨z, r, e, _⟩ := mkK_beg k h.1
  have := h.2
  rw [e] at this; cases this
theorem pk_beg {z : Str} {r X : List Str} {k : Kd} (h : PK (z :: r) k X) : begB z := by
  obtain ⟨y, s, e, b⟩ := mkK_beg k h.1
  have := h.2
  rw [e] at this
  injection this with e1 _
  rw [e1]; exact b
theorem pk_lst {r X : List Str} {k : Kd} (h : PK (("{" : Str) :: r) k X) : ∃ k', k = .lst k' ∧ PK r k' (("}" : Str) :: X) := by
  obtain ⟨hn, e⟩ := h
  cases k with
  | num => injection e with e _; exact absurd e (by decide +kernel)
  | opn y => injection e with e _; exact absurd e.symm (sm_six hn.1).2.1
  | lst k =>
    have e : ("{" : Str) :: r = ("{" : Str) :: ((mkK k ++ [("}" : Str)]) ++ X) := e
    injection e with _ e
    exact ⟨k, rfl, hn, by rw [e, List.append_assoc]; rfl⟩
  | row a b => injection e with e _; exact absurd e (by decide +kernel)
theorem pk_mkl {r X : List Str} {k : Kd} (h : PK r k (("}" : Str) :: X)) : PK (("{" : Str) :: r) (.lst k) X := ⟨h.1, by rw [h.2]; show _ = ("{" : Str) :: ((mkK k ++ [("}" : Str)]) ++ X); rw [List.append_assoc]; rfl⟩
theorem pk_row {r X : List Str} {k : Kd} (h : PK (("[" : Str) :: r) k X) : ∃ a b, k = .row a b ∧ PP r (a, b) (("]" : Str) :: X) := by
  obtain ⟨hn, e⟩ := h
  cases k with
  | num => injection e with e _; exact absurd e (by decide +kernel)
  | opn y => injection e with e _; exact absurd e.symm (sm_six hn.1).2.2.2.1
  | lst k => injection e with e _; exact absurd e (by decide +kernel)
  | row a b =>
    have e : ("[" : Str) :: r = ("[" : Str) :: ((mkS a ++ ("--" : Str) :: (mkS b ++ [("]" : Str)])) ++ X) := e
    injection e with _ e
    refine ⟨a, b, rfl, hn.1, hn.2, .inr ⟨_, .inr rfl⟩, ?_⟩
    rw [e, List.append_assoc, List.cons_append, List.append_assoc]; rfl
theorem pk_mkr {r X : List Str} {p : Sk × Sk} (h : PP r p (("]" : Str) :: X)) : PK (("[" : Str) :: r) (.row p.1 p.2) X := by
  refine ⟨⟨h.1, h.2.1⟩, ?_⟩
  rw [h.2.2.2]
  show _ = ("[" : Str) :: ((mkS p.1 ++ ("--" : Str) :: (mkS p.2 ++ [("]" : Str)])) ++ X)
  rw [List.append_assoc, List.cons_append, List.append_assoc]; rfl
theorem pk_num (r : List Str) : PK (("number" : Str) :: r) .num r := ⟨trivial, rfl⟩
theorem pk_opn {z : Str} {r : List Str} (h : smB z = true) (l : (TL.tl z).length ≤ 1000) : PK (z :: r) (.opn z) r := ⟨⟨h, l⟩, rfl⟩
/-! the name of the rest -/
theorem ps_nm {z : Str} {r X : List Str} {s : Sk} (hz : gtB z = true) (h : PS (z :: r) s X) : ∃ ks, s = .mk z ks ∧ NKs vP vR ks ∧ r = mkKs ks ++ X := by
  obtain ⟨hn, ex, e⟩ := h
  obtain ⟨y, ks⟩ := s
  have e : z :: r = ((if y = "" then [] else [y]) ++ mkKs ks) ++ X := e
  by_cases hy : y = ""
  · rw [if_pos hy, List.nil_append] at e
    cases ks with
    | nil => exact absurd e.symm (gt_end hz ex)
    | cons k ks =>
      obtain ⟨y', s', e', b⟩ := mkK_beg k hn.2.1
      have e : z :: r = (mkK k ++ mkKs ks) ++ X := e
      rw [e'] at e
      injection e with e _
      exact absurd e (gt_beg hz b)
  · rw [if_neg hy] at e
    injection e with e1 e2
    subst e1
    exact ⟨ks, rfl, hn.2, e2⟩
theorem ps_no {W X : List Str} {s : Sk} (hW : ∀ z r, W = z :: r → gtB z = false) (h : PS W s X) : ∃ ks, s = .mk "" ks ∧ NKs vP vR ks ∧ W = mkKs ks ++ X := by
  obtain ⟨hn, ex, e⟩ := h
  obtain ⟨y, ks⟩ := s
  have e : W = ((if y = "" then [] else [y]) ++ mkKs ks) ++ X := e
  by_cases hy : y = ""
  · rw [if_pos hy, List.nil_append] at e
    exact ⟨ks, by rw [hy], hn.2, e⟩
  · rw [if_neg hy] at e
    have := hW y _ e
    rcases hn.1 with g | g
    · exact absurd g hy
    · rw [this] at g; cases g.1
/-- kinds one behind another -/
theorem nofit : ∀ (ks ks' : List Kd) (W X : List Str), NKs vP vR ks → NKs vP vR ks' → EndX X → mkKs ks' ++ X = mkKs ks ++ W → EndX W ∨ ∃ k Y, PK W k Y
  | [], [], W, X, _, _, ex, e => by
    have e : X = W := e
    exact .inl (e ▸ ex)
  | [], k :: ks', W, X, _, h', _, e => by
    have e : (mkK k ++ mkKs ks') ++ X = W := e
    exact .inr ⟨k, mkKs ks' ++ X, h'.1, by rw [← e, List.append_assoc]⟩
  | k :: ks, [], W, X, h, _, ex, e => by
    obtain ⟨y, s, e', b⟩ := mkK_beg k h.1
    have e : X = (mkK k ++ mkKs ks) ++ W := e
    rw [e'] at e
    exact absurd e (beg_end b ex)
  | k :: ks, k' :: ks', W, X, h, h', ex, e => by
    have e : (mkK k' ++ mkKs ks') ++ X = (mkK k ++ mkKs ks) ++ W := e
    rw [List.append_assoc, List.append_assoc] at e
    exact nofit ks ks' W X h.2 h'.2 ex (mkK_inj _ _ _ _ h'.1 h.1 e).2
theorem mkKs_ge : ∀ {ks : List Kd}, NKs vP vR ks → ks.length ≤ (mkKs ks).length
  | [], _ => Nat.le_refl _
  | k :: ks, h => by
    obtain ⟨y, s, e', _⟩ := mkK_beg k h.1
    have := mkKs_ge h.2
    show ks.length + 1 ≤ (mkK k ++ mkKs ks).length
    rw [List.length_append, e', List.length_cons]; omega
theorem nks_snoc2 {k : Kd} (h : NK vP vR k) {ks : List Kd} (g : NKs vP vR ks) : NKs vP vR (ks ++ [k]) := (NKs_app ks [k]).mpr ⟨g, h, trivial⟩
/-! opened brackets -/
def opnB (z : Str) : Bool := decide (z = "[") || decide (z = "{")
def nb (W : List Str) : Nat := W.countP opnB
theorem nb_cons (z : Str) (W : List Str) : nb W ≤ nb (z :: W) := by unfold nb; rw [List.countP_cons]; omega
theorem nb_app (W X : List Str) : nb X ≤ nb (W ++ X) := by unfold nb; rw [List.countP_append]; omega
theorem nb_open {z : Str} (W : List Str) (h : opnB z = true) : nb (z :: W) = nb W + 1 := by unfold nb; rw [List.countP_cons_of_pos h]
theorem endX_iff (W : List Str) : EndX W ↔ W = [] ∨ ∃ z r, W = z :: r ∧ (z = "--" ∨ z = "]") := by
  constructor
  · rintro (h | ⟨r, h | h⟩)
    · exact .inl h
    · exact .inr ⟨_, r, h, .inl rfl⟩
    · exact .inr ⟨_, r, h, .inr rfl⟩
  · rintro (h | ⟨z, r, h, rfl | rfl⟩)
    · exact .inl h
    · exact .inr ⟨r, .inl h⟩
    · exact .inr ⟨r, .inr h⟩
/-! words that may be compared, and read -/
structure OkW (W : List Str) : Prop where
  ok : ∀ z ∈ W, okS z
  sh : ∀ z ∈ W, (TL.tl z).length ≤ 1000
  ln : W.length ≤ 900000
theorem OkW.tail {z : Str} {W : List Str} (h : OkW (z :: W)) : OkW W := ⟨fun y hy => h.ok y (List.mem_cons_of_mem _ hy), fun y hy => h.sh y (List.mem_cons_of_mem _ hy), by have := h.ln; rw [List.length_cons] at this; omega⟩
theorem OkW.right {W X : List Str} (h : OkW (W ++ X)) : OkW X := ⟨fun y hy => h.ok y (List.mem_append_right _ hy), fun y hy => h.sh y (List.mem_append_right _ hy), by have := h.ln; rw [List.length_append] at this; omega⟩
theorem w_eqW {n : Bool} {p q : Addr} {ws vs : List Str} {G : DG} {Q : DK} (ep : G p = some (.lst (ws.map DV.str))) (eq : G q = some (.lst (vs.map DV.str))) (ok : ∀ z ∈ ws, okS z) (ok' : ∀ z ∈ vs, okS z) (h : Q (.bl (ng n (decide (ws = vs)))) G) : bEq n (.ref p) (.ref q) G Q := by
  have e : decide (ws.map DV.str = vs.map DV.str) = decide (ws = vs) := decq ⟨fun e => (List.map_inj_right (f := DV.str) (fun _ _ e => by injection e)).mp e, fun e => by rw [e]⟩
  cases n
  · refine w_eqLL ep eq (cmps_strs ok).1 (cmps_strs ok').1 (cmps_strs ok).2 (cmps_strs ok').2 ?_
    rw [e]; exact h
  · refine w_neLL ep eq (cmps_strs ok).1 (cmps_strs ok').1 (cmps_strs ok).2 (cmps_strs ok').2 ?_
    rw [e]; exact h
theorem cutD_1 (W : List Str) : cutD (W.map DV.str) none (some 1) = (W.take 1).map DV.str := by
  rw [List.map_take]; exact cutD_to _ 1
theorem cutD_d1 (W : List Str) : cutD (W.map DV.str) (some 1) none = (W.drop 1).map DV.str := by
  rw [List.map_drop]; exact cutD_from _ 1
theorem take1 (W : List Str) (z : Str) : W.take 1 = [z] ↔ ∃ r, W = z :: r := by
  cases W with
  | nil => exact ⟨fun h => (nomatch h), fun ⟨_, h⟩ => (nomatch h)⟩
  | cons a r => exact ⟨fun h => ⟨r, (by injection h with h _; rw [h])⟩, fun ⟨_, h⟩ => (by injection h with h _; rw [h]; rfl)⟩
end DD
set_option maxHeartbeats 1000000
namespace K18
open PySem PySem.W L2 SX Cm DD
local macro_rules | `(tactic| walk_at "d1") => `(tactic| first | (with_reducible refine w_seq ?_) | (with_reducible refine w_next ?_) | ((with_reducible show dVar _ _ _ _); refine w_var rfl ?_) | (with_reducible refine w_asg ?_) | (with_reducible refine w_cons ?_) | (with_reducible refine w_nil ?_) | (with_reducible refine w_c ?_) | (with_reducible refine w_op ?_) | (with_reducible refine w_call ?_) | (with_reducible refine w_CB ?_) | (with_reducible refine w_ret ?_) | (with_reducible refine w_ifS ?_) | (with_reducible refine w_drop ?_) | (with_reducible refine w_tup ?_) | (with_reducible refine w_lst ?_) | (with_reducible refine w_sl ?_) | (with_reducible refine w_none ?_) | (with_reducible refine w_some ?_) | (with_reducible refine w_BM ?_) | (with_reducible refine w_BM0 ?_) | (with_reducible refine w_test ?_) | (with_reducible refine w_tru ?_) | (with_reducible refine w_and ?_) | (with_reducible refine w_or ?_) | (with_reducible refine w_not ?_) | (with_reducible refine w_yes ?_) | (with_reducible refine w_ifE ?_) | (with_reducible refine w_andV ?_) | (with_reducible refine w_orV ?_) | (with_reducible refine w_notV ?_) | (with_reducible refine w_neg ?_) | (with_reducible refine w_rev ?_) | (with_reducible refine w_exI ?_) | (with_reducible refine w_exB ?_) | (with_reducible refine w_exT ?_) | (with_reducible refine w_exS ?_) | (with_reducible refine w_parE ?_) | (with_reducible refine w_par ?_) | (with_reducible refine w_asgS ?_) | (with_reducible refine w_retN ?_) | (with_reducible refine w_break ?_) | (with_reducible refine w_cont ?_) | (with_reducible refine w_truB ?_) | (with_reducible refine w_truI ?_) | (with_reducible refine w_truN ?_) | (with_reducible refine w_truT ?_) | (with_reducible refine w_addI ?_) | (with_reducible refine w_subI ?_) | (with_reducible refine w_cmpI ?_) | (with_reducible refine w_cmpS ?_) | (with_reducible refine w_eqSS ?_) | (with_reducible refine w_eqII ?_) | (with_reducible refine w_eqBB ?_) | (with_reducible refine w_neSS ?_) | (with_reducible refine w_neII ?_) | (with_reducible refine w_neBB ?_) | (with_reducible refine w_eqSN ?_) | (with_reducible refine w_eqIN ?_) | (with_reducible refine w_eqSI ?_) | (with_reducible refine w_eqIS ?_) | (with_reducible refine w_eqNS ?_) | (with_reducible refine w_eqBS ?_) | (with_reducible refine w_eqT0 ?_) | (with_reducible refine w_ix0 ?_) | (with_reducible refine w_ix1 ?_) | (with_reducible refine w_ix2 ?_) | (with_reducible refine w_ix3 ?_) | (with_reducible refine w_slT ?_) | (with_reducible refine w_lenT ?_) | (with_reducible refine w_intB ?_) | (with_reducible refine w_intI ?_) | (with_reducible refine w_tupT ?_) | (with_reducible refine w_rcvS ?_) | (with_reducible refine ly1 ?_) | (with_reducible refine ly2 ?_) | (with_reducible refine lt1' ?_) | (with_reducible refine lt2' ?_) | (with_reducible refine g_n ?_) | (with_reducible refine w_isN ?_) | (with_reducible refine w_isnN ?_) | (with_reducible refine w_for ?_) | (with_reducible refine w_lc ?_) | (with_reducible refine wi_tup ?_) | (with_reducible refine wi_lst ?_) | (with_reducible refine wi_str ?_) | (with_reducible refine wi_rng ?_) | (with_reducible refine wi_rng2 ?_) | (with_reducible refine wi_enumT ?_) | (with_reducible refine wi_enum ?_) | (with_reducible refine wi_rev ?_) | (with_reducible refine wi_revR ?_) | (with_reducible refine wx_enumT ?_) | (with_reducible refine w_callX ?_) | (with_reducible refine w_methX ?_) | (with_reducible refine w_raise ?_) | (with_reducible refine w_try ?_) | (with_reducible refine w_xSet ?_) | (with_reducible refine w_xExpr ?_) | (with_reducible refine w_xLst ?_) | (with_reducible refine w_xTup ?_) | (with_reducible refine w_xCons ?_) | (with_reducible refine w_xNil ?_) | (with_reducible refine w_xE ?_) | (with_reducible refine w_xCall ?_) | (with_reducible refine w_call0 ?_) | (with_reducible refine w_asgL ?_) | (with_reducible refine w_tupPd ?_) | (with_reducible refine wi_zip ?_) | (with_reducible refine w_dnew ?_) | (with_reducible refine w_dget ?_) | (with_reducible refine w_dget2 ?_) | (with_reducible refine w_din ?_) | (with_reducible refine w_dput ?_) | (with_reducible refine w_asgT ?_) | (with_reducible refine g_C ?_) | (with_reducible refine g_0 ?_) | (with_reducible refine w_inS ?_) | (with_reducible refine w_delT ?_) | (with_reducible refine w_dc ?_) | (with_reducible refine w_revL ?_) | (with_reducible refine wi_revT ?_) | (with_reducible refine w_lstZip ?_) | (with_reducible refine w_chain ?_) | (with_reducible refine w_orT ?_) | ((with_reducible show gT _ _ _ _ _ _); refine g_T ?_ rfl) | ((with_reducible show ∃ p, DV.ref _ = _ ∧ (∃ kvs, _) ∧ _); refine wx_get (by walk_at "gq") ?_) | ((with_reducible show ∃ kvs z, _ = _ ∧ _ = some (DO.dct _) ∧ _); refine wx_get2 (by walk_at "gq") ?_) | ((with_reducible show ∃ p kvs z, _ = _ ∧ _ = _ ∧ _ = some (DO.dct _) ∧ _); refine wx_in (by walk_at "gq") ?_) | ((with_reducible show List.length _ = _ ∧ _); refine w_len ?_ rfl) | ((with_reducible show List.length _ ≤ sizeLine ∧ _); refine w_sz ?_ (szl rfl)) | ((with_reducible show bIx _ (.int _) _ _); first | refine w_ix0 ?_ | refine w_ix1 ?_ | refine w_ix2 ?_ | refine w_ix3 ?_) | ((with_reducible show bIsi [_, _] _ _); first | refine w_isi (by decide) (a := "tuple") rfl rfl ?_ | refine w_isi (by decide) (a := "str") rfl rfl ?_ | refine w_isi (by decide) (a := "int") rfl rfl ?_ | refine w_isi (by decide) (a := "bool") rfl rfl ?_ | refine w_isi (by decide) (a := "NoneType") rfl rfl ?_) | ((with_reducible show ∃ ds, _ = DV.tup ds ∧ _); refine w_exT ?_) | ((with_reducible show ∃ z, _ = DV.str z ∧ _); refine w_exS ?_) | ((with_reducible show ∃ ds, [_] = [DV.tup ds] ∧ _); refine wx_enumT ?_) | ((with_reducible show bSl _ _ _ _ _); refine w_slT ?_) | ((with_reducible show bTuple [_] _ _); refine w_tupT ?_) | ((with_reducible show bLen [_] _ _); refine w_lenT ?_) | ((with_reducible show bTru _ _ _); first | refine w_truT ?_ | refine w_truN ?_ | refine w_truB ?_ | refine w_truI ?_) | ((with_reducible show bEq _ _ _ _ _); first | refine w_eqSS ?_ | refine w_eqII ?_ | refine w_neSS ?_ | refine w_neII ?_ | refine w_eqT0 ?_) | ((with_reducible show bInt _ _ (.int _) (.int _) _ _); refine w_int (by first | decide | exact ⟨by decide, by decide, by decide⟩ | exact .inl ⟨by decide, by decide⟩ | exact .inr ⟨by decide, by decide⟩) ?_) | ((with_reducible show if _ = true then _ else _); first | refine w_it (by first | rfl | decide +kernel) ?_ | refine w_if0 (by first | rfl | decide +kernel) ?_) | ((with_reducible show rcv "list" (.ref _) _ ∧ _); refine w_rcvL (by walk_at "gq") ?_) | ((with_reducible show bTuple [.ref _] _ _); refine w_tupL (by walk_at "gq") ?_) | ((with_reducible show bLen [.ref _] _ _); refine w_lenL (by walk_at "gq") ?_) | ((with_reducible show bTru (.ref _) _ _); refine w_truL (by walk_at "gq") ?_) | ((with_reducible show ∃ _ _, DV.ref _ = _ ∧ Ls _ _ _ ∧ _); refine wx_lst (by walk_at "gq") ?_) | ((with_reducible show ∃ _ _, [DV.ref _] = _ ∧ Ls _ _ _ ∧ _); refine wx_lstA (by walk_at "gq") ?_))
local macro_rules | `(tactic| walk_at "dd") => `(tactic| repeat (walk_at "d1"))
local macro_rules | `(tactic| walk_at "gq") => `(tactic| first | assumption | exact dupd_same | exact sub_get (by assumption) (by walk_at "gq") | exact upd_get (by assumption) (by walk_at "gq") (by walk_at "gn") | exact subx_get (by assumption) (by walk_at "gq") (by walk_at "gn") | (refine (dupd_ne ?_).trans ?_; (focus walk_at "gn"); walk_at "gq"))
local macro_rules | `(tactic| walk_at "gs") => `(tactic| first | assumption | exact Sub.refl _ | exact sub_tr (by assumption) (by walk_at "gs") | exact sub_up (by assumption) (by walk_at "gs") (by walk_at "g0") | exact sub_ux (by assumption) (by walk_at "gs") (by walk_at "g0") | (refine Sub.new ?_ ?_; (focus walk_at "gs"); walk_at "g0"))
local macro_rules | `(tactic| walk_at "gk") => `(tactic| first | assumption | exact dk_sub (by assumption) (by walk_at "gk") | exact dk_upd (by assumption) (by walk_at "gk") ⟨_, by walk_at "gq"⟩ | exact dk_updD (by assumption) (by walk_at "gk") ⟨_, by walk_at "gq"⟩)
local macro_rules | `(tactic| walk_at "gu") => `(tactic| first | assumption | exact Upd.refl _ _ | exact upd_in (by assumption) (by walk_at "gu"))
local macro_rules | `(tactic| walk_at "gx") => `(tactic| first | assumption | exact SubX.refl _ _ | exact subx_sub (by assumption) (by walk_at "gx") | exact subx_upd (by assumption) (by walk_at "gx") | exact subx_tr (by assumption) (by walk_at "gx"))
local macro_rules | `(tactic| walk_at "gn") => `(tactic| first | assumption | exact Ne.symm (by assumption) | exact ne_ns (by assumption) ⟨_, by walk_at "gq"⟩ | exact ne_sn (by assumption) ⟨_, by walk_at "gq"⟩)
local macro_rules | `(tactic| walk_at "g0") => `(tactic| first | assumption | exact nn_ (by assumption) (by walk_at "gs"))
local macro_rules | `(tactic| walk_at "gl") => `(tactic| first | exact lv_w | exact lv_t | exact lv_r | exact lv_k)
local macro_rules | `(tactic| walk_at "df") => `(tactic| first | (with_reducible refine w_fld ?_) | (with_reducible refine w_fldS ?_) | (with_reducible refine w_meth ?_) | (with_reducible refine w_make ?_) | (with_reducible refine w_inK ?_) | ((with_reducible show ∃ a' C' fs' d', DV.ref _ = .ref a' ∧ _ ∧ Cls _ C' ∧ NoAttr _ C' _ ∧ List.lookup _ fs' = some d' ∧ _); refine ⟨_, _, _, _, rfl, by walk_at "gq", by assumption, by assumption, by walk_at "gl", ?_⟩))
local macro_rules | `(tactic| walk_at "de") => `(tactic| repeat (first | walk_at "d1" | walk_at "df"))
theorem fm_figs : ∀ x : List Nat, (x.map fun c => DV.str ⟨#[c]⟩).filterMap (fun d => if signD d ∈ figs then some d else none) = (((x.filter fun c => decide (c ∈ figs)).map fun c => (⟨#[c]⟩ : Str)).map DV.str)
  | [] => rfl
  | c :: r => by
    rw [List.map_cons]
    by_cases h : c ∈ figs
    · rw [List.filterMap_cons_some (f := fun d => if signD d ∈ figs then some d else none) (b := DV.str ⟨#[c]⟩) (a := DV.str ⟨#[c]⟩) (if_pos (show signD (DV.str ⟨#[c]⟩) ∈ figs from h)), fm_figs r, List.filter_cons_of_pos (p := fun c => decide (c ∈ figs)) (decide_eq_true h)]; rfl
    · rw [List.filterMap_cons_none (f := fun d => if signD d ∈ figs then some d else none) (a := DV.str ⟨#[c]⟩) (if_neg (show ¬ signD (DV.str ⟨#[c]⟩) ∈ figs from h)), fm_figs r, List.filter_cons_of_neg (p := fun c => decide (c ∈ figs)) (by show ¬ decide (c ∈ figs) = true; rw [decide_eq_false h]; decide)]
theorem nm_law (ls : List Nat) (c : Nat) (r : List Nat) : nmB ls (c :: r) = (decide (c ∈ ls) && (decide ((r.filter fun c => decide (c ∈ figs)).length = r.length) && !decide ((r.filter fun c => decide (c ∈ figs)).take 1 = [48]))) := by
  show (decide (c ∈ ls) && (decide (r = []) || (figB r && !decide (r = [48])))) = _
  congr 1
  cases r with
  | nil => rfl
  | cons d r =>
    by_cases ha : ∀ x ∈ d :: r, x ∈ figs
    · have ef : ((d :: r).filter fun c => decide (c ∈ figs)) = d :: r := List.filter_eq_self.mpr fun x hx => decide_eq_true (ha x hx)
      rw [ef, decide_eq_true (show (d :: r).length = (d :: r).length from rfl), decide_eq_false (show ¬ (d :: r = []) from fun e => by cases e)]
      have e1 : figB (d :: r) = (decide (d :: r = [48]) || !decide (d = 48)) := by
        show (((d :: r).all fun s => decide (s ∈ figs)) && _) = _
        rw [List.all_eq_true.mpr fun x hx => decide_eq_true (ha x hx), Bool.true_and]
      rw [e1]
      have e2 : decide ((d :: r).take 1 = [48]) = decide (d = 48) := decq ⟨fun h => (by injection h), fun h => by rw [h]; rfl⟩
      rw [e2, Bool.true_and, Bool.false_or]
      by_cases h : d = 48
      · subst h
        rw [decide_eq_true (show 48 = 48 from rfl)]
        cases decide (48 :: r = [48]) <;> rfl
      · rw [decide_eq_false h, decide_eq_false (show ¬ (d :: r = [48]) from fun e => h (by injection e))]; rfl
    · have hl : ¬ ((d :: r).filter fun c => decide (c ∈ figs)).length = (d :: r).length := fun e => ha fun x hx => of_decide_eq_true (List.length_filter_eq_length_iff.mp e x hx)
      have e1 : figB (d :: r) = false := by
        show (((d :: r).all fun s => decide (s ∈ figs)) && _) = false
        cases hh : (d :: r).all fun s => decide (s ∈ figs) with
        | false => rfl
        | true => exact absurd (fun x hx => of_decide_eq_true (List.all_eq_true.mp hh x hx)) ha
      rw [e1, decide_eq_false hl, decide_eq_false (show ¬ (d :: r = []) from fun e => by cases e)]; rfl
theorem okS1 (c : Nat) (h : c ∈ figs) : okS (⟨#[c]⟩ : Str) := by
  have : ∀ c ∈ figs, okS (⟨#[c]⟩ : Str) := by decide +kernel
  exact this c h
theorem str1_inj (l : List Nat) : (l.map fun c => (⟨#[c]⟩ : Str)).take 1 = [("0" : Str)] ↔ l.take 1 = [48] := by
  cases l with
  | nil => exact ⟨fun h => (nomatch h), fun h => (nomatch h)⟩
  | cons a r =>
    refine ⟨fun h => ?_, fun h => ?_⟩
    · injection h with h _
      have h : S [a] = S [48] := h.trans e_0
      have := of_decide_eq_true ((decL [a] [48]).symm.trans (decide_eq_true h))
      injection this with this _
      rw [this]; rfl
    · injection h with h _
      rw [h]
      show [S [48]] = _
      rw [← e_0]
section
variable {P : Program} {w : World} {K : Frag} {mg : Str → Option Value} {base : Heap}
abbrev N_L_is_name : List Str := ["_law_thing", "_law_letters", "_law_sign", "_law_figures"]
abbrev A_L_is_name : List Str := ["_law_thing", "_law_letters"]
theorem sc_L_is_name : FnScope N_L_is_name A_L_is_name (defScope s_L_is_name) := ⟨rfl, rfl, rfl, by decide +kernel, rfl, by decide +kernel, by decide +kernel⟩
theorem h_L_is_name (a : At K mg "_law_is_name" s_L_is_name A_L_is_name) (B : BI mg) : Has P w K mg base 1 "_law_is_name" A_L_is_name SP_let := by
  refine at_mk a sc_L_is_name fun f cdv A outer s H E hr ds G R hl h => ?_
  refine ⟨_, (dss_cons (ds_setLc (i := 3) (own := [("_law_sign", 2)]) (lt1 (i := 2) (by decide)) rfl sc_L_is_name.nd rfl rfl (sw_true rfl rfl rfl (by decide +kernel)) (di_str (de_slice (dv 0) (do_some de_int) do_none)) (blkOk_by (own := [("_law_sign", 2)]) (N := N_L_is_name) (sc := defScope s_L_is_name) (by decide +kernel)) (fun _ _ _ _ _ => pg_name (i := 2) sc_L_is_name.nd rfl (Or.inl rfl)) (fun _ _ _ _ _ => (dts_one (dt_cmp od_in (dv 2) de_str rfl))) (fun _ _ _ _ _ => (dv 2)))
    (dss_one (ds_ret (de_and (de_cmp (od_ne hr.units) (de_slice (dv 0) do_none (do_some de_int)) de_str (nomark _)) (de_and (de_cmp od_in (de_ix (dv 0) de_int) (dv 1) rfl) (de_and (de_cmp (od_eq hr.units) (de_callB cd_len B.len rfl (by decide +kernel) (da_cons (dv 3) da_nil)) (de_op od_sub (de_callB cd_len B.len rfl (by decide +kernel) (da_cons (dv 0) da_nil)) de_int) (nomark _)) (de_one (de_cmp (od_ne hr.units) (de_slice (dv 3) do_none (do_some de_int)) (de_lst (da_cons de_str da_nil)) (nomark _))))))))), ?_⟩
  obtain ⟨ls, x, rfl, hl', q⟩ := h
  walk_at "de"
  refine w_slS (hszS hl') ?_
  rw [cutS_from (show (0 : Int) ≤ 1 by decide)]
  walk_at "de"
  rw [signs_S]
  have hd1 : (x.drop (1 : Int).toNat).length ≤ 1000 := by rw [List.length_drop]; omega
  refine lcs_pure (fun d => if signD d ∈ figs then some d else none) (fun _ _ => trivial) (by rw [List.length_map]; omega) ?_ ?_
  · intro d hd G' k1 k0 _ h1 h0
    obtain ⟨c', _, rfl⟩ := List.mem_map.mp hd
    walk_at "de"
    by_cases hc : c' ∈ figs
    · refine w_it (decide_eq_true hc) ?_
      walk_at "de"
      exact h1 _ (if_pos hc)
    · refine w_if0 (decide_eq_false hc) ?_
      exact h0 (if_neg hc)
  · intro p G1 np s1 hp
    rw [fm_figs] at hp
    walk_at "de"
    refine w_slS (hszS hl') ?_
    rw [cutS_to (show (0 : Int) ≤ 1 by decide)]
    walk_at "de"
    rw [e_nil, decL]
    rcases x with _ | ⟨c, r⟩
    · rw [decide_eq_true (show ([] : List Nat).take (1 : Int).toNat = [] from rfl)]
      refine w_if0 rfl ?_
      exact ⟨G, s1, q⟩
    rw [decide_eq_false (show ¬ (c :: r).take (1 : Int).toNat = [] from fun e => by cases e)]
    refine w_it rfl ?_
    walk_at "de"
    refine w_ixS (hszS hl') (atI_0 rfl) ?_
    walk_at "de"
    show if decide (c ∈ (S ls).cps.toList) = true then _ else _
    rw [show (S ls).cps.toList = ls from List.toList_toArray]
    rw [nm_law] at q
    have ed : (c :: r).drop (1 : Int).toNat = r := rfl
    rw [ed] at hp
    by_cases hc : c ∈ ls
    · rw [decide_eq_true hc, Bool.true_and] at q
      refine w_it (decide_eq_true hc) ?_
      walk_at "de"
      refine w_lenS (hszS hl') ?_
      walk_at "de"
      rw [List.length_map, List.length_map, S_len]
      have e1 : decide (((r.filter fun c => decide (c ∈ figs)).length : Int) = ((c :: r).length : Nat) - 1) = decide ((r.filter fun c => decide (c ∈ figs)).length = r.length) := decq (by rw [List.length_cons]; omega)
      rw [e1]
      by_cases hl2 : (r.filter fun c => decide (c ∈ figs)).length = r.length
      · rw [decide_eq_true hl2, Bool.true_and] at q
        refine w_it (decide_eq_true hl2) ?_
        walk_at "de"
        refine w_slL hp fun p1 np1 => ?_
        refine abs_new np1 fun G2 s2 hp1 => ?_
        walk_at "de"
        intro p2 np2
        refine abs_new np2 fun G3 s3 hp2 => ?_
        rw [cutD_1] at hp1
        have hp1' := s3 _ _ hp1
        refine w_eqW (vs := [("0" : Str)]) hp1' hp2 (fun z hz => ?_) (fun z hz => ?_) ?_
        · obtain ⟨c1, hc1, rfl⟩ := List.mem_map.mp (List.mem_of_mem_take hz)
          exact okS1 c1 (of_decide_eq_true (List.mem_filter.mp hc1).2)
        · rw [List.mem_singleton.mp hz]; decide +kernel
        · rw [decq (str1_inj _)]
          exact ⟨G, s1.trans (s2.trans s3), q⟩
      · rw [decide_eq_false hl2, Bool.false_and] at q
        refine w_if0 (decide_eq_false hl2) ?_
        exact ⟨G, s1, q⟩
    · rw [decide_eq_false hc, Bool.false_and] at q
      refine w_if0 (decide_eq_false hc) ?_
      exact ⟨G, s1, q⟩
end
end K18
set_option maxHeartbeats 1000000
namespace K18
open PySem PySem.W L2 SX Cm DD
local macro_rules | `(tactic| walk_at "d1") => `(tactic| first | (with_reducible refine w_seq ?_) | (with_reducible refine w_next ?_) | ((with_reducible show dVar _ _ _ _); refine w_var rfl ?_) | (with_reducible refine w_asg ?_) | (with_reducible refine w_cons ?_) | (with_reducible refine w_nil ?_) | (with_reducible refine w_c ?_) | (with_reducible refine w_op ?_) | (with_reducible refine w_call ?_) | (with_reducible refine w_CB ?_) | (with_reducible refine w_ret ?_) | (with_reducible refine w_ifS ?_) | (with_reducible refine w_drop ?_) | (with_reducible refine w_tup ?_) | (with_reducible refine w_lst ?_) | (with_reducible refine w_sl ?_) | (with_reducible refine w_none ?_) | (with_reducible refine w_some ?_) | (with_reducible refine w_BM ?_) | (with_reducible refine w_BM0 ?_) | (with_reducible refine w_test ?_) | (with_reducible refine w_tru ?_) | (with_reducible refine w_and ?_) | (with_reducible refine w_or ?_) | (with_reducible refine w_not ?_) | (with_reducible refine w_yes ?_) | (with_reducible refine w_ifE ?_) | (with_reducible refine w_andV ?_) | (with_reducible refine w_orV ?_) | (with_reducible refine w_notV ?_) | (with_reducible refine w_neg ?_) | (with_reducible refine w_rev ?_) | (with_reducible refine w_exI ?_) | (with_reducible refine w_exB ?_) | (with_reducible refine w_exT ?_) | (with_reducible refine w_exS ?_) | (with_reducible refine w_parE ?_) | (with_reducible refine w_par ?_) | (with_reducible refine w_asgS ?_) | (with_reducible refine w_retN ?_) | (with_reducible refine w_break ?_) | (with_reducible refine w_cont ?_) | (with_reducible refine w_truB ?_) | (with_reducible refine w_truI ?_) | (with_reducible refine w_truN ?_) | (with_reducible refine w_truT ?_) | (with_reducible refine w_addI ?_) | (with_reducible refine w_subI ?_) | (with_reducible refine w_cmpI ?_) | (with_reducible refine w_cmpS ?_) | (with_reducible refine w_eqSS ?_) | (with_reducible refine w_eqII ?_) | (with_reducible refine w_eqBB ?_) | (with_reducible refine w_neSS ?_) | (with_reducible refine w_neII ?_) | (with_reducible refine w_neBB ?_) | (with_reducible refine w_eqSN ?_) | (with_reducible refine w_eqIN ?_) | (with_reducible refine w_eqSI ?_) | (with_reducible refine w_eqIS ?_) | (with_reducible refine w_eqNS ?_) | (with_reducible refine w_eqBS ?_) | (with_reducible refine w_eqT0 ?_) | (with_reducible refine w_ix0 ?_) | (with_reducible refine w_ix1 ?_) | (with_reducible refine w_ix2 ?_) | (with_reducible refine w_ix3 ?_) | (with_reducible refine w_slT ?_) | (with_reducible refine w_lenT ?_) | (with_reducible refine w_intB ?_) | (with_reducible refine w_intI ?_) | (with_reducible refine w_tupT ?_) | (with_reducible refine w_rcvS ?_) | (with_reducible refine ly1 ?_) | (with_reducible refine ly2 ?_) | (with_reducible refine lt1' ?_) | (with_reducible refine lt2' ?_) | (with_reducible refine g_n ?_) | (with_reducible refine w_isN ?_) | (with_reducible refine w_isnN ?_) | (with_reducible refine w_for ?_) | (with_reducible refine w_lc ?_) | (with_reducible refine wi_tup ?_) | (with_reducible refine wi_lst ?_) | (with_reducible refine wi_str ?_) | (with_reducible refine wi_rng ?_) | (with_reducible refine wi_rng2 ?_) | (with_reducible refine wi_enumT ?_) | (with_reducible refine wi_enum ?_) | (with_reducible refine wi_rev ?_) | (with_reducible refine wi_revR ?_) | (with_reducible refine wx_enumT ?_) | (with_reducible refine w_callX ?_) | (with_reducible refine w_methX ?_) | (with_reducible refine w_raise ?_) | (with_reducible refine w_try ?_) | (with_reducible refine w_xSet ?_) | (with_reducible refine w_xExpr ?_) | (with_reducible refine w_xLst ?_) | (with_reducible refine w_xTup ?_) | (with_reducible refine w_xCons ?_) | (with_reducible refine w_xNil ?_) | (with_reducible refine w_xE ?_) | (with_reducible refine w_xCall ?_) | (with_reducible refine w_call0 ?_) | (with_reducible refine w_asgL ?_) | (with_reducible refine w_tupPd ?_) | (with_reducible refine wi_zip ?_) | (with_reducible refine w_dnew ?_) | (with_reducible refine w_dget ?_) | (with_reducible refine w_dget2 ?_) | (with_reducible refine w_din ?_) | (with_reducible refine w_dput ?_) | (with_reducible refine w_asgT ?_) | (with_reducible refine g_C ?_) | (with_reducible refine g_0 ?_) | (with_reducible refine w_inS ?_) | (with_reducible refine w_delT ?_) | (with_reducible refine w_dc ?_) | (with_reducible refine w_revL ?_) | (with_reducible refine wi_revT ?_) | (with_reducible refine w_lstZip ?_) | (with_reducible refine w_chain ?_) | (with_reducible refine w_orT ?_) | ((with_reducible show gT _ _ _ _ _ _); refine g_T ?_ rfl) | ((with_reducible show ∃ p, DV.ref _ = _ ∧ (∃ kvs, _) ∧ _); refine wx_get (by walk_at "gq") ?_) | ((with_reducible show ∃ kvs z, _ = _ ∧ _ = some (DO.dct _) ∧ _); refine wx_get2 (by walk_at "gq") ?_) | ((with_reducible show ∃ p kvs z, _ = _ ∧ _ = _ ∧ _ = some (DO.dct _) ∧ _); refine wx_in (by walk_at "gq") ?_) | ((with_reducible show List.length _ = _ ∧ _); refine w_len ?_ rfl) | ((with_reducible show List.length _ ≤ sizeLine ∧ _); refine w_sz ?_ (szl rfl)) | ((with_reducible show bIx _ (.int _) _ _); first | refine w_ix0 ?_ | refine w_ix1 ?_ | refine w_ix2 ?_ | refine w_ix3 ?_) | ((with_reducible show bIsi [_, _] _ _); first | refine w_isi (by decide) (a := "tuple") rfl rfl ?_ | refine w_isi (by decide) (a := "str") rfl rfl ?_ | refine w_isi (by decide) (a := "int") rfl rfl ?_ | refine w_isi (by decide) (a := "bool") rfl rfl ?_ | refine w_isi (by decide) (a := "NoneType") rfl rfl ?_) | ((with_reducible show ∃ ds, _ = DV.tup ds ∧ _); refine w_exT ?_) | ((with_reducible show ∃ z, _ = DV.str z ∧ _); refine w_exS ?_) | ((with_reducible show ∃ ds, [_] = [DV.tup ds] ∧ _); refine wx_enumT ?_) | ((with_reducible show bSl _ _ _ _ _); refine w_slT ?_) | ((with_reducible show bTuple [_] _ _); refine w_tupT ?_) | ((with_reducible show bLen [_] _ _); refine w_lenT ?_) | ((with_reducible show bTru _ _ _); first | refine w_truT ?_ | refine w_truN ?_ | refine w_truB ?_ | refine w_truI ?_) | ((with_reducible show bEq _ _ _ _ _); first | refine w_eqSS ?_ | refine w_eqII ?_ | refine w_neSS ?_ | refine w_neII ?_ | refine w_eqT0 ?_) | ((with_reducible show bInt _ _ (.int _) (.int _) _ _); refine w_int (by first | decide | exact ⟨by decide, by decide, by decide⟩ | exact .inl ⟨by decide, by decide⟩ | exact .inr ⟨by decide, by decide⟩) ?_) | ((with_reducible show if _ = true then _ else _); first | refine w_it (by first | rfl | decide +kernel) ?_ | refine w_if0 (by first | rfl | decide +kernel) ?_) | ((with_reducible show rcv "list" (.ref _) _ ∧ _); refine w_rcvL (by walk_at "gq") ?_) | ((with_reducible show bTuple [.ref _] _ _); refine w_tupL (by walk_at "gq") ?_) | ((with_reducible show bLen [.ref _] _ _); refine w_lenL (by walk_at "gq") ?_) | ((with_reducible show bTru (.ref _) _ _); refine w_truL (by walk_at "gq") ?_) | ((with_reducible show ∃ _ _, DV.ref _ = _ ∧ Ls _ _ _ ∧ _); refine wx_lst (by walk_at "gq") ?_) | ((with_reducible show ∃ _ _, [DV.ref _] = _ ∧ Ls _ _ _ ∧ _); refine wx_lstA (by walk_at "gq") ?_))
local macro_rules | `(tactic| walk_at "dd") => `(tactic| repeat (walk_at "d1"))
local macro_rules | `(tactic| walk_at "gq") => `(tactic| first | assumption | exact dupd_same | exact sub_get (by assumption) (by walk_at "gq") | exact upd_get (by assumption) (by walk_at "gq") (by walk_at "gn") | exact subx_get (by assumption) (by walk_at "gq") (by walk_at "gn") | (refine (dupd_ne ?_).trans ?_; (focus walk_at "gn"); walk_at "gq"))
local macro_rules | `(tactic| walk_at "gs") => `(tactic| first | assumption | exact Sub.refl _ | exact sub_tr (by assumption) (by walk_at "gs") | exact sub_up (by assumption) (by walk_at "gs") (by walk_at "g0") | exact sub_ux (by assumption) (by walk_at "gs") (by walk_at "g0") | (refine Sub.new ?_ ?_; (focus walk_at "gs"); walk_at "g0"))
local macro_rules | `(tactic| walk_at "gk") => `(tactic| first | assumption | exact dk_sub (by assumption) (by walk_at "gk") | exact dk_upd (by assumption) (by walk_at "gk") ⟨_, by walk_at "gq"⟩ | exact dk_updD (by assumption) (by walk_at "gk") ⟨_, by walk_at "gq"⟩)
local macro_rules | `(tactic| walk_at "gu") => `(tactic| first | assumption | exact Upd.refl _ _ | exact upd_in (by assumption) (by walk_at "gu"))
local macro_rules | `(tactic| walk_at "gx") => `(tactic| first | assumption | exact SubX.refl _ _ | exact subx_sub (by assumption) (by walk_at "gx") | exact subx_upd (by assumption) (by walk_at "gx") | exact subx_tr (by assumption) (by walk_at "gx"))
local macro_rules | `(tactic| walk_at "gn") => `(tactic| first | assumption | exact Ne.symm (by assumption) | exact ne_ns (by assumption) ⟨_, by walk_at "gq"⟩ | exact ne_sn (by assumption) ⟨_, by walk_at "gq"⟩)
local macro_rules | `(tactic| walk_at "g0") => `(tactic| first | assumption | exact nn_ (by assumption) (by walk_at "gs"))
local macro_rules | `(tactic| walk_at "gl") => `(tactic| first | exact lv_w | exact lv_t | exact lv_r | exact lv_k)
local macro_rules | `(tactic| walk_at "df") => `(tactic| first | (with_reducible refine w_fld ?_) | (with_reducible refine w_fldS ?_) | (with_reducible refine w_meth ?_) | (with_reducible refine w_make ?_) | (with_reducible refine w_inK ?_) | ((with_reducible show ∃ a' C' fs' d', DV.ref _ = .ref a' ∧ _ ∧ Cls _ C' ∧ NoAttr _ C' _ ∧ List.lookup _ fs' = some d' ∧ _); refine ⟨_, _, _, _, rfl, by walk_at "gq", by assumption, by assumption, by walk_at "gl", ?_⟩))
local macro_rules | `(tactic| walk_at "de") => `(tactic| repeat (first | walk_at "d1" | walk_at "df"))
section
variable {P : Program} {w : World} {K : Frag} {mg : Str → Option Value} {base : Heap}
theorem eK_non (k : Kd) : ¬ eK k = .non := by cases k <;> exact fun e => nomatch e
theorem w_in2 {z : Str} {G : DG} {Q : DK} (h : Q (.bl (!decide (z = "--" ∨ z = "]"))) G) : bIn true (.str z) (.tup [.str "--", .str "]"]) G Q := by
  refine w_inT (ds := [("--" : Str), ("]" : Str)].map .str) rfl ?_
  rw [inD_strs, show decide (z ∈ [("--" : Str), ("]" : Str)]) = decide (z = "--" ∨ z = "]") from decq (by simp only [List.mem_cons, List.not_mem_nil, or_false])]
  exact h
theorem eS_non (s : Sk) : ¬ eS s = .non := by cases s; exact fun e => nomatch e
/-- what a reading of words tells: a thing and the words behind, or nothing -/
def Rd {α : Type} (W : List Str) (V : α → DV) (Pr : α → List Str → Prop) (p : Addr) (G : DG) (R : DK) : Prop := (∀ a X, Pr a X → ∀ l G', (G l = none ∨ l = p) → Sub G G' → G' l = some (.lst (X.map .str)) → R (.tup [V a, .ref l]) G') ∧ ((¬ ∃ a X, Pr a X) → ∀ l G', Sub G G' → G' l = some (.lst []) → R (.tup [.non, .ref l]) G')
def SP_qk (j : Nat) : DSp := fun ds G R => ∃ p W, ds = [.ref p] ∧ G p = some (.lst (W.map .str)) ∧ OkW W ∧ nb W < j ∧ Rd W eK (PK W) p G R
def SP_qs (j : Nat) : DSp := fun ds G R => ∃ p W, ds = [.ref p] ∧ G p = some (.lst (W.map .str)) ∧ OkW W ∧ nb W < j ∧ Rd W eS (PS W) p G R
def SP_qp (j : Nat) : DSp := fun ds G R => ∃ p W, ds = [.ref p] ∧ G p = some (.lst (W.map .str)) ∧ OkW W ∧ nb W < j ∧ Rd W eR (PP W) p G R
abbrev A_L_read_kind : List Str := ["_law_words_here"]
abbrev A_L_read_stack : List Str := ["_law_words_here"]
abbrev A_L_read_pair : List Str := ["_law_words_here"]
abbrev N_L_read_kind : List Str := ["_law_words_here", "_law_word", "_law_kind_here", "_law_rest", "_law_pair"]
theorem sc_L_read_kind : FnScope N_L_read_kind A_L_read_kind (defScope s_L_read_kind) := ⟨rfl, rfl, rfl, by decide +kernel, rfl, by decide +kernel, by decide +kernel⟩
theorem h_L_read_kind {j : Nat} (a : At K mg "_law_read_kind" s_L_read_kind A_L_read_kind) (B : BI mg) (c_L_is_name : Has P w K mg base 1 "_law_is_name" A_L_is_name SP_let) (c_L_read_kind : Has P w K mg base (3 * j + 3) "_law_read_kind" A_L_read_kind (SP_qk j)) (c_L_read_pair : Has P w K mg base (3 * j + 5) "_law_read_pair" A_L_read_pair (SP_qp j)) : Has P w K mg base (3 * j + 6) "_law_read_kind" A_L_read_kind (SP_qk (j + 1)) := by
  refine at_mk a sc_L_read_kind fun f cdv A outer s H E hr ds G R hl h => ?_
  refine ⟨_, (dss_cons (ds_set (i := 1) sc_L_read_kind.nd rfl (.inl rfl) (de_ix (de_op od_add (dv 0) (de_lst (da_cons de_str da_nil))) de_int))
    (dss_cons (ds_if (dt_cmp (od_eq hr.units) (dv 1) de_str (nomark _)) (dss_one (ds_ret (de_tup (da_cons (de_tup (da_cons de_str da_nil)) (da_cons (de_slice (dv 0) (do_some de_int) do_none) da_nil))))) dss_nil)
    (dss_cons (ds_if (dt_e (de_call c_L_is_name (hr.mono (by omega)) rfl (da_cons (dv 1) (da_cons de_str da_nil)))) (dss_one (ds_ret (de_tup (da_cons (de_tup (da_cons de_str (da_cons (dv 1) da_nil))) (da_cons (de_slice (dv 0) (do_some de_int) do_none) da_nil))))) dss_nil)
    (dss_cons (ds_if (dt_cmp (od_eq hr.units) (dv 1) de_str (nomark _)) (dss_cons (ds_asg (de_call c_L_read_kind (hr.mono (by omega)) rfl (da_cons (de_slice (dv 0) (do_some de_int) do_none) da_nil)) (dg_tup rfl (dgs_cons (dg_name (i := 2) sc_L_read_kind.nd rfl (.inl rfl)) (dgs_cons (dg_name (i := 3) sc_L_read_kind.nd rfl (.inl rfl)) dgs_nil))))
      (dss_one (ds_if (dt_w (dw_and (dt_cmp od_isnot (dv 2) de_non (nomark _)) (dw_and1 (dt_cmp (od_eq hr.units) (de_slice (dv 3) do_none (do_some de_int)) (de_lst (da_cons de_str da_nil)) (nomark _))))) (dss_one (ds_ret (de_tup (da_cons (de_tup (da_cons de_str (da_cons (dv 2) da_nil))) (da_cons (de_slice (dv 3) (do_some de_int) do_none) da_nil))))) dss_nil))) dss_nil)
    (dss_cons (ds_if (dt_cmp (od_eq hr.units) (dv 1) de_str (nomark _)) (dss_cons (ds_asg (de_call c_L_read_pair (hr.mono (by omega)) rfl (da_cons (de_slice (dv 0) (do_some de_int) do_none) da_nil)) (dg_tup rfl (dgs_cons (dg_name (i := 4) sc_L_read_kind.nd rfl (.inl rfl)) (dgs_cons (dg_name (i := 3) sc_L_read_kind.nd rfl (.inl rfl)) dgs_nil))))
      (dss_one (ds_if (dt_w (dw_and (dt_cmp od_isnot (dv 4) de_non (nomark _)) (dw_and1 (dt_cmp (od_eq hr.units) (de_slice (dv 3) do_none (do_some de_int)) (de_lst (da_cons de_str da_nil)) (nomark _))))) (dss_one (ds_ret (de_tup (da_cons (de_op od_add (de_tup (da_cons de_str da_nil)) (dv 4)) (da_cons (de_slice (dv 3) (do_some de_int) do_none) da_nil))))) dss_nil))) dss_nil)
    (dss_one (ds_ret (de_tup (da_cons de_non (da_cons (de_lst da_nil) da_nil)))))))))), ?_⟩
  obtain ⟨p, W, rfl, hp, ok, hn, q, qn⟩ := h
  walk_at "de"
  intro p1 np1
  refine abs_new np1 fun G1 s1 hp1 => ?_
  refine w_addL (s1 _ _ hp) hp1 (mid (by rw [List.length_map]; have := ok.ln; show W.length + 1 ≤ _; omega)) ?_
  intro p2 np2
  refine abs_new np2 fun G2 s2 hp2 => ?_
  walk_at "de"
  have hpA := s2 _ _ (s1 _ _ hp)
  rcases W with _ | ⟨z, r⟩
  · refine w_ixL hp2 (atI_nat (j := 0) rfl) ?_
    walk_at "de"
    refine ⟨azs, [], by rw [← e_az, ← e_nil], Nat.zero_le _, ?_⟩
    walk_at "de"
    intro l nl
    refine abs_new nl fun G9 s9 h9 => ?_
    walk_at "de"
    exact Less.of (qn (fun ⟨a, X, h⟩ => pk_nil h) l G9 (s1.trans (s2.trans s9)) h9)
  refine w_ixL hp2 (atI_nat (j := 0) rfl) ?_
  walk_at "de"
  have hz1 := ok.sh z (List.mem_cons_self ..)
  by_cases b1 : z = "number"
  · subst b1
    refine w_it (decide_eq_true rfl) ?_
    walk_at "de"
    refine w_slL hpA fun p3 np3 => ?_
    refine abs_new np3 fun G3 s3 hp3 => ?_
    rw [cutD_d1] at hp3
    walk_at "de"
    exact Less.of (q _ _ (pk_num r) p3 G3 (.inl (nn_ np3 (s1.trans s2))) (s1.trans (s2.trans s3)) hp3)
  refine w_if0 (decide_eq_false b1) ?_
  walk_at "de"
  refine ⟨azs, TL.tl z, by rw [← e_az], hz1, ?_⟩
  walk_at "de"
  cases hs : nmB azs (TL.tl z) with
  | true =>
    walk_at "de"
    refine w_slL hpA fun p3 np3 => ?_
    refine abs_new np3 fun G3 s3 hp3 => ?_
    rw [cutD_d1] at hp3
    walk_at "de"
    exact Less.of (q _ _ (pk_opn hs hz1) p3 G3 (.inl (nn_ np3 (s1.trans s2))) (s1.trans (s2.trans s3)) hp3)
  | false =>
  walk_at "de"
  by_cases b2 : z = "{"
  · subst b2
    have hn1 : nb r < j := by rw [nb_open r (by decide +kernel)] at hn; omega
    refine w_it (decide_eq_true rfl) ?_
    walk_at "de"
    refine w_slL hpA fun p3 np3 => ?_
    refine abs_new np3 fun G3 s3 hp3 => ?_
    rw [cutD_d1] at hp3
    walk_at "de"
    refine ⟨p3, r, rfl, hp3, ok.tail, hn1, fun kd X h l G4 fl s4 h4 => ?_, fun hno l G4 s4 h4 => ?_⟩
    · walk_at "de"
      refine w_it (by rw [decide_eq_false (eK_non kd)]; rfl) ?_
      walk_at "de"
      refine w_slL h4 fun p5 np5 => ?_
      refine abs_new np5 fun G5 s5 h5 => ?_
      rw [cutD_1] at h5
      walk_at "de"
      intro p6 np6
      refine abs_new np6 fun G6 s6 h6 => ?_
      have okX : OkW X := (h.2 ▸ ok.tail).right
      refine w_eqW (vs := [("}" : Str)]) (s6 _ _ h5) h6 (fun z hz => okX.ok z (List.mem_of_mem_take hz)) (fun z hz => by rw [List.mem_singleton.mp hz]; decide +kernel) ?_
      walk_at "de"
      have sA : Sub G G6 := s1.trans (s2.trans (s3.trans (s4.trans (s5.trans s6))))
      by_cases hx : X.take 1 = [("}" : Str)]
      · obtain ⟨Y, rfl⟩ := (take1 X "}").mp hx
        refine w_it (decide_eq_true hx) ?_
        walk_at "de"
        refine w_slL (s6 _ _ (s5 _ _ h4)) fun p7 np7 => ?_
        refine abs_new np7 fun G7 s7 h7 => ?_
        rw [cutD_d1] at h7
        walk_at "de"
        exact Less.of (q _ _ (pk_mkl h) p7 G7 (.inl (nn_ np7 sA)) (sA.trans s7) h7)
      · refine w_if0 (decide_eq_false hx) ?_
        walk_at "de"
        intro l nl
        refine abs_new nl fun G9 s9 h9 => ?_
        walk_at "de"
        refine Less.of (qn (fun ⟨a, Y, h'⟩ => ?_) l G9 (sA.trans s9) h9)
        obtain ⟨k', rfl, h''⟩ := pk_lst h'
        exact hx ((take1 X "}").mpr ⟨Y, (pk_un h h'').2⟩)
    · walk_at "de"
      refine w_if0 (by rw [decide_eq_true rfl]; rfl) ?_
      walk_at "de"
      intro l nl
      refine abs_new nl fun G9 s9 h9 => ?_
      walk_at "de"
      refine Less.of (qn (fun ⟨a, Y, h'⟩ => ?_) l G9 (s1.trans (s2.trans (s3.trans (s4.trans s9)))) h9)
      obtain ⟨k', rfl, h''⟩ := pk_lst h'
      exact hno ⟨_, _, h''⟩
  refine w_if0 (decide_eq_false b2) ?_
  walk_at "de"
  by_cases b3 : z = "["
  · subst b3
    have hn1 : nb r < j := by rw [nb_open r (by decide +kernel)] at hn; omega
    refine w_it (decide_eq_true rfl) ?_
    walk_at "de"
    refine w_slL hpA fun p3 np3 => ?_
    refine abs_new np3 fun G3 s3 hp3 => ?_
    rw [cutD_d1] at hp3
    walk_at "de"
    refine ⟨p3, r, rfl, hp3, ok.tail, hn1, fun kd X h l G4 fl s4 h4 => ?_, fun hno l G4 s4 h4 => ?_⟩
    · obtain ⟨ka, kb⟩ := kd
      walk_at "de"
      refine w_it (by rw [decide_eq_false (fun e => nomatch e)]; rfl) ?_
      walk_at "de"
      refine w_slL h4 fun p5 np5 => ?_
      refine abs_new np5 fun G5 s5 h5 => ?_
      rw [cutD_1] at h5
      walk_at "de"
      intro p6 np6
      refine abs_new np6 fun G6 s6 h6 => ?_
      have okX : OkW X := by
        have := h.2.2.2 ▸ ok.tail
        have := OkW.right (OkW.tail (OkW.right this))
        exact this
      refine w_eqW (vs := [("]" : Str)]) (s6 _ _ h5) h6 (fun z hz => okX.ok z (List.mem_of_mem_take hz)) (fun z hz => by rw [List.mem_singleton.mp hz]; decide +kernel) ?_
      walk_at "de"
      have sA : Sub G G6 := s1.trans (s2.trans (s3.trans (s4.trans (s5.trans s6))))
      by_cases hx : X.take 1 = [("]" : Str)]
      · obtain ⟨Y, rfl⟩ := (take1 X "]").mp hx
        refine w_it (decide_eq_true hx) ?_
        walk_at "de"
        refine w_addT (show 1 + 2 ≤ sizeLine from mid (by decide)) ?_
        walk_at "de"
        refine w_slL (s6 _ _ (s5 _ _ h4)) fun p7 np7 => ?_
        refine abs_new np7 fun G7 s7 h7 => ?_
        rw [cutD_d1] at h7
        walk_at "de"
        exact Less.of (q _ _ (pk_mkr h) p7 G7 (.inl (nn_ np7 sA)) (sA.trans s7) h7)
      · refine w_if0 (decide_eq_false hx) ?_
        walk_at "de"
        intro l nl
        refine abs_new nl fun G9 s9 h9 => ?_
        walk_at "de"
        refine Less.of (qn (fun ⟨a, Y, h'⟩ => ?_) l G9 (sA.trans s9) h9)
        obtain ⟨a', b', rfl, h''⟩ := pk_row h'
        have e1 := (ps_un (pp_left h) (pp_left h'')).2
        injection e1 with _ e1
        exact hx ((take1 X "]").mpr ⟨Y, (ps_un (pp_right h) (e1 ▸ pp_right h'')).2⟩)
    · walk_at "de"
      refine w_if0 (by rw [decide_eq_true rfl]; rfl) ?_
      walk_at "de"
      intro l nl
      refine abs_new nl fun G9 s9 h9 => ?_
      walk_at "de"
      refine Less.of (qn (fun ⟨a, Y, h'⟩ => ?_) l G9 (s1.trans (s2.trans (s3.trans (s4.trans s9)))) h9)
      obtain ⟨a', b', rfl, h''⟩ := pk_row h'
      exact hno ⟨_, _, h''⟩
  refine w_if0 (decide_eq_false b3) ?_
  walk_at "de"
  intro l nl
  refine abs_new nl fun G9 s9 h9 => ?_
  walk_at "de"
  refine Less.of (qn (fun ⟨a, Y, h'⟩ => ?_) l G9 (s1.trans (s2.trans s9)) h9)
  rcases pk_beg h' with h | h | h | h
  · exact b1 h
  · have h : nmB azs (TL.tl z) = true := h
    rw [hs] at h; cases h
  · exact b2 h
  · exact b3 h
abbrev N_L_read_stack : List Str := ["_law_words_here", "_law_name_here", "_law_kinds", "_law_kind_here"]
theorem sc_L_read_stack : FnScope N_L_read_stack A_L_read_stack (defScope s_L_read_stack) := ⟨rfl, rfl, rfl, by decide +kernel, rfl, by decide +kernel, by decide +kernel⟩
theorem h_L_read_stack {j : Nat} (a : At K mg "_law_read_stack" s_L_read_stack A_L_read_stack) (B : BI mg) (c_L_is_name : Has P w K mg base 1 "_law_is_name" A_L_is_name SP_let) (c_L_read_kind : Has P w K mg base (3 * j + 3) "_law_read_kind" A_L_read_kind (SP_qk j)) : Has P w K mg base (3 * j + 4) "_law_read_stack" A_L_read_stack (SP_qs j) := by
  refine at_mk a sc_L_read_stack fun f cdv A outer s H E hr ds G R hl h => ?_
  refine ⟨_, (dss_cons (ds_set (i := 1) sc_L_read_stack.nd rfl (.inl rfl) de_str)
    (dss_cons (ds_if (dt_w (dw_and (dt_cmp (od_ne hr.units) (dv 0) (de_lst da_nil) (nomark _)) (dw_and1 (dt_e (de_call c_L_is_name (hr.mono (by omega)) rfl (da_cons (de_ix (dv 0) de_int) (da_cons de_str da_nil))))))) (dss_cons (ds_set (i := 1) sc_L_read_stack.nd rfl (.inl rfl) (de_ix (dv 0) de_int))
      (dss_one (ds_set (i := 0) sc_L_read_stack.nd rfl (.inl rfl) (de_slice (dv 0) (do_some de_int) do_none)))) dss_nil)
    (dss_cons (ds_set (i := 2) sc_L_read_stack.nd rfl (.inl rfl) (de_lst da_nil))
    (dss_cons (ds_while PassesOwn.never (dt_w (dw_and (dt_cmp (od_ne hr.units) (dv 0) (de_lst da_nil) (nomark _)) (dw_and1 (dt_cmp od_notin (de_ix (dv 0) de_int) (de_tup (da_cons de_str (da_cons de_str da_nil))) rfl)))) (dss_cons (ds_asg (de_call c_L_read_kind (hr.mono (by omega)) rfl (da_cons (dv 0) da_nil)) (dg_tup rfl (dgs_cons (dg_name (i := 3) sc_L_read_stack.nd rfl (.inl rfl)) (dgs_cons (dg_name (i := 0) sc_L_read_stack.nd rfl (.inl rfl)) dgs_nil))))
      (dss_cons (ds_if (dt_cmp od_is (dv 3) de_non (nomark _)) (dss_one (ds_ret (de_tup (da_cons de_non (da_cons (de_lst da_nil) da_nil))))) dss_nil)
      (dss_one (ds_expr (de_bm PySem.F.plainAttrs_list PySem.F.slot_list_append PySem.F.type_list_append md_append (dv 2) (da_cons (dv 3) da_nil)))))))
    (dss_one (ds_ret (de_tup (da_cons (de_tup (da_cons (dv 1) (da_cons (de_callTy cd_tuple B.tup rfl (by decide +kernel) (da_cons (dv 2) da_nil)) da_nil))) (da_cons (dv 0) da_nil))))))))), ?_⟩
  obtain ⟨p, W, rfl, hp, ok, hn, q, qn⟩ := h
  walk_at "de"
  intro p1 np1
  refine abs_new np1 fun G1 s1 hp1 => ?_
  walk_at "de"
  have hpA := s1 _ _ hp
  refine w_neL0 hpA hp1 ok.ok ?_
  walk_at "de"
  rcases W with _ | ⟨z, r⟩
  · walk_at "de"
    have sT := s1
    have hpW := hpA
    have okW := ok
    have hnW := hn
    have hfr : p = p ∨ G p = none := .inl rfl
    have fW : ∀ ks X, NKs vP vR ks → EndX X → ([] : List Str) = mkKs ks ++ X → PS [] (.mk "" ks) X := fun ks X h1 h2 h3 => ⟨⟨.inl rfl, h1⟩, h2, h3⟩
    have gW : ∀ s X, PS [] s X → ∃ ks, s = .mk "" ks ∧ NKs vP vR ks ∧ ([] : List Str) = mkKs ks ++ X := fun s X h => ps_no (fun z r e => nomatch e) h
    walk_at "de"
    intro pk npk
    refine abs_new npk fun G3 s3 hk3 => ?_
    walk_at "de"
    refine w_while (fun m δ G' => ∃ pw ks Wc x3, δ = [some (.ref pw), some (.str ""), some (.ref pk), x3] ∧ m = Wc.length ∧ pw ≠ pk ∧ G' pw = some (.lst (Wc.map .str)) ∧ G' pk = some (.lst (eKs ks)) ∧ NKs vP vR ks ∧ ([] : List Str) = mkKs ks ++ Wc ∧ (pw = p ∨ G pw = none) ∧ Sub G1 G') ([] : List Str).length ⟨p, [], ([] : List Str), _, rfl, rfl, (fun e => by rw [e, npk] at hpW; cases hpW), s3 _ _ hpW, hk3, trivial, rfl, hfr, s3⟩ ?_
    rintro m δ G' ⟨pw, ks, Wc, x3, rfl, rfl, hne, hpw, hpk, nks, eW, fr, sG⟩
    have okC : OkW Wc := (eW ▸ okW).right
    have lks : ks.length ≤ 900000 := by
      have l1 := okW.ln
      have l2 := mkKs_ge nks
      rw [eW, List.length_append] at l1
      omega
    walk_at "de"
    intro p5 np5
    refine abs_new np5 fun G5 s5 h5 => ?_
    refine w_neL0 (s5 _ _ hpw) h5 okC.ok ?_
    walk_at "de"
    rcases Wc with _ | ⟨z1, r1⟩
    · walk_at "de"
      have e1 := eW
      rw [List.append_nil] at e1
      exact Less.of (q (.mk "" ks) [] (fW ks [] nks (.inl rfl) eW) pw G5 (fr.symm) (sT.trans (sG.trans s5)) (s5 _ _ hpw))
    walk_at "de"
    refine w_ixL (s5 _ _ hpw) (atI_nat (j := 0) rfl) ?_
    walk_at "de"
    refine w_in2 ?_
    walk_at "de"
    by_cases hz2 : z1 = "--" ∨ z1 = "]"
    · have ex : EndX (z1 :: r1) := (endX_iff _).mpr (.inr ⟨z1, r1, rfl, hz2⟩)
      refine w_if0 (by rw [decide_eq_true hz2]; rfl) ?_
      walk_at "de"
      exact Less.of (q (.mk "" ks) (z1 :: r1) (fW ks _ nks ex eW) pw G5 (fr.symm) (sT.trans (sG.trans s5)) (s5 _ _ hpw))
    have nex : ¬ EndX (z1 :: r1) := fun e => by
      rcases (endX_iff _).mp e with e | ⟨z2, r2, e, h2⟩
      · cases e
      · injection e with e _
        exact hz2 (e ▸ h2)
    refine w_it (by rw [decide_eq_false hz2]; rfl) ?_
    walk_at "de"
    have hnC : nb (z1 :: r1) < j := Nat.lt_of_le_of_lt (by rw [eW]; exact nb_app _ _) hnW
    refine ⟨pw, z1 :: r1, rfl, s5 _ _ hpw, okC, hnC, fun kd X h l G6 fl s6 h6 => ?_, fun hno l G6 s6 h6 => ?_⟩
    · walk_at "de"
      refine w_if0 (decide_eq_false (eK_non kd)) ?_
      walk_at "de"
      have hk6 := s6 _ _ (s5 _ _ hpk)
      have nl : l ≠ pk := by
        rcases fl with e | e
        · intro e'; rw [e', s5 _ _ hpk] at e; cases e
        · rw [e]; exact hne
      refine w_app hk6 (by rw [eKs_len]; exact midlt (by omega)) ?_
      refine abs_upd hk6 fun G7 u7 h7 => ?_
      have eX : X.length < (z1 :: r1).length := by
        obtain ⟨y, s, e', _⟩ := mkK_beg kd h.1
        rw [h.2, List.length_append, e', List.length_cons]; omega
      walk_at "de"
      refine ⟨_, eX, l, ks ++ [kd], X, _, rfl, rfl, nl, (u7 l nl).trans h6, ?_, nks_snoc2 h.1 nks, ?_, ?_, ?_⟩
      · rw [h7, eKs_app]; rfl
      · rw [eW, h.2, mkKs_snoc, List.append_assoc]
      · rcases fl with e | e
        · exact .inr (nn_ e (sT.trans (sG.trans s5)))
        · rw [e]; exact fr
      · have s16 := sG.trans (s5.trans s6)
        exact fun a o e => by
          have : a ≠ pk := fun q => by rw [q, npk] at e; cases e
          rw [u7 a this]; exact s16 a o e
    · walk_at "de"
      refine w_it (decide_eq_true rfl) ?_
      walk_at "de"
      intro l nl
      refine abs_new nl fun G9 s9 h9 => ?_
      walk_at "de"
      refine Less.of (qn (fun ⟨s, X, hs⟩ => ?_) l G9 (sT.trans (sG.trans (s5.trans (s6.trans s9)))) h9)
      obtain ⟨ks', es, nks', eW'⟩ := gW s X hs
      have ex := hs.2.1
      rcases nofit ks ks' _ X nks nks' ex (eW'.symm.trans eW) with h | ⟨k, Y, h⟩
      · exact nex h
      · exact hno ⟨k, Y, h⟩
  walk_at "de"
  refine w_ixL hpA (atI_nat (j := 0) rfl) ?_
  walk_at "de"
  have hz1 := ok.sh z (List.mem_cons_self ..)
  refine ⟨AZs, TL.tl z, by rw [← e_AZ], hz1, ?_⟩
  walk_at "de"
  cases hg : nmB AZs (TL.tl z) with
  | true =>
    have hg' : gtB z = true := hg
    walk_at "de"
    refine w_ixL hpA (atI_nat (j := 0) rfl) ?_
    walk_at "de"
    refine w_slL hpA fun p2 np2 => ?_
    refine abs_new np2 fun G2 s2 hpW => ?_
    rw [cutD_d1] at hpW
    have hpW : G2 p2 = some (.lst (r.map .str)) := hpW
    have sT := s1.trans s2
    have okW := ok.tail
    have hnW : nb r < j := Nat.lt_of_le_of_lt (nb_cons z r) hn
    have hfr : p2 = p ∨ G p2 = none := .inr (nn_ np2 s1)
    have hz0 : z ≠ "" := fun e => by rw [e] at hg'; revert hg'; decide +kernel
    have fW : ∀ ks X, NKs vP vR ks → EndX X → r = mkKs ks ++ X → PS (z :: r) (.mk z ks) X := fun ks X h1 h2 h3 => ⟨⟨.inr ⟨hg', hz1⟩, h1⟩, h2, by rw [h3]; show _ = ((if z = "" then [] else [z]) ++ mkKs ks) ++ X; rw [if_neg hz0]; rfl⟩
    have gW : ∀ s X, PS (z :: r) s X → ∃ ks, s = .mk z ks ∧ NKs vP vR ks ∧ r = mkKs ks ++ X := fun s X h => ps_nm hg' h
    walk_at "de"
    intro pk npk
    refine abs_new npk fun G3 s3 hk3 => ?_
    walk_at "de"
    refine w_while (fun m δ G' => ∃ pw ks Wc x3, δ = [some (.ref pw), some (.str z), some (.ref pk), x3] ∧ m = Wc.length ∧ pw ≠ pk ∧ G' pw = some (.lst (Wc.map .str)) ∧ G' pk = some (.lst (eKs ks)) ∧ NKs vP vR ks ∧ r = mkKs ks ++ Wc ∧ (pw = p ∨ G pw = none) ∧ Sub G2 G') r.length ⟨p2, [], r, _, rfl, rfl, (fun e => by rw [e, npk] at hpW; cases hpW), s3 _ _ hpW, hk3, trivial, rfl, hfr, s3⟩ ?_
    rintro m δ G' ⟨pw, ks, Wc, x3, rfl, rfl, hne, hpw, hpk, nks, eW, fr, sG⟩
    have okC : OkW Wc := (eW ▸ okW).right
    have lks : ks.length ≤ 900000 := by
      have l1 := okW.ln
      have l2 := mkKs_ge nks
      rw [eW, List.length_append] at l1
      omega
    walk_at "de"
    intro p5 np5
    refine abs_new np5 fun G5 s5 h5 => ?_
    refine w_neL0 (s5 _ _ hpw) h5 okC.ok ?_
    walk_at "de"
    rcases Wc with _ | ⟨z1, r1⟩
    · walk_at "de"
      have e1 := eW
      rw [List.append_nil] at e1
      exact Less.of (q (.mk z ks) [] (fW ks [] nks (.inl rfl) eW) pw G5 (fr.symm) (sT.trans (sG.trans s5)) (s5 _ _ hpw))
    walk_at "de"
    refine w_ixL (s5 _ _ hpw) (atI_nat (j := 0) rfl) ?_
    walk_at "de"
    refine w_in2 ?_
    walk_at "de"
    by_cases hz2 : z1 = "--" ∨ z1 = "]"
    · have ex : EndX (z1 :: r1) := (endX_iff _).mpr (.inr ⟨z1, r1, rfl, hz2⟩)
      refine w_if0 (by rw [decide_eq_true hz2]; rfl) ?_
      walk_at "de"
      exact Less.of (q (.mk z ks) (z1 :: r1) (fW ks _ nks ex eW) pw G5 (fr.symm) (sT.trans (sG.trans s5)) (s5 _ _ hpw))
    have nex : ¬ EndX (z1 :: r1) := fun e => by
      rcases (endX_iff _).mp e with e | ⟨z2, r2, e, h2⟩
      · cases e
      · injection e with e _
        exact hz2 (e ▸ h2)
    refine w_it (by rw [decide_eq_false hz2]; rfl) ?_
    walk_at "de"
    have hnC : nb (z1 :: r1) < j := Nat.lt_of_le_of_lt (by rw [eW]; exact nb_app _ _) hnW
    refine ⟨pw, z1 :: r1, rfl, s5 _ _ hpw, okC, hnC, fun kd X h l G6 fl s6 h6 => ?_, fun hno l G6 s6 h6 => ?_⟩
    · walk_at "de"
      refine w_if0 (decide_eq_false (eK_non kd)) ?_
      walk_at "de"
      have hk6 := s6 _ _ (s5 _ _ hpk)
      have nl : l ≠ pk := by
        rcases fl with e | e
        · intro e'; rw [e', s5 _ _ hpk] at e; cases e
        · rw [e]; exact hne
      refine w_app hk6 (by rw [eKs_len]; exact midlt (by omega)) ?_
      refine abs_upd hk6 fun G7 u7 h7 => ?_
      have eX : X.length < (z1 :: r1).length := by
        obtain ⟨y, s, e', _⟩ := mkK_beg kd h.1
        rw [h.2, List.length_append, e', List.length_cons]; omega
      walk_at "de"
      refine ⟨_, eX, l, ks ++ [kd], X, _, rfl, rfl, nl, (u7 l nl).trans h6, ?_, nks_snoc2 h.1 nks, ?_, ?_, ?_⟩
      · rw [h7, eKs_app]; rfl
      · rw [eW, h.2, mkKs_snoc, List.append_assoc]
      · rcases fl with e | e
        · exact .inr (nn_ e (sT.trans (sG.trans s5)))
        · rw [e]; exact fr
      · have s16 := sG.trans (s5.trans s6)
        exact fun a o e => by
          have : a ≠ pk := fun q => by rw [q, npk] at e; cases e
          rw [u7 a this]; exact s16 a o e
    · walk_at "de"
      refine w_it (decide_eq_true rfl) ?_
      walk_at "de"
      intro l nl
      refine abs_new nl fun G9 s9 h9 => ?_
      walk_at "de"
      refine Less.of (qn (fun ⟨s, X, hs⟩ => ?_) l G9 (sT.trans (sG.trans (s5.trans (s6.trans s9)))) h9)
      obtain ⟨ks', es, nks', eW'⟩ := gW s X hs
      have ex := hs.2.1
      rcases nofit ks ks' _ X nks nks' ex (eW'.symm.trans eW) with h | ⟨k, Y, h⟩
      · exact nex h
      · exact hno ⟨k, Y, h⟩
  | false =>
    have hg' : gtB z = false := hg
    walk_at "de"
    have sT := s1
    have hpW := hpA
    have okW := ok
    have hnW := hn
    have hfr : p = p ∨ G p = none := .inl rfl
    have fW : ∀ ks X, NKs vP vR ks → EndX X → z :: r = mkKs ks ++ X → PS (z :: r) (.mk "" ks) X := fun ks X h1 h2 h3 => ⟨⟨.inl rfl, h1⟩, h2, h3⟩
    have gW : ∀ s X, PS (z :: r) s X → ∃ ks, s = .mk "" ks ∧ NKs vP vR ks ∧ z :: r = mkKs ks ++ X := fun s X h => ps_no (fun z' r' e => by injection e with e _; rw [← e]; exact hg') h
    walk_at "de"
    intro pk npk
    refine abs_new npk fun G3 s3 hk3 => ?_
    walk_at "de"
    refine w_while (fun m δ G' => ∃ pw ks Wc x3, δ = [some (.ref pw), some (.str ""), some (.ref pk), x3] ∧ m = Wc.length ∧ pw ≠ pk ∧ G' pw = some (.lst (Wc.map .str)) ∧ G' pk = some (.lst (eKs ks)) ∧ NKs vP vR ks ∧ (z :: r) = mkKs ks ++ Wc ∧ (pw = p ∨ G pw = none) ∧ Sub G1 G') (z :: r).length ⟨p, [], (z :: r), _, rfl, rfl, (fun e => by rw [e, npk] at hpW; cases hpW), s3 _ _ hpW, hk3, trivial, rfl, hfr, s3⟩ ?_
    rintro m δ G' ⟨pw, ks, Wc, x3, rfl, rfl, hne, hpw, hpk, nks, eW, fr, sG⟩
    have okC : OkW Wc := (eW ▸ okW).right
    have lks : ks.length ≤ 900000 := by
      have l1 := okW.ln
      have l2 := mkKs_ge nks
      rw [eW, List.length_append] at l1
      omega
    walk_at "de"
    intro p5 np5
    refine abs_new np5 fun G5 s5 h5 => ?_
    refine w_neL0 (s5 _ _ hpw) h5 okC.ok ?_
    walk_at "de"
    rcases Wc with _ | ⟨z1, r1⟩
    · walk_at "de"
      have e1 := eW
      rw [List.append_nil] at e1
      exact Less.of (q (.mk "" ks) [] (fW ks [] nks (.inl rfl) eW) pw G5 (fr.symm) (sT.trans (sG.trans s5)) (s5 _ _ hpw))
    walk_at "de"
    refine w_ixL (s5 _ _ hpw) (atI_nat (j := 0) rfl) ?_
    walk_at "de"
    refine w_in2 ?_
    walk_at "de"
    by_cases hz2 : z1 = "--" ∨ z1 = "]"
    · have ex : EndX (z1 :: r1) := (endX_iff _).mpr (.inr ⟨z1, r1, rfl, hz2⟩)
      refine w_if0 (by rw [decide_eq_true hz2]; rfl) ?_
      walk_at "de"
      exact Less.of (q (.mk "" ks) (z1 :: r1) (fW ks _ nks ex eW) pw G5 (fr.symm) (sT.trans (sG.trans s5)) (s5 _ _ hpw))
    have nex : ¬ EndX (z1 :: r1) := fun e => by
      rcases (endX_iff _).mp e with e | ⟨z2, r2, e, h2⟩
      · cases e
      · injection e with e _
        exact hz2 (e ▸ h2)
    refine w_it (by rw [decide_eq_false hz2]; rfl) ?_
    walk_at "de"
    have hnC : nb (z1 :: r1) < j := Nat.lt_of_le_of_lt (by rw [eW]; exact nb_app _ _) hnW
    refine ⟨pw, z1 :: r1, rfl, s5 _ _ hpw, okC, hnC, fun kd X h l G6 fl s6 h6 => ?_, fun hno l G6 s6 h6 => ?_⟩
    · walk_at "de"
      refine w_if0 (decide_eq_false (eK_non kd)) ?_
      walk_at "de"
      have hk6 := s6 _ _ (s5 _ _ hpk)
      have nl : l ≠ pk := by
        rcases fl with e | e
        · intro e'; rw [e', s5 _ _ hpk] at e; cases e
        · rw [e]; exact hne
      refine w_app hk6 (by rw [eKs_len]; exact midlt (by omega)) ?_
      refine abs_upd hk6 fun G7 u7 h7 => ?_
      have eX : X.length < (z1 :: r1).length := by
        obtain ⟨y, s, e', _⟩ := mkK_beg kd h.1
        rw [h.2, List.length_append, e', List.length_cons]; omega
      walk_at "de"
      refine ⟨_, eX, l, ks ++ [kd], X, _, rfl, rfl, nl, (u7 l nl).trans h6, ?_, nks_snoc2 h.1 nks, ?_, ?_, ?_⟩
      · rw [h7, eKs_app]; rfl
      · rw [eW, h.2, mkKs_snoc, List.append_assoc]
      · rcases fl with e | e
        · exact .inr (nn_ e (sT.trans (sG.trans s5)))
        · rw [e]; exact fr
      · have s16 := sG.trans (s5.trans s6)
        exact fun a o e => by
          have : a ≠ pk := fun q => by rw [q, npk] at e; cases e
          rw [u7 a this]; exact s16 a o e
    · walk_at "de"
      refine w_it (decide_eq_true rfl) ?_
      walk_at "de"
      intro l nl
      refine abs_new nl fun G9 s9 h9 => ?_
      walk_at "de"
      refine Less.of (qn (fun ⟨s, X, hs⟩ => ?_) l G9 (sT.trans (sG.trans (s5.trans (s6.trans s9)))) h9)
      obtain ⟨ks', es, nks', eW'⟩ := gW s X hs
      have ex := hs.2.1
      rcases nofit ks ks' _ X nks nks' ex (eW'.symm.trans eW) with h | ⟨k, Y, h⟩
      · exact nex h
      · exact hno ⟨k, Y, h⟩
abbrev N_L_read_pair : List Str := ["_law_words_here", "_law_take", "_law_leave"]
theorem sc_L_read_pair : FnScope N_L_read_pair A_L_read_pair (defScope s_L_read_pair) := ⟨rfl, rfl, rfl, by decide +kernel, rfl, by decide +kernel, by decide +kernel⟩
theorem h_L_read_pair {j : Nat} (a : At K mg "_law_read_pair" s_L_read_pair A_L_read_pair) (B : BI mg) (c_L_read_stack : Has P w K mg base (3 * j + 4) "_law_read_stack" A_L_read_stack (SP_qs j)) : Has P w K mg base (3 * j + 5) "_law_read_pair" A_L_read_pair (SP_qp j) := by
  refine at_mk a sc_L_read_pair fun f cdv A outer s H E hr ds G R hl h => ?_
  refine ⟨_, (dss_cons (ds_asg (de_call c_L_read_stack (hr.mono (by omega)) rfl (da_cons (dv 0) da_nil)) (dg_tup rfl (dgs_cons (dg_name (i := 1) sc_L_read_pair.nd rfl (.inl rfl)) (dgs_cons (dg_name (i := 0) sc_L_read_pair.nd rfl (.inl rfl)) dgs_nil))))
    (dss_cons (ds_if (dt_w (dw_or (dt_cmp od_is (dv 1) de_non (nomark _)) (dw_or1 (dt_cmp (od_ne hr.units) (de_slice (dv 0) do_none (do_some de_int)) (de_lst (da_cons de_str da_nil)) (nomark _))))) (dss_one (ds_ret (de_tup (da_cons de_non (da_cons (de_lst da_nil) da_nil))))) dss_nil)
    (dss_cons (ds_asg (de_call c_L_read_stack (hr.mono (by omega)) rfl (da_cons (de_slice (dv 0) (do_some de_int) do_none) da_nil)) (dg_tup rfl (dgs_cons (dg_name (i := 2) sc_L_read_pair.nd rfl (.inl rfl)) (dgs_cons (dg_name (i := 0) sc_L_read_pair.nd rfl (.inl rfl)) dgs_nil))))
    (dss_cons (ds_if (dt_cmp od_is (dv 2) de_non (nomark _)) (dss_one (ds_ret (de_tup (da_cons de_non (da_cons (de_lst da_nil) da_nil))))) dss_nil)
    (dss_one (ds_ret (de_tup (da_cons (de_tup (da_cons (dv 1) (da_cons (dv 2) da_nil))) (da_cons (dv 0) da_nil))))))))), ?_⟩
  obtain ⟨p, W, rfl, hp, ok, hn, q, qn⟩ := h
  walk_at "de"
  refine ⟨p, W, rfl, hp, ok, hn, fun s X h l G1 fl s1 h1 => ?_, fun hno l G1 s1 h1 => ?_⟩
  · walk_at "de"
    refine w_if0 (decide_eq_false (eS_non s)) ?_
    walk_at "de"
    refine w_slL h1 fun p2 np2 => ?_
    refine abs_new np2 fun G2 s2 h2 => ?_
    rw [cutD_1] at h2
    walk_at "de"
    intro p3 np3
    refine abs_new np3 fun G3 s3 h3 => ?_
    have okX : OkW X := (h.2.2 ▸ ok).right
    refine w_eqW (vs := [("--" : Str)]) (s3 _ _ h2) h3 (fun z hz => okX.ok z (List.mem_of_mem_take hz)) (fun z hz => by rw [List.mem_singleton.mp hz]; decide +kernel) ?_
    walk_at "de"
    have sA : Sub G G3 := s1.trans (s2.trans s3)
    by_cases hx : X.take 1 = [("--" : Str)]
    · obtain ⟨Y, rfl⟩ := (take1 X "--").mp hx
      refine w_if0 (by show (!decide ((("--" : Str) :: Y).take 1 = [("--" : Str)])) = false; rw [decide_eq_true hx]; rfl) ?_
      walk_at "de"
      refine w_slL (s3 _ _ (s2 _ _ h1)) fun p4 np4 => ?_
      refine abs_new np4 fun G4 s4 h4 => ?_
      rw [cutD_d1] at h4
      walk_at "de"
      have hnY : nb Y < j := Nat.lt_of_le_of_lt (Nat.le_trans (nb_cons "--" Y) (by rw [h.2.2]; exact nb_app _ _)) hn
      refine ⟨p4, Y, rfl, h4, okX.tail, hnY, fun t X2 h' l2 G5 fl2 s5 h5 => ?_, fun hno l2 G5 s5 h5 => ?_⟩
      · walk_at "de"
        refine w_if0 (decide_eq_false (eS_non t)) ?_
        walk_at "de"
        exact Less.of (q (s, t) X2 (pp_mk h h') l2 G5 (.inl (fl2.elim (fun e => nn_ e (sA.trans s4)) fun e => by rw [e]; exact nn_ np4 sA)) (sA.trans (s4.trans s5)) h5)
      · walk_at "de"
        refine w_it (decide_eq_true rfl) ?_
        walk_at "de"
        intro l nl
        refine abs_new nl fun G9 s9 h9 => ?_
        walk_at "de"
        refine Less.of (qn (fun ⟨a, Z, h'⟩ => ?_) l G9 (sA.trans (s4.trans (s5.trans s9))) h9)
        have e1 := (ps_un h (pp_left h')).2
        injection e1 with _ e1
        exact hno ⟨_, _, e1 ▸ pp_right h'⟩
    · refine w_it (by show (!decide (X.take 1 = [("--" : Str)])) = true; rw [decide_eq_false hx]; rfl) ?_
      walk_at "de"
      intro l nl
      refine abs_new nl fun G9 s9 h9 => ?_
      walk_at "de"
      refine Less.of (qn (fun ⟨a, Z, h'⟩ => ?_) l G9 (sA.trans s9) h9)
      exact hx ((take1 X "--").mpr ⟨_, (ps_un h (pp_left h')).2⟩)
  · walk_at "de"
    refine w_it (decide_eq_true rfl) ?_
    walk_at "de"
    intro l nl
    refine abs_new nl fun G9 s9 h9 => ?_
    walk_at "de"
    refine Less.of (qn (fun ⟨a, Z, h'⟩ => ?_) l G9 (s1.trans s9) h9)
    exact hno ⟨_, _, pp_left h'⟩
end
end K18
set_option maxHeartbeats 1000000
/-! what the machine of marks tells, and what is read off the words -/
namespace DD
open PySem PySem.W L2 SX Cm
mutual
theorem nk_up : ∀ k, NK smP grP k → (∀ y ∈ mkK k, (TL.tl y).length ≤ 1000) → NK vP vR k
  | .num, _, _ => trivial
  | .opn z, h, l => ⟨h, l z (List.mem_singleton.mpr rfl)⟩
  | .lst k, h, l => nk_up k h fun y hy => l y (List.mem_cons_of_mem _ (List.mem_append_left _ hy))
  | .row a b, h, l => ⟨ns_up a h.1 fun y hy => l y (List.mem_cons_of_mem _ (List.mem_append_left _ hy)), ns_up b h.2 fun y hy => l y (List.mem_cons_of_mem _ (List.mem_append_right _ (List.mem_cons_of_mem _ (List.mem_append_left _ hy))))⟩
theorem ns_up : ∀ s, NS smP grP s → (∀ y ∈ mkS s, (TL.tl y).length ≤ 1000) → NS vP vR s
  | .mk r ks, h, l => by
    refine ⟨?_, nks_up ks h.2 fun y hy => l y (List.mem_append_right _ hy)⟩
    rcases h.1 with e | e
    · exact .inl e
    · by_cases hr : r = ""
      · exact .inl hr
      · exact .inr ⟨e, l r (List.mem_append_left _ (by rw [if_neg hr]; exact List.mem_singleton.mpr rfl))⟩
theorem nks_up : ∀ ks, NKs smP grP ks → (∀ y ∈ mkKs ks, (TL.tl y).length ≤ 1000) → NKs vP vR ks
  | [], _, _ => trivial
  | k :: ks, h, l => ⟨nk_up k h.1 fun y hy => l y (List.mem_append_left _ hy), nks_up ks h.2 fun y hy => l y (List.mem_append_right _ hy)⟩
end
theorem ns_dn {s : Sk} (h : NS vP vR s) : NS smP grP s := NS.imp (fun z h => h.1) (fun r h => h.elim .inl fun h => .inr h.1) s h
theorem nb_append (W X : List Str) : nb (W ++ X) = nb W + nb X := by unfold nb; rw [List.countP_append]
mutual
theorem dp_nbK : ∀ k, dpK k ≤ nb (mkK k)
  | .num => Nat.zero_le _
  | .opn _ => Nat.zero_le _
  | .lst k => by
    have := dp_nbK k
    show 1 + dpK k ≤ nb (("{" : Str) :: (mkK k ++ [("}" : Str)]))
    rw [nb_open _ (by decide +kernel), nb_append]; omega
  | .row a b => by
    have := dp_nbS a
    have := dp_nbS b
    have e := nb_cons ("--" : Str) (mkS b ++ [("]" : Str)])
    rw [nb_append] at e
    show 1 + max (dpS a) (dpS b) ≤ nb (("[" : Str) :: (mkS a ++ ("--" : Str) :: (mkS b ++ [("]" : Str)])))
    rw [nb_open _ (by decide +kernel), nb_append]; omega
theorem dp_nbS : ∀ s, dpS s ≤ nb (mkS s)
  | .mk r ks => by
    have := dp_nbKs ks
    show dpKs ks ≤ nb ((if r = "" then [] else [r]) ++ mkKs ks)
    rw [nb_append]; omega
theorem dp_nbKs : ∀ ks, dpKs ks ≤ nb (mkKs ks)
  | [] => Nat.zero_le _
  | k :: ks => by
    have := dp_nbK k
    have := dp_nbKs ks
    show max (dpK k) (dpKs ks) ≤ nb (mkK k ++ mkKs ks)
    rw [nb_append]; omega
end
mutual
theorem nb_szK : ∀ k, NK vP vR k → nb (mkK k) ≤ szK k
  | .num, _ => by show nb [_] ≤ 1; unfold nb; exact Nat.le_trans (List.countP_le_length) (Nat.le_refl _)
  | .opn z, _ => by show nb [_] ≤ 1; unfold nb; exact Nat.le_trans (List.countP_le_length) (Nat.le_refl _)
  | .lst k, h => by
    have := nb_szK k h
    show nb (("{" : Str) :: (mkK k ++ [("}" : Str)])) ≤ 1 + szK k
    rw [nb_open _ (by decide +kernel), nb_append, show nb [("}" : Str)] = 0 from by decide +kernel]; omega
  | .row a b, h => by
    have := nb_szS a h.1
    have := nb_szS b h.2
    show nb (("[" : Str) :: (mkS a ++ (("--" : Str) :: (mkS b ++ [("]" : Str)])))) ≤ 1 + szS a + szS b
    rw [nb_open _ (by decide +kernel), nb_append, show (("--" : Str) :: (mkS b ++ [("]" : Str)])) = [("--" : Str)] ++ (mkS b ++ [("]" : Str)]) from rfl, nb_append, nb_append, show nb [("--" : Str)] = 0 from by decide +kernel, show nb [("]" : Str)] = 0 from by decide +kernel]; omega
theorem nb_szS : ∀ s, NS vP vR s → nb (mkS s) ≤ szS s
  | .mk r ks, h => by
    have := nb_szKs ks h.2
    show nb ((if r = "" then [] else [r]) ++ mkKs ks) ≤ 1 + szKs ks
    rw [nb_append]
    have : nb (if r = "" then [] else [r]) ≤ 1 := by
      unfold nb
      refine Nat.le_trans (List.countP_le_length) ?_
      split
      · exact Nat.zero_le _
      · exact Nat.le_refl _
    omega
theorem nb_szKs : ∀ ks, NKs vP vR ks → nb (mkKs ks) ≤ szKs ks
  | [], _ => Nat.zero_le _
  | k :: ks, h => by
    have := nb_szK k h.1
    have := nb_szKs ks h.2
    show nb (mkK k ++ mkKs ks) ≤ szK k + szKs ks
    rw [nb_append]; omega
end
/-- a row's kind, told or read, is the same -/
theorem told_par {z : Str} {p : Sk × Sk} (l : ∀ y ∈ Txt.split z " ", (TL.tl y).length ≤ 1000) : toldK (wdsOf z) = some p ↔ Txt.split z " " = mkR p ∧ NS vP vR p.1 ∧ NS vP vR p.2 := by
  unfold wdsOf
  by_cases e : z = ""
  · rw [if_pos e, e]
    refine ⟨fun h => (nomatch h), fun ⟨h, _⟩ => ?_⟩
    have hm : ("--" : Str) ∈ mkR p := List.mem_append_right _ (List.mem_cons_self ..)
    rw [← h, show Txt.split ("" : Str) " " = [("" : Str)] from by decide +kernel] at hm
    exact absurd (List.mem_singleton.mp hm) (by decide +kernel)
  · rw [if_neg e]
    obtain ⟨s, t⟩ := p
    rw [told_iff]
    refine ⟨fun ⟨h, h1, h2⟩ => ⟨h, ns_up s h1 fun y hy => l y ?_, ns_up t h2 fun y hy => l y ?_⟩, fun ⟨h, h1, h2⟩ => ⟨h, ns_dn h1, ns_dn h2⟩⟩
    · rw [h]; exact List.mem_append_left _ hy
    · rw [h]; exact List.mem_append_right _ (List.mem_cons_of_mem _ hy)
theorem mkR_inj {p q : Sk × Sk} (h1 : NS vP vR p.1) (h2 : NS vP vR p.2) (g1 : NS vP vR q.1) (g2 : NS vP vR q.2) (e : mkR p = mkR q) : p = q := by
  obtain ⟨a, b⟩ := p
  obtain ⟨c, d⟩ := q
  obtain ⟨e1, e2⟩ := mkS_inj a c _ _ h1 g1 (.inr ⟨_, .inl rfl⟩) (.inr ⟨_, .inl rfl⟩) e
  injection e2 with _ e2
  have := (mkS_inj b d [] [] h2 g2 (.inl rfl) (.inl rfl) (by rw [List.append_nil, List.append_nil]; exact e2)).1
  rw [e1, this]
end DD
/-! != of deep tuples of texts; what is made of texts alone -/
namespace DD
open PySem PySem.W L2 SX Cm
theorem shpW {d : DV} (h : txB d = true) (l : dpt d ≤ 64) : SeqAt.shaped (dat d) = true := by
  obtain ⟨a, b⟩ := lay_dat d h
  unfold SeqAt.shaped
  rw [a, decide_eq_true (show (dat d).depth ≤ 64 by omega)]; rfl
def bNeW : D2 := fun x y G Q => plain x = true ∧ plain y = true ∧ txB x = true ∧ txB y = true ∧ dpt x ≤ 64 ∧ dpt y ≤ 64 ∧ Q (.bl (!decide (x = y))) G
section
variable {X : Cx}
theorem od_neW (hu : X.A.units + 64 < cLine) : OpD X (compareOp .NotEq) bNeW := by
  refine ⟨_, op_neD hu, fun x y vx vy H G R Q rx ry w h f => ?_⟩
  obtain ⟨px, py, tx, ty, lx, ly, q⟩ := h
  exact ⟨_, _, rx.dp (plain_pure _ px), ry.dp (plain_pure _ py), shpW tx lx, shpW ty ly, flat_up w f (by rw [eqv_plain x y px py]; exact q)⟩
end
mutual
/-- texts alone -/
def tx1 : DV → Bool
  | .str _ => true
  | .tup ds => decide (ds.length ≤ 1000000) && tx1s ds
  | _ => false
def tx1s : List DV → Bool
  | [] => true
  | d :: r => tx1 d && tx1s r
end
theorem tx1_mem {d : DV} : ∀ {ds : List DV}, d ∈ ds → tx1s ds = true → tx1 d = true ∧ dpt d ≤ dpts ds
  | x :: r, m, h => by
    have h' := Bool.and_eq_true_iff.mp (show (tx1 x && tx1s r) = true from h)
    have e : dpts (x :: r) = max (dpt x) (dpts r) := rfl
    rcases List.mem_cons.mp m with rfl | m
    · exact ⟨h'.1, by rw [e]; omega⟩
    · have := tx1_mem m h'.2
      exact ⟨this.1, by rw [e]; omega⟩
end DD
set_option maxHeartbeats 1000000
/-! deep things compared, where there is room -/
namespace DD
open PySem PySem.W L2 SX Cm
/-- != of deep data -/
def bNeV : D2 := fun x y G Q => plain x = true ∧ plain y = true ∧ txB x = true ∧ txB y = true ∧ dpt x ≤ 1000 ∧ Q (.bl (!decide (x = y))) G
section
variable {X : Cx}
theorem op_neV (hu : X.A.units + 1000 < cLine) : OpR X (compareOp .NotEq) (fun x y H Q => ∃ d e, Dp X.K H x d ∧ Dp X.K H y e ∧ d.canLay0 = true ∧ e.canLay0 = true ∧ d.depth ≤ 1000 ∧ Q (.bl (!PyData.eqv d e)) H) := by
  intro pins s σ H x y v u Q I rx ry h
  obtain ⟨d, e, hd, he, sd, se, l, q⟩ := h
  obtain ⟨as, r1⟩ := Dp.reads I d x v hd rx
  obtain ⟨bs, r2⟩ := Dp.reads I e y u he ry
  exact SeqAt.compareNe_reads r1 r2 sd se (by have := Nat.min_le_left d.depth e.depth; omega) ⟨.bl _, H, I, rfl, q⟩
theorem od_neV (hu : X.A.units + 1000 < cLine) : OpD X (compareOp .NotEq) bNeV := by
  refine ⟨_, op_neV hu, fun x y vx vy H G R Q rx ry w h f => ?_⟩
  obtain ⟨px, py, tx, ty, lx, q⟩ := h
  obtain ⟨a, b⟩ := lay_dat x tx
  obtain ⟨a', _⟩ := lay_dat y ty
  exact ⟨_, _, rx.dp (plain_pure _ px), ry.dp (plain_pure _ py), a, a', by omega, flat_up w f (by rw [eqv_plain x y px py]; exact q)⟩
end
end DD
set_option maxHeartbeats 1000000
/-! lists: things put in and taken out at a place -/
namespace DD
open PySem PySem.W L2 SX Cm
section
variable {X : Cx}
def bInsert : DM := fun x ds G Q => ∃ (p : Addr) (xs : List DV) (i : Nat) (y : DV), x = .ref p ∧ ds = [.int (i : Int), y] ∧ G p = some (.lst xs) ∧ xs.length < 900000 ∧ i < 900000 ∧ Q .non (dupd G p (.lst (xs.take i ++ [y] ++ xs.drop i)))
theorem md_insert : MtD X "list.insert" bInsert := by
  refine ⟨_, mt_insert, fun x ds vx vs H G R Q rx rs w h f => ?_⟩
  obtain ⟨p, xs, i, y, rfl, rfl, e, l1, l2, q⟩ := h
  cases rx
  cases rs with
  | cons r1 r2 =>
  cases r1
  cases r2 with
  | cons ry rt =>
  cases rt
  obtain ⟨us, hu, r⟩ := wd_list w e
  obtain ⟨t, w'⟩ := put_lst (es := xs.take i ++ [y] ++ xs.drop i) w e hu (((r.take i).append (.cons ry .nil)).append (r.drop i))
  refine ⟨p, us, i, _, rfl, rfl, hu, ?_, by omega, by omega, f _ _ _ _ q t w' .non⟩
  rw [r.len]; exact midlt (by omega)
def bPopI : DM := fun x ds G Q => ∃ (p : Addr) (xs : List DV) (i : Nat) (y : DV), x = .ref p ∧ ds = [.int (i : Int)] ∧ G p = some (.lst xs) ∧ i < 900000 ∧ xs[i]? = some y ∧ Q y (dupd G p (.lst (xs.eraseIdx i)))
theorem md_popI : MtD X "list.pop" bPopI := by
  refine ⟨_, mt_popAt, fun x ds vx vs H G R Q rx rs w h f => ?_⟩
  obtain ⟨p, xs, i, y, rfl, rfl, e, l2, hy, q⟩ := h
  cases rx
  cases rs with
  | cons r1 r2 =>
  cases r2
  cases r1
  obtain ⟨us, hu, r⟩ := wd_list w e
  obtain ⟨t, w'⟩ := put_lst w e hu (r.eraseIdx i)
  obtain ⟨u, h1, h2⟩ := r.get hy
  refine ⟨p, us, i, i, u, rfl, rfl, hu, by omega, by omega, ?_, h1, f _ _ _ _ q t w' (h2.mono t)⟩
  have hi : i < us.length := (List.getElem?_eq_some_iff.mp h1).1
  exact (ixN_seq (by unfold ixN; rw [if_pos (by omega), if_pos (by omega)]; rfl)).1
end
theorem w_insert {p : Addr} {xs : List DV} {i : Nat} {y : DV} {G : DG} {Q : DK} (e : G p = some (.lst xs)) (l : xs.length < 900000) (l' : i < 900000) (h : Q .non (dupd G p (.lst (xs.take i ++ [y] ++ xs.drop i)))) : bInsert (.ref p) [.int (i : Int), y] G Q := ⟨p, xs, i, y, rfl, rfl, e, l, l', h⟩
theorem w_popI {p : Addr} {xs : List DV} {i : Nat} {y : DV} {G : DG} {Q : DK} (e : G p = some (.lst xs)) (l : i < 900000) (hy : xs[i]? = some y) (h : Q y (dupd G p (.lst (xs.eraseIdx i)))) : bPopI (.ref p) [.int (i : Int)] G Q := ⟨p, xs, i, y, rfl, rfl, e, l, hy, h⟩
end DD
/-! a list times a number -/
namespace DD
open PySem PySem.W L2 SX Cm
def bRep : D2 := fun x y G Q => ∃ p k xs, x = .ref p ∧ y = .int k ∧ G p = some (.lst xs) ∧ -(2 ^ 63) ≤ k ∧ k < 2 ^ 63 ∧ xs.length * k.toNat ≤ sizeLine ∧ ∀ r, G r = none → Q (.ref r) (dupd G r (.lst (List.replicate k.toNat xs).flatten))
theorem RVs.rep {K : Frag} {H : Hp} {v : List V} {d : List DV} (r : RVs K H v d) : ∀ n : Nat, RVs K H (List.replicate n v).flatten (List.replicate n d).flatten
  | 0 => .nil
  | n + 1 => by rw [List.replicate_succ, List.replicate_succ, List.flatten_cons, List.flatten_cons]; exact r.append (RVs.rep r n)
section
variable {X : Cx}
theorem od_rep : OpD X (binaryOp .Mult) bRep := by
  refine ⟨_, op_rep, fun x y vx vy H G R Q rx ry w h f => ?_⟩
  obtain ⟨p, k, xs, rfl, rfl, e, h1, h2, hz, q⟩ := h
  cases rx
  cases ry
  obtain ⟨us, hu, r⟩ := wd_list w e
  refine ⟨p, k, us, rfl, rfl, hu, h1, h2, by rw [r.len]; exact hz, fun b nb => ?_⟩
  have s' := same_new nb (.lst (List.replicate k.toNat us).flatten)
  exact f _ _ _ _ (q b (w.free nb)) (TKs.of s') (w.new nb fun O => ⟨_, upd_same, (r.rep _).mono (.of s')⟩) (.ref b)
theorem w_rep {p : Addr} {k : Int} {xs : List DV} {G : DG} {Q : DK} (e : G p = some (.lst xs)) (h1 : -(2 ^ 63) ≤ k) (h2 : k < 2 ^ 63) (hz : xs.length * k.toNat ≤ sizeLine) (h : ∀ r, G r = none → Q (.ref r) (dupd G r (.lst (List.replicate k.toNat xs).flatten))) : bRep (.ref p) (.int k) G Q := ⟨p, k, xs, rfl, rfl, e, h1, h2, hz, h⟩
end
end DD
set_option maxHeartbeats 1000000
namespace K18
open PySem PySem.W L2 SX Cm DD
local macro_rules | `(tactic| walk_at "d1") => `(tactic| first | (with_reducible refine w_seq ?_) | (with_reducible refine w_next ?_) | ((with_reducible show dVar _ _ _ _); refine w_var rfl ?_) | (with_reducible refine w_asg ?_) | (with_reducible refine w_cons ?_) | (with_reducible refine w_nil ?_) | (with_reducible refine w_c ?_) | (with_reducible refine w_op ?_) | (with_reducible refine w_call ?_) | (with_reducible refine w_CB ?_) | (with_reducible refine w_ret ?_) | (with_reducible refine w_ifS ?_) | (with_reducible refine w_drop ?_) | (with_reducible refine w_tup ?_) | (with_reducible refine w_lst ?_) | (with_reducible refine w_sl ?_) | (with_reducible refine w_none ?_) | (with_reducible refine w_some ?_) | (with_reducible refine w_BM ?_) | (with_reducible refine w_BM0 ?_) | (with_reducible refine w_test ?_) | (with_reducible refine w_tru ?_) | (with_reducible refine w_and ?_) | (with_reducible refine w_or ?_) | (with_reducible refine w_not ?_) | (with_reducible refine w_yes ?_) | (with_reducible refine w_ifE ?_) | (with_reducible refine w_andV ?_) | (with_reducible refine w_orV ?_) | (with_reducible refine w_notV ?_) | (with_reducible refine w_neg ?_) | (with_reducible refine w_rev ?_) | (with_reducible refine w_exI ?_) | (with_reducible refine w_exB ?_) | (with_reducible refine w_exT ?_) | (with_reducible refine w_exS ?_) | (with_reducible refine w_parE ?_) | (with_reducible refine w_par ?_) | (with_reducible refine w_asgS ?_) | (with_reducible refine w_retN ?_) | (with_reducible refine w_break ?_) | (with_reducible refine w_cont ?_) | (with_reducible refine w_truB ?_) | (with_reducible refine w_truI ?_) | (with_reducible refine w_truN ?_) | (with_reducible refine w_truT ?_) | (with_reducible refine w_addI ?_) | (with_reducible refine w_subI ?_) | (with_reducible refine w_cmpI ?_) | (with_reducible refine w_cmpS ?_) | (with_reducible refine w_eqSS ?_) | (with_reducible refine w_eqII ?_) | (with_reducible refine w_eqBB ?_) | (with_reducible refine w_neSS ?_) | (with_reducible refine w_neII ?_) | (with_reducible refine w_neBB ?_) | (with_reducible refine w_eqSN ?_) | (with_reducible refine w_eqIN ?_) | (with_reducible refine w_eqSI ?_) | (with_reducible refine w_eqIS ?_) | (with_reducible refine w_eqNS ?_) | (with_reducible refine w_eqBS ?_) | (with_reducible refine w_eqT0 ?_) | (with_reducible refine w_ix0 ?_) | (with_reducible refine w_ix1 ?_) | (with_reducible refine w_ix2 ?_) | (with_reducible refine w_ix3 ?_) | (with_reducible refine w_slT ?_) | (with_reducible refine w_lenT ?_) | (with_reducible refine w_intB ?_) | (with_reducible refine w_intI ?_) | (with_reducible refine w_tupT ?_) | (with_reducible refine w_rcvS ?_) | (with_reducible refine ly1 ?_) | (with_reducible refine ly2 ?_) | (with_reducible refine lt1' ?_) | (with_reducible refine lt2' ?_) | (with_reducible refine g_n ?_) | (with_reducible refine w_isN ?_) | (with_reducible refine w_isnN ?_) | (with_reducible refine w_for ?_) | (with_reducible refine w_lc ?_) | (with_reducible refine wi_tup ?_) | (with_reducible refine wi_lst ?_) | (with_reducible refine wi_str ?_) | (with_reducible refine wi_rng ?_) | (with_reducible refine wi_rng2 ?_) | (with_reducible refine wi_enumT ?_) | (with_reducible refine wi_enum ?_) | (with_reducible refine wi_rev ?_) | (with_reducible refine wi_revR ?_) | (with_reducible refine wx_enumT ?_) | (with_reducible refine w_callX ?_) | (with_reducible refine w_methX ?_) | (with_reducible refine w_raise ?_) | (with_reducible refine w_try ?_) | (with_reducible refine w_xSet ?_) | (with_reducible refine w_xExpr ?_) | (with_reducible refine w_xLst ?_) | (with_reducible refine w_xTup ?_) | (with_reducible refine w_xCons ?_) | (with_reducible refine w_xNil ?_) | (with_reducible refine w_xE ?_) | (with_reducible refine w_xCall ?_) | (with_reducible refine w_call0 ?_) | (with_reducible refine w_asgL ?_) | (with_reducible refine w_tupPd ?_) | (with_reducible refine wi_zip ?_) | (with_reducible refine w_dnew ?_) | (with_reducible refine w_dget ?_) | (with_reducible refine w_dget2 ?_) | (with_reducible refine w_din ?_) | (with_reducible refine w_dput ?_) | (with_reducible refine w_asgT ?_) | (with_reducible refine g_C ?_) | (with_reducible refine g_0 ?_) | (with_reducible refine w_inS ?_) | (with_reducible refine w_delT ?_) | (with_reducible refine w_dc ?_) | (with_reducible refine w_revL ?_) | (with_reducible refine wi_revT ?_) | (with_reducible refine w_lstZip ?_) | (with_reducible refine w_chain ?_) | (with_reducible refine w_orT ?_) | ((with_reducible show gT _ _ _ _ _ _); refine g_T ?_ rfl) | ((with_reducible show ∃ p, DV.ref _ = _ ∧ (∃ kvs, _) ∧ _); refine wx_get (by walk_at "gq") ?_) | ((with_reducible show ∃ kvs z, _ = _ ∧ _ = some (DO.dct _) ∧ _); refine wx_get2 (by walk_at "gq") ?_) | ((with_reducible show ∃ p kvs z, _ = _ ∧ _ = _ ∧ _ = some (DO.dct _) ∧ _); refine wx_in (by walk_at "gq") ?_) | ((with_reducible show List.length _ = _ ∧ _); refine w_len ?_ rfl) | ((with_reducible show List.length _ ≤ sizeLine ∧ _); refine w_sz ?_ (szl rfl)) | ((with_reducible show bIx _ (.int _) _ _); first | refine w_ix0 ?_ | refine w_ix1 ?_ | refine w_ix2 ?_ | refine w_ix3 ?_) | ((with_reducible show bIsi [_, _] _ _); first | refine w_isi (by decide) (a := "tuple") rfl rfl ?_ | refine w_isi (by decide) (a := "str") rfl rfl ?_ | refine w_isi (by decide) (a := "int") rfl rfl ?_ | refine w_isi (by decide) (a := "bool") rfl rfl ?_ | refine w_isi (by decide) (a := "NoneType") rfl rfl ?_) | ((with_reducible show ∃ ds, _ = DV.tup ds ∧ _); refine w_exT ?_) | ((with_reducible show ∃ z, _ = DV.str z ∧ _); refine w_exS ?_) | ((with_reducible show ∃ ds, [_] = [DV.tup ds] ∧ _); refine wx_enumT ?_) | ((with_reducible show bSl _ _ _ _ _); refine w_slT ?_) | ((with_reducible show bTuple [_] _ _); refine w_tupT ?_) | ((with_reducible show bLen [_] _ _); refine w_lenT ?_) | ((with_reducible show bTru _ _ _); first | refine w_truT ?_ | refine w_truN ?_ | refine w_truB ?_ | refine w_truI ?_) | ((with_reducible show bEq _ _ _ _ _); first | refine w_eqSS ?_ | refine w_eqII ?_ | refine w_neSS ?_ | refine w_neII ?_ | refine w_eqT0 ?_) | ((with_reducible show bInt _ _ (.int _) (.int _) _ _); refine w_int (by first | decide | exact ⟨by decide, by decide, by decide⟩ | exact .inl ⟨by decide, by decide⟩ | exact .inr ⟨by decide, by decide⟩) ?_) | ((with_reducible show if _ = true then _ else _); first | refine w_it (by first | rfl | decide +kernel) ?_ | refine w_if0 (by first | rfl | decide +kernel) ?_) | ((with_reducible show rcv "list" (.ref _) _ ∧ _); refine w_rcvL (by walk_at "gq") ?_) | ((with_reducible show bTuple [.ref _] _ _); refine w_tupL (by walk_at "gq") ?_) | ((with_reducible show bLen [.ref _] _ _); refine w_lenL (by walk_at "gq") ?_) | ((with_reducible show bTru (.ref _) _ _); refine w_truL (by walk_at "gq") ?_) | ((with_reducible show ∃ _ _, DV.ref _ = _ ∧ Ls _ _ _ ∧ _); refine wx_lst (by walk_at "gq") ?_) | ((with_reducible show ∃ _ _, [DV.ref _] = _ ∧ Ls _ _ _ ∧ _); refine wx_lstA (by walk_at "gq") ?_))
local macro_rules | `(tactic| walk_at "dd") => `(tactic| repeat (walk_at "d1"))
local macro_rules | `(tactic| walk_at "gq") => `(tactic| first | assumption | exact dupd_same | exact sub_get (by assumption) (by walk_at "gq") | exact upd_get (by assumption) (by walk_at "gq") (by walk_at "gn") | exact subx_get (by assumption) (by walk_at "gq") (by walk_at "gn") | (refine (dupd_ne ?_).trans ?_; (focus walk_at "gn"); walk_at "gq"))
local macro_rules | `(tactic| walk_at "gs") => `(tactic| first | assumption | exact Sub.refl _ | exact sub_tr (by assumption) (by walk_at "gs") | exact sub_up (by assumption) (by walk_at "gs") (by walk_at "g0") | exact sub_ux (by assumption) (by walk_at "gs") (by walk_at "g0") | (refine Sub.new ?_ ?_; (focus walk_at "gs"); walk_at "g0"))
local macro_rules | `(tactic| walk_at "gk") => `(tactic| first | assumption | exact dk_sub (by assumption) (by walk_at "gk") | exact dk_upd (by assumption) (by walk_at "gk") ⟨_, by walk_at "gq"⟩ | exact dk_updD (by assumption) (by walk_at "gk") ⟨_, by walk_at "gq"⟩)
local macro_rules | `(tactic| walk_at "gu") => `(tactic| first | assumption | exact Upd.refl _ _ | exact upd_in (by assumption) (by walk_at "gu"))
local macro_rules | `(tactic| walk_at "gx") => `(tactic| first | assumption | exact SubX.refl _ _ | exact subx_sub (by assumption) (by walk_at "gx") | exact subx_upd (by assumption) (by walk_at "gx") | exact subx_tr (by assumption) (by walk_at "gx"))
local macro_rules | `(tactic| walk_at "gn") => `(tactic| first | assumption | exact Ne.symm (by assumption) | exact ne_ns (by assumption) ⟨_, by walk_at "gq"⟩ | exact ne_sn (by assumption) ⟨_, by walk_at "gq"⟩)
local macro_rules | `(tactic| walk_at "g0") => `(tactic| first | assumption | exact nn_ (by assumption) (by walk_at "gs"))
local macro_rules | `(tactic| walk_at "gl") => `(tactic| first | exact lv_w | exact lv_t | exact lv_r | exact lv_k)
local macro_rules | `(tactic| walk_at "df") => `(tactic| first | (with_reducible refine w_fld ?_) | (with_reducible refine w_fldS ?_) | (with_reducible refine w_meth ?_) | (with_reducible refine w_make ?_) | (with_reducible refine w_inK ?_) | ((with_reducible show ∃ a' C' fs' d', DV.ref _ = .ref a' ∧ _ ∧ Cls _ C' ∧ NoAttr _ C' _ ∧ List.lookup _ fs' = some d' ∧ _); refine ⟨_, _, _, _, rfl, by walk_at "gq", by assumption, by assumption, by walk_at "gl", ?_⟩))
local macro_rules | `(tactic| walk_at "de") => `(tactic| repeat (first | walk_at "d1" | walk_at "df"))
def others : List Str := ["--", "[", "]", "{", "}", "number", "A", "a", "B7", "z9", "A0", "a0", "a01", "", "Number", "numbers", "ab", "-", "---", "A1", "AB", "1", "a_", "A--", "\n", "a\n", "row", "list", "open", "{}", "[]", "--A"]
def voc : List Str := others ++ smalls ++ greats ++ ([("\nA" : Str), ("A\n" : Str)] : List Str)
theorem voc_ok : ∀ y ∈ voc, okS y ∧ (TL.tl y).length ≤ 1000 ∧ y.length ≤ 7 := by decide +kernel
theorem voc_bl : ∀ y ∈ voc, 32 ∉ TL.tl y := by decide +kernel
/-- a text of these words, of which so many open a bracket -/
structure TxOK (c n : Nat) (z : Str) : Prop where
  w : ∀ y ∈ Txt.split z " ", y ∈ voc
  nb : DD.nb (Txt.split z " ") ≤ c
  ln : (Txt.split z " ").length ≤ n
theorem TxOK.okw {c n : Nat} {z : Str} (h : TxOK c n z) (l : n ≤ 10000) : OkW (Txt.split z " ") := ⟨fun y hy => (voc_ok y (h.w y hy)).1, fun y hy => (voc_ok y (h.w y hy)).2.1, by have := h.ln; omega⟩
theorem sum7 : ∀ {l : List Str}, (∀ y ∈ l, y.length ≤ 7) → (l.map (·.length)).sum ≤ 7 * l.length
  | [], _ => Nat.le_refl _
  | a :: r, h => by
    have := sum7 (l := r) fun y hy => h y (List.mem_cons_of_mem _ hy)
    have := h a (List.mem_cons_self ..)
    rw [List.map_cons, List.sum_cons, List.length_cons]; omega
theorem TxOK.len {c n : Nat} {z : Str} (h : TxOK c n z) : z.length ≤ 8 * n := by
  have e := PySem.StrLaws.join_split z " "
  have l := h.ln
  have s := sum7 fun y hy => (voc_ok y (h.w y hy)).2.2
  have e1 : (" " : Str).length = 1 := by decide +kernel
  generalize Txt.split z " " = W at e l s
  rw [← e]
  cases W with
  | nil => exact Nat.zero_le _
  | cons a r =>
    rw [PyProof.Rows.len_join_cons, e1, Nat.mul_one]
    rw [List.length_cons] at l s
    omega
def vocW (W : List Str) : Prop := ∀ y ∈ W, y ∈ voc
theorem spl_join {W : List Str} (h : vocW W) (ne : W ≠ []) : Txt.split (Txt.join " " W) " " = W := TL.split_join (y := (" " : Str)) (s := 32) (S := []) (by decide +kernel) (by decide +kernel) ne (fun y hy => voc_bl y (h y hy))
/-- words that came of a text, joined -/
structure WsOK (c n : Nat) (W : List Str) : Prop where
  w : vocW W
  nb : DD.nb W ≤ c
  ln : W.length ≤ n
theorem WsOK.joined {c n : Nat} {W : List Str} (h : WsOK c n W) (n1 : 1 ≤ n) : WsOK c n (Txt.split (Txt.join " " W) " ") := by
  by_cases ne : W = []
  · subst ne
    rw [show Txt.split (Txt.join " " []) " " = [("" : Str)] from by decide +kernel]
    exact ⟨by unfold vocW; decide +kernel, by rw [show DD.nb [("" : Str)] = 0 from by decide +kernel]; exact Nat.zero_le _, n1⟩
  · rw [spl_join h.w ne]; exact h
theorem WsOK.tx {c n : Nat} {z : Str} (h : WsOK c n (Txt.split z " ")) : TxOK c n z := ⟨h.w, h.nb, h.ln⟩
section
variable {P : Program} {w : World} {K : Frag} {mg : Str → Option Value} {base : Heap}
theorem all_q (a1 : At K mg "_law_read_kind" s_L_read_kind A_L_read_kind) (a2 : At K mg "_law_read_stack" s_L_read_stack A_L_read_stack) (a3 : At K mg "_law_read_pair" s_L_read_pair A_L_read_pair) (B : BI mg) (cn : Has P w K mg base 1 "_law_is_name" A_L_is_name SP_let) :
    ∀ j, Has P w K mg base (3 * j + 3) "_law_read_kind" A_L_read_kind (SP_qk j) ∧ Has P w K mg base (3 * j + 5) "_law_read_pair" A_L_read_pair (SP_qp j) := by
  intro j
  induction j with
  | zero =>
    have t : Has P w K mg base (3 * 0 + 3) "_law_read_kind" A_L_read_kind (SP_qk 0) := by
      refine at_mk a1 sc_L_read_kind fun f cdv A outer s H E hr ds G R hl h => ?_
      obtain ⟨p, W, _, _, _, hn, _⟩ := h
      exact absurd hn (Nat.not_lt_zero _)
    exact ⟨t, h_L_read_pair a3 B (h_L_read_stack a2 B cn t)⟩
  | succ j ih =>
    have t : Has P w K mg base (3 * (j + 1) + 3) "_law_read_kind" A_L_read_kind (SP_qk (j + 1)) := h_L_read_kind a1 B cn ih.1 ih.2
    exact ⟨t, h_L_read_pair a3 B (h_L_read_stack a2 B cn t)⟩
/-- what a text tells: a row's kind, or nothing -/
abbrev Tells (z : Str) (G : DG) (R : DK) : Prop := (∀ p, Txt.split z " " = mkR p → NS vP vR p.1 → NS vP vR p.2 → R (eR p) G) ∧ ((¬ ∃ p, Txt.split z " " = mkR p ∧ NS vP vR p.1 ∧ NS vP vR p.2) → R .non G)
def SP_rd (j : Nat) : DSp := fun ds G R => ∃ z c n, ds = [.str z] ∧ TxOK c n z ∧ n ≤ 10000 ∧ c < j ∧ Tells z G R
def SP_tl : DSp := fun ds G R => ∃ d, ds = [d] ∧ ((∃ z c n, d = .str z ∧ TxOK c n z ∧ n ≤ 10000 ∧ Tells z G R) ∨ ((∃ a, TyAt G d a ∧ tyB a "str" = false) ∧ R .non G))
abbrev N_L_read : List Str := ["_law_text", "_law_pair", "_law_words_here"]
abbrev A_L_read : List Str := ["_law_text"]
theorem sc_L_read : FnScope N_L_read A_L_read (defScope s_L_read) := ⟨rfl, rfl, rfl, by decide +kernel, rfl, by decide +kernel, by decide +kernel⟩
theorem h_L_read {j : Nat} (a : At K mg "_law_read" s_L_read A_L_read) (B : BI mg) (c_L_read_pair : Has P w K mg base (3 * j + 5) "_law_read_pair" A_L_read_pair (SP_qp j)) : Has P w K mg base (3 * j + 6) "_law_read" A_L_read (SP_rd j) := by
  refine at_mk a sc_L_read fun f cdv A outer s H E hr ds G R hl h => ?_
  refine ⟨_, (dss_cons (ds_asg (de_call c_L_read_pair (hr.mono (by omega)) rfl (da_cons (de_bm PySem.F.plainAttrs_str PySem.F.slot_str_split PySem.F.type_str_split md_split (dv 0) (da_cons de_str da_nil)) da_nil)) (dg_tup rfl (dgs_cons (dg_name (i := 1) sc_L_read.nd rfl (.inl rfl)) (dgs_cons (dg_name (i := 2) sc_L_read.nd rfl (.inl rfl)) dgs_nil))))
    (dss_cons (ds_if (dt_cmp (od_ne hr.units) (dv 2) (de_lst da_nil) (nomark _)) (dss_one (ds_ret de_non)) dss_nil)
    (dss_one (ds_ret (dv 1))))), ?_⟩
  obtain ⟨z, c, n, rfl, ht, ln, hc, q, qn⟩ := h
  walk_at "de"
  have ok := ht.okw ln
  have hl1 := ht.len
  refine w_split rfl (mid (show z.length + 2 ≤ 1000000 by omega)) ?_
  intro p np
  refine abs_new np fun G1 s1 hp => ?_
  walk_at "de"
  refine ⟨p, _, rfl, hp, ok, Nat.lt_of_le_of_lt ht.nb hc, fun kd X h l G2 fl s2 h2 => ?_, fun hno l G2 s2 h2 => ?_⟩
  · walk_at "de"
    intro p3 np3
    refine abs_new np3 fun G3 s3 h3 => ?_
    have okX : OkW X := by
      have := h.2.2.2 ▸ ok
      exact OkW.right (OkW.tail (OkW.right this))
    refine w_neL0 (s3 _ _ h2) h3 okX.ok ?_
    walk_at "de"
    cases X with
    | nil =>
      walk_at "de"
      exact ⟨G, s1.trans (s2.trans s3), q kd (by rw [h.2.2.2, List.append_nil]; rfl) h.1 h.2.1⟩
    | cons x X =>
      walk_at "de"
      refine ⟨G, s1.trans (s2.trans s3), qn fun ⟨p', e1, e2, e3⟩ => ?_⟩
      have h' : PP (Txt.split z " ") p' [] := ⟨e2, e3, .inl rfl, by rw [List.append_nil]; exact e1⟩
      obtain ⟨e4, e5⟩ := ps_un (pp_left h) (pp_left h')
      injection e5 with _ e5
      have e6 := (ps_un (pp_right h) (e5 ▸ pp_right h')).2
      cases e6
  · walk_at "de"
    intro p3 np3
    refine abs_new np3 fun G3 s3 h3 => ?_
    refine w_neL0 (ws := []) (s3 _ _ h2) h3 (fun _ h => nomatch h) ?_
    walk_at "de"
    refine ⟨G, s1.trans (s2.trans s3), qn fun ⟨p', e1, e2, e3⟩ => hno ⟨p', [], e2, e3, .inl rfl, by rw [List.append_nil]; exact e1⟩⟩
abbrev N_L_told : List Str := ["_law_thing", "_law_error", "_law_found", "e", "_law_others"]
abbrev A_L_told : List Str := ["_law_thing"]
theorem sc_L_told : FnScope N_L_told A_L_told (defScope s_L_told) := ⟨rfl, rfl, rfl, by decide +kernel, rfl, by decide +kernel, by decide +kernel⟩
theorem h_L_told (a : At K mg "_law_told" s_L_told A_L_told) {e_NoText : Addr} (B : BI mg) (c_p_read_kind : HasX P w K mg base 6 "read_kind" A_p_read_kind (SP_rk e_NoText)) {e_TakeError : Addr} (m_TakeError : mg "TakeError" = some (.ref e_TakeError)) {e_NoStep : Addr} (m_NoStep : mg "NoStep" = some (.ref e_NoStep)) {e_NoShuffle : Addr} (m_NoShuffle : mg "NoShuffle" = some (.ref e_NoShuffle)) {e_NoRow : Addr} (m_NoRow : mg "NoRow" = some (.ref e_NoRow)) (m_ValueError : mg "ValueError" = none) {e_Twice : Addr} (m_Twice : mg "Twice" = some (.ref e_Twice)) {e_NoTurn : Addr} (m_NoTurn : mg "NoTurn" = some (.ref e_NoTurn)) (m_NoText : mg "NoText" = some (.ref e_NoText)) (XM : exmOne K (.ref e_NoText) (.ref e_TakeError) = some true) (XE : ExcC K e_NoText) (k1 : kitOne K (.ref e_NoText) (.ref e_NoRow) = some false) (k2 : kitOne K (.ref e_NoText) (.ref e_NoShuffle) = some false) (k3 : kitOne K (.ref e_NoText) (.ref e_NoStep) = some false) (k4 : kitOne K (.ref e_NoText) (.ref e_NoTurn) = some false) (k5 : kitOne K (.ref e_NoText) (.ref e_Twice) = some false) (kv : kitOne K (.ref e_NoText) (.type "ValueError") = some true) (kt : kitOne K (.ref e_NoText) (.ref e_NoText) = some true) : Has P w K mg base 7 "_law_told" A_L_told SP_tl := by
  refine at_mk a sc_L_told fun f cdv A outer s H E hr ds G R hl h => ?_
  refine ⟨_, (dss_cons (ds_set (i := 1) sc_L_told.nd rfl (.inl rfl) de_non)
    (dss_cons (ds_set (i := 2) sc_L_told.nd rfl (.inl rfl) de_non)
    (dss_cons (ds_try (i := 3) rfl rfl sc_L_told.nd rfl rfl ⟨rfl, by decide, .inl m_TakeError⟩ (dssx_set (i := 2) sc_L_told.nd rfl (.inl rfl) (dex_call c_p_read_kind (hr.mono (by omega)) rfl (fun _ _ => (da_cons (dv 0) da_nil)))) (fun a oe cls d pn hz hv hd => (dss_one (ds_set (i := 1) sc_L_told.nd rfl (.inl rfl) (dv 3)))))
    (dss_cons (ds_if (dt_cmp od_is (dv 1) de_non (nomark _)) (dss_one (ds_ret (de_ix (de_lst (da_cons (dv 2) (da_cons de_str da_nil))) (de_callTy cd_int B.int rfl (by decide +kernel) (da_cons (de_cmp od_is (dv 2) de_non (nomark _)) da_nil))))) dss_nil)
    (dss_cons (ds_set (i := 4) sc_L_told.nd rfl (.inl rfl) (de_lst (da_cons (de_callB cd_isH B.isi rfl (by decide +kernel) (da_cons (dv 1) (da_cons (de_gref m_NoRow rfl) da_nil))) (da_cons (de_callB cd_isH B.isi rfl (by decide +kernel) (da_cons (dv 1) (da_cons (de_gref m_NoShuffle rfl) da_nil))) (da_cons (de_callB cd_isH B.isi rfl (by decide +kernel) (da_cons (dv 1) (da_cons (de_gref m_NoStep rfl) da_nil))) da_nil)))))
    (dss_cons (ds_set (i := 4) sc_L_told.nd rfl (.inl rfl) (de_op od_add (dv 4) (de_lst (da_cons (de_callB cd_isH B.isi rfl (by decide +kernel) (da_cons (dv 1) (da_cons (de_gref m_NoTurn rfl) da_nil))) (da_cons (de_callB cd_isH B.isi rfl (by decide +kernel) (da_cons (dv 1) (da_cons (de_gref m_Twice rfl) da_nil))) (da_cons (de_not (de_callB cd_isH B.isi rfl (by decide +kernel) (da_cons (dv 1) (da_cons (de_ty (n := "ValueError") m_ValueError rfl (by decide +kernel)) da_nil)))) da_nil))))))
    (dss_one (ds_ret (de_ix (de_lst (da_cons de_non (da_cons de_str da_nil))) (de_callTy cd_int B.int rfl (by decide +kernel) (da_cons (de_or (de_cmp (od_ne hr.units) (dv 4) (de_op od_rep (de_lst (da_cons de_bl da_nil)) de_int) (nomark _)) (de_one (de_not (de_callB cd_isH B.isi rfl (by decide +kernel) (da_cons (dv 1) (da_cons (de_gref m_NoText rfl) da_nil)))))) da_nil))))))))))), ?_⟩
  obtain ⟨d, rfl, h⟩ := h
  walk_at "de"
  refine ⟨d, rfl, ?_⟩
  rcases h with ⟨z, c, n, rfl, ht, ln, q, qn⟩ | ⟨ty, q⟩
  · have hw := fun y hy => (voc_ok y (ht.w y hy)).2.1
    refine .inl ⟨z, rfl, (by have := ht.len; show z.length ≤ 200000; omega), fun y hy => hw y (word_in hy), fun s0 t0 et => ?_, fun et => ?_⟩
    · obtain ⟨e1, e2, e3⟩ := (told_par hw).mp et
      walk_at "de"
      refine w_it (decide_eq_true rfl) ?_
      walk_at "de"
      intro p1 np1
      refine abs_new np1 fun G1 s1 h1 => ?_
      walk_at "de"
      refine w_ixL h1 (by rw [decide_eq_false (show ¬ eR (s0, t0) = DV.non from fun e => nomatch e)]; exact atI_nat (j := 0) rfl) ?_
      exact ⟨G, s1, q (s0, t0) e1 e2 e3⟩
    · have q : R .non G := qn fun ⟨p, e⟩ => by rw [(told_par hw).mpr e] at et; cases et
      refine ⟨XM, fun a na => ?_⟩
      walk_at "de"
      intro na2
      refine abs_new na2 fun G1 s1 h1 => ?_
      walk_at "de"
      refine w_if0 (decide_eq_false (fun e => nomatch e)) ?_
      walk_at "de"
      refine w_isH h1 XE rfl k1 ?_
      walk_at "de"
      refine w_isH h1 XE rfl k2 ?_
      walk_at "de"
      refine w_isH h1 XE rfl k3 ?_
      walk_at "de"
      intro p2 np2
      refine abs_new np2 fun G2 s2 h2 => ?_
      walk_at "de"
      have h1b := s2 _ _ h1
      refine w_isH h1b XE rfl k4 ?_
      walk_at "de"
      refine w_isH h1b XE rfl k5 ?_
      walk_at "de"
      refine w_isH h1b XE rfl kv ?_
      walk_at "de"
      intro p3 np3
      refine abs_new np3 fun G3 s3 h3 => ?_
      refine w_addL (s3 _ _ h2) h3 (mid (by decide)) ?_
      intro p4 np4
      refine abs_new np4 fun G4 s4 h4 => ?_
      walk_at "de"
      intro p5 np5
      refine abs_new np5 fun G5 s5 h5 => ?_
      walk_at "de"
      intro p6 np6
      refine abs_new np6 fun G6 s6 h6 => ?_
      walk_at "de"
      refine w_rep h6 (by decide) (by decide) (mid (by decide)) ?_
      intro p7 np7
      refine abs_new np7 fun G7 s7 h7 => ?_
      walk_at "de"
      have h4b := s7 _ _ (s6 _ _ (s5 _ _ h4))
      refine ⟨_, _, .inl h4b, .inl h7, .inr ⟨⟨rfl, rfl, by decide⟩, ⟨rfl, rfl, by decide⟩, ?_⟩⟩
      walk_at "de"
      refine w_isH (s7 _ _ (s6 _ _ (s5 _ _ (s4 _ _ (s3 _ _ h1b))))) XE rfl kt ?_
      walk_at "de"
      refine w_ixL (s7 _ _ (s6 _ _ h5)) (atI_nat (j := 0) rfl) ?_
      exact ⟨G, s1.trans (s2.trans (s3.trans (s4.trans (s5.trans (s6.trans s7))))), q⟩
  · refine .inr ⟨ty, ?_⟩
    refine ⟨XM, fun a na => ?_⟩
    walk_at "de"
    intro na2
    refine abs_new na2 fun G1 s1 h1 => ?_
    walk_at "de"
    refine w_if0 (decide_eq_false (fun e => nomatch e)) ?_
    walk_at "de"
    refine w_isH h1 XE rfl k1 ?_
    walk_at "de"
    refine w_isH h1 XE rfl k2 ?_
    walk_at "de"
    refine w_isH h1 XE rfl k3 ?_
    walk_at "de"
    intro p2 np2
    refine abs_new np2 fun G2 s2 h2 => ?_
    walk_at "de"
    have h1b := s2 _ _ h1
    refine w_isH h1b XE rfl k4 ?_
    walk_at "de"
    refine w_isH h1b XE rfl k5 ?_
    walk_at "de"
    refine w_isH h1b XE rfl kv ?_
    walk_at "de"
    intro p3 np3
    refine abs_new np3 fun G3 s3 h3 => ?_
    refine w_addL (s3 _ _ h2) h3 (mid (by decide)) ?_
    intro p4 np4
    refine abs_new np4 fun G4 s4 h4 => ?_
    walk_at "de"
    intro p5 np5
    refine abs_new np5 fun G5 s5 h5 => ?_
    walk_at "de"
    intro p6 np6
    refine abs_new np6 fun G6 s6 h6 => ?_
    walk_at "de"
    refine w_rep h6 (by decide) (by decide) (mid (by decide)) ?_
    intro p7 np7
    refine abs_new np7 fun G7 s7 h7 => ?_
    walk_at "de"
    have h4b := s7 _ _ (s6 _ _ (s5 _ _ h4))
    refine ⟨_, _, .inl h4b, .inl h7, .inr ⟨⟨rfl, rfl, by decide⟩, ⟨rfl, rfl, by decide⟩, ?_⟩⟩
    walk_at "de"
    refine w_isH (s7 _ _ (s6 _ _ (s5 _ _ (s4 _ _ (s3 _ _ h1b))))) XE rfl kt ?_
    walk_at "de"
    refine w_ixL (s7 _ _ (s6 _ _ h5)) (atI_nat (j := 0) rfl) ?_
    exact ⟨G, s1.trans (s2.trans (s3.trans (s4.trans (s5.trans (s6.trans s7))))), q⟩
end
end K18
set_option maxHeartbeats 1000000
namespace K18
open PySem PySem.W L2 SX Cm DD
local macro_rules | `(tactic| walk_at "d1") => `(tactic| first | (with_reducible refine w_seq ?_) | (with_reducible refine w_next ?_) | ((with_reducible show dVar _ _ _ _); refine w_var rfl ?_) | (with_reducible refine w_asg ?_) | (with_reducible refine w_cons ?_) | (with_reducible refine w_nil ?_) | (with_reducible refine w_c ?_) | (with_reducible refine w_op ?_) | (with_reducible refine w_call ?_) | (with_reducible refine w_CB ?_) | (with_reducible refine w_ret ?_) | (with_reducible refine w_ifS ?_) | (with_reducible refine w_drop ?_) | (with_reducible refine w_tup ?_) | (with_reducible refine w_lst ?_) | (with_reducible refine w_sl ?_) | (with_reducible refine w_none ?_) | (with_reducible refine w_some ?_) | (with_reducible refine w_BM ?_) | (with_reducible refine w_BM0 ?_) | (with_reducible refine w_test ?_) | (with_reducible refine w_tru ?_) | (with_reducible refine w_and ?_) | (with_reducible refine w_or ?_) | (with_reducible refine w_not ?_) | (with_reducible refine w_yes ?_) | (with_reducible refine w_ifE ?_) | (with_reducible refine w_andV ?_) | (with_reducible refine w_orV ?_) | (with_reducible refine w_notV ?_) | (with_reducible refine w_neg ?_) | (with_reducible refine w_rev ?_) | (with_reducible refine w_exI ?_) | (with_reducible refine w_exB ?_) | (with_reducible refine w_exT ?_) | (with_reducible refine w_exS ?_) | (with_reducible refine w_parE ?_) | (with_reducible refine w_par ?_) | (with_reducible refine w_asgS ?_) | (with_reducible refine w_retN ?_) | (with_reducible refine w_break ?_) | (with_reducible refine w_cont ?_) | (with_reducible refine w_truB ?_) | (with_reducible refine w_truI ?_) | (with_reducible refine w_truN ?_) | (with_reducible refine w_truT ?_) | (with_reducible refine w_addI ?_) | (with_reducible refine w_subI ?_) | (with_reducible refine w_cmpI ?_) | (with_reducible refine w_cmpS ?_) | (with_reducible refine w_eqSS ?_) | (with_reducible refine w_eqII ?_) | (with_reducible refine w_eqBB ?_) | (with_reducible refine w_neSS ?_) | (with_reducible refine w_neII ?_) | (with_reducible refine w_neBB ?_) | (with_reducible refine w_eqSN ?_) | (with_reducible refine w_eqIN ?_) | (with_reducible refine w_eqSI ?_) | (with_reducible refine w_eqIS ?_) | (with_reducible refine w_eqNS ?_) | (with_reducible refine w_eqBS ?_) | (with_reducible refine w_eqT0 ?_) | (with_reducible refine w_ix0 ?_) | (with_reducible refine w_ix1 ?_) | (with_reducible refine w_ix2 ?_) | (with_reducible refine w_ix3 ?_) | (with_reducible refine w_slT ?_) | (with_reducible refine w_lenT ?_) | (with_reducible refine w_intB ?_) | (with_reducible refine w_intI ?_) | (with_reducible refine w_tupT ?_) | (with_reducible refine w_rcvS ?_) | (with_reducible refine ly1 ?_) | (with_reducible refine ly2 ?_) | (with_reducible refine lt1' ?_) | (with_reducible refine lt2' ?_) | (with_reducible refine g_n ?_) | (with_reducible refine w_isN ?_) | (with_reducible refine w_isnN ?_) | (with_reducible refine w_for ?_) | (with_reducible refine w_lc ?_) | (with_reducible refine wi_tup ?_) | (with_reducible refine wi_lst ?_) | (with_reducible refine wi_str ?_) | (with_reducible refine wi_rng ?_) | (with_reducible refine wi_rng2 ?_) | (with_reducible refine wi_enumT ?_) | (with_reducible refine wi_enum ?_) | (with_reducible refine wi_rev ?_) | (with_reducible refine wi_revR ?_) | (with_reducible refine wx_enumT ?_) | (with_reducible refine w_callX ?_) | (with_reducible refine w_methX ?_) | (with_reducible refine w_raise ?_) | (with_reducible refine w_try ?_) | (with_reducible refine w_xSet ?_) | (with_reducible refine w_xExpr ?_) | (with_reducible refine w_xLst ?_) | (with_reducible refine w_xTup ?_) | (with_reducible refine w_xCons ?_) | (with_reducible refine w_xNil ?_) | (with_reducible refine w_xE ?_) | (with_reducible refine w_xCall ?_) | (with_reducible refine w_call0 ?_) | (with_reducible refine w_asgL ?_) | (with_reducible refine w_tupPd ?_) | (with_reducible refine wi_zip ?_) | (with_reducible refine w_dnew ?_) | (with_reducible refine w_dget ?_) | (with_reducible refine w_dget2 ?_) | (with_reducible refine w_din ?_) | (with_reducible refine w_dput ?_) | (with_reducible refine w_asgT ?_) | (with_reducible refine g_C ?_) | (with_reducible refine g_0 ?_) | (with_reducible refine w_inS ?_) | (with_reducible refine w_delT ?_) | (with_reducible refine w_dc ?_) | (with_reducible refine w_revL ?_) | (with_reducible refine wi_revT ?_) | (with_reducible refine w_lstZip ?_) | (with_reducible refine w_chain ?_) | (with_reducible refine w_orT ?_) | ((with_reducible show gT _ _ _ _ _ _); refine g_T ?_ rfl) | ((with_reducible show ∃ p, DV.ref _ = _ ∧ (∃ kvs, _) ∧ _); refine wx_get (by walk_at "gq") ?_) | ((with_reducible show ∃ kvs z, _ = _ ∧ _ = some (DO.dct _) ∧ _); refine wx_get2 (by walk_at "gq") ?_) | ((with_reducible show ∃ p kvs z, _ = _ ∧ _ = _ ∧ _ = some (DO.dct _) ∧ _); refine wx_in (by walk_at "gq") ?_) | ((with_reducible show List.length _ = _ ∧ _); refine w_len ?_ rfl) | ((with_reducible show List.length _ ≤ sizeLine ∧ _); refine w_sz ?_ (szl rfl)) | ((with_reducible show bIx _ (.int _) _ _); first | refine w_ix0 ?_ | refine w_ix1 ?_ | refine w_ix2 ?_ | refine w_ix3 ?_) | ((with_reducible show bIsi [_, _] _ _); first | refine w_isi (by decide) (a := "tuple") rfl rfl ?_ | refine w_isi (by decide) (a := "str") rfl rfl ?_ | refine w_isi (by decide) (a := "int") rfl rfl ?_ | refine w_isi (by decide) (a := "bool") rfl rfl ?_ | refine w_isi (by decide) (a := "NoneType") rfl rfl ?_) | ((with_reducible show ∃ ds, _ = DV.tup ds ∧ _); refine w_exT ?_) | ((with_reducible show ∃ z, _ = DV.str z ∧ _); refine w_exS ?_) | ((with_reducible show ∃ ds, [_] = [DV.tup ds] ∧ _); refine wx_enumT ?_) | ((with_reducible show bSl _ _ _ _ _); refine w_slT ?_) | ((with_reducible show bTuple [_] _ _); refine w_tupT ?_) | ((with_reducible show bLen [_] _ _); refine w_lenT ?_) | ((with_reducible show bTru _ _ _); first | refine w_truT ?_ | refine w_truN ?_ | refine w_truB ?_ | refine w_truI ?_) | ((with_reducible show bEq _ _ _ _ _); first | refine w_eqSS ?_ | refine w_eqII ?_ | refine w_neSS ?_ | refine w_neII ?_ | refine w_eqT0 ?_) | ((with_reducible show bInt _ _ (.int _) (.int _) _ _); refine w_int (by first | decide | exact ⟨by decide, by decide, by decide⟩ | exact .inl ⟨by decide, by decide⟩ | exact .inr ⟨by decide, by decide⟩) ?_) | ((with_reducible show if _ = true then _ else _); first | refine w_it (by first | rfl | decide +kernel) ?_ | refine w_if0 (by first | rfl | decide +kernel) ?_) | ((with_reducible show rcv "list" (.ref _) _ ∧ _); refine w_rcvL (by walk_at "gq") ?_) | ((with_reducible show bTuple [.ref _] _ _); refine w_tupL (by walk_at "gq") ?_) | ((with_reducible show bLen [.ref _] _ _); refine w_lenL (by walk_at "gq") ?_) | ((with_reducible show bTru (.ref _) _ _); refine w_truL (by walk_at "gq") ?_) | ((with_reducible show ∃ _ _, DV.ref _ = _ ∧ Ls _ _ _ ∧ _); refine wx_lst (by walk_at "gq") ?_) | ((with_reducible show ∃ _ _, [DV.ref _] = _ ∧ Ls _ _ _ ∧ _); refine wx_lstA (by walk_at "gq") ?_))
local macro_rules | `(tactic| walk_at "dd") => `(tactic| repeat (walk_at "d1"))
local macro_rules | `(tactic| walk_at "gq") => `(tactic| first | assumption | exact dupd_same | exact sub_get (by assumption) (by walk_at "gq") | exact upd_get (by assumption) (by walk_at "gq") (by walk_at "gn") | exact subx_get (by assumption) (by walk_at "gq") (by walk_at "gn") | (refine (dupd_ne ?_).trans ?_; (focus walk_at "gn"); walk_at "gq"))
local macro_rules | `(tactic| walk_at "gs") => `(tactic| first | assumption | exact Sub.refl _ | exact sub_tr (by assumption) (by walk_at "gs") | exact sub_up (by assumption) (by walk_at "gs") (by walk_at "g0") | exact sub_ux (by assumption) (by walk_at "gs") (by walk_at "g0") | (refine Sub.new ?_ ?_; (focus walk_at "gs"); walk_at "g0"))
local macro_rules | `(tactic| walk_at "gk") => `(tactic| first | assumption | exact dk_sub (by assumption) (by walk_at "gk") | exact dk_upd (by assumption) (by walk_at "gk") ⟨_, by walk_at "gq"⟩ | exact dk_updD (by assumption) (by walk_at "gk") ⟨_, by walk_at "gq"⟩)
local macro_rules | `(tactic| walk_at "gu") => `(tactic| first | assumption | exact Upd.refl _ _ | exact upd_in (by assumption) (by walk_at "gu"))
local macro_rules | `(tactic| walk_at "gx") => `(tactic| first | assumption | exact SubX.refl _ _ | exact subx_sub (by assumption) (by walk_at "gx") | exact subx_upd (by assumption) (by walk_at "gx") | exact subx_tr (by assumption) (by walk_at "gx"))
local macro_rules | `(tactic| walk_at "gn") => `(tactic| first | assumption | exact Ne.symm (by assumption) | exact ne_ns (by assumption) ⟨_, by walk_at "gq"⟩ | exact ne_sn (by assumption) ⟨_, by walk_at "gq"⟩)
local macro_rules | `(tactic| walk_at "g0") => `(tactic| first | assumption | exact nn_ (by assumption) (by walk_at "gs"))
local macro_rules | `(tactic| walk_at "gl") => `(tactic| first | exact lv_w | exact lv_t | exact lv_r | exact lv_k)
local macro_rules | `(tactic| walk_at "df") => `(tactic| first | (with_reducible refine w_fld ?_) | (with_reducible refine w_fldS ?_) | (with_reducible refine w_meth ?_) | (with_reducible refine w_make ?_) | (with_reducible refine w_inK ?_) | ((with_reducible show ∃ a' C' fs' d', DV.ref _ = .ref a' ∧ _ ∧ Cls _ C' ∧ NoAttr _ C' _ ∧ List.lookup _ fs' = some d' ∧ _); refine ⟨_, _, _, _, rfl, by walk_at "gq", by assumption, by assumption, by walk_at "gl", ?_⟩))
local macro_rules | `(tactic| walk_at "de") => `(tactic| repeat (first | walk_at "d1" | walk_at "df"))
theorem prev_ix {n a : Nat} (h : a < n) : ∃ j, j < n ∧ ixN n ((a : Int) - 1) = some j := by
  cases a with
  | zero =>
    refine ⟨n - 1, by omega, ?_⟩
    unfold ixN
    rw [if_neg (by omega), if_pos (by omega)]
    congr 1
    omega
  | succ a =>
    refine ⟨a, by omega, ?_⟩
    unfold ixN
    rw [if_pos (by omega), if_pos (by omega)]
    congr 1
    omega
theorem atI_of {α : Type} {xs : List α} {i : Int} {j : Nat} {y : α} (h : ixN xs.length i = some j) (e : xs[j]? = some y) : atI xs i = some y := by unfold atI; rw [h]; exact e
theorem bset_i {p : Addr} {ds : List DV} {i : Int} {j : Nat} {v : DV} {G : DG} {k : DG → Prop} (e : G p = some (.lst ds)) (hi : ixN ds.length i = some j) (h : k (dupd G p (.lst (ds.set j v)))) : bSet (.ref p) (.int i) v G k := .inl ⟨ds, j, e, hi, h⟩
theorem nb_set : ∀ (W : List Str) (i : Nat) (x : Str), DD.nb (W.set i x) ≤ DD.nb W + 1
  | [], _, _ => by rw [List.set_nil]; omega
  | a :: r, 0, x => by
    rw [List.set_cons_zero]
    have : DD.nb (x :: r) ≤ DD.nb r + 1 := by unfold DD.nb; rw [List.countP_cons]; split <;> omega
    have := nb_cons a r
    omega
  | a :: r, i + 1, x => by
    rw [List.set_cons_succ]
    have ih := nb_set r i x
    unfold DD.nb at ih ⊢
    rw [List.countP_cons, List.countP_cons]; omega
theorem nb_ins (W : List Str) (i : Nat) (x : Str) : DD.nb (W.take i ++ [x] ++ W.drop i) ≤ DD.nb W + 1 := by
  rw [nb_append, nb_append]
  have e : DD.nb W = DD.nb (W.take i) + DD.nb (W.drop i) := by rw [← nb_append, List.take_append_drop]
  have : DD.nb [x] ≤ 1 := by unfold DD.nb; exact List.countP_le_length
  omega
theorem nb_erase (W : List Str) (i : Nat) : DD.nb (W.eraseIdx i) ≤ DD.nb W := by
  unfold DD.nb
  exact List.Sublist.countP_le (List.eraseIdx_sublist W i)
theorem jsz {c n : Nat} {W : List Str} (h : WsOK c n W) (l : n ≤ 10000) : (W.map (·.length)).sum + W.length * (" " : Str).length ≤ 16777216 := by
  have s := sum7 fun y hy => (voc_ok y (h.w y hy)).2.2
  have := h.ln
  rw [show (" " : Str).length = 1 from by decide +kernel]
  omega
theorem vocW_set {W : List Str} (h : vocW W) (i : Nat) {x : Str} (hx : x ∈ voc) : vocW (W.set i x) := fun y hy => (List.mem_or_eq_of_mem_set hy).elim (h y) fun e => by rw [e]; exact hx
theorem vocW_ins {W : List Str} (h : vocW W) (i : Nat) {x : Str} (hx : x ∈ voc) : vocW (W.take i ++ [x] ++ W.drop i) := fun y hy => by
  rcases List.mem_append.mp hy with hy | hy
  · rcases List.mem_append.mp hy with hy | hy
    · exact h y (List.mem_of_mem_take hy)
    · rw [List.mem_singleton.mp hy]; exact hx
  · exact h y (List.mem_of_mem_drop hy)
theorem len_ins (W : List Str) (i : Nat) (x : Str) : (W.take i ++ [x] ++ W.drop i).length ≤ W.length + 1 := by
  rw [List.length_append, List.length_append, List.length_singleton, List.length_take, List.length_drop]; omega
theorem map_ins (W : List Str) (i : Nat) (x : Str) : (W.map DV.str).take i ++ [DV.str x] ++ (W.map DV.str).drop i = (W.take i ++ [x] ++ W.drop i).map DV.str := by
  rw [List.map_append, List.map_append, List.map_take, List.map_drop]; rfl
theorem map_erase : ∀ (W : List Str) (i : Nat), (W.map DV.str).eraseIdx i = (W.eraseIdx i).map DV.str
  | [], _ => rfl
  | _ :: _, 0 => rfl
  | a :: r, i + 1 => by show DV.str a :: (r.map DV.str).eraseIdx i = DV.str a :: (r.eraseIdx i).map DV.str; rw [map_erase r i]
section
variable {P : Program} {w : World} {K : Frag} {mg : Str → Option Value} {base : Heap}
def SP_bt : DSp := fun ds G R => ∃ d z c n, ds = [.ref d, .str z] ∧ HasDk G d ∧ WsOK c n (Txt.split z " ") ∧ n ≤ 9000 ∧ ∀ z', WsOK (c + 2) (n + 1) (Txt.split z' " ") → R (.str z') G
abbrev N_L_bent : List Str := ["_law_deck_here", "_law_text", "_law_words_here", "_law_at", "_law_some", "_law_other", "_law_way"]
abbrev A_L_bent : List Str := ["_law_deck_here", "_law_text"]
theorem sc_L_bent : FnScope N_L_bent A_L_bent (defScope s_L_bent) := ⟨rfl, rfl, rfl, by decide +kernel, rfl, by decide +kernel, by decide +kernel⟩
theorem h_L_bent (a : At K mg "_law_bent" s_L_bent A_L_bent) (B : BI mg) (c_L_draw : Has P w K mg base 2 "_law_draw" A_L_draw SP_draw) : Has P w K mg base 3 "_law_bent" A_L_bent SP_bt := by
  refine at_mk a sc_L_bent fun f cdv A outer s H E hr ds G R hl h => ?_
  refine ⟨_, (dss_cons (ds_set (i := 2) sc_L_bent.nd rfl (.inl rfl) (de_bm PySem.F.plainAttrs_str PySem.F.slot_str_split PySem.F.type_str_split md_split (dv 1) (da_cons de_str da_nil)))
    (dss_cons (ds_set (i := 3) sc_L_bent.nd rfl (.inl rfl) (de_call c_L_draw (hr.mono (by omega)) rfl (da_cons (dv 0) (da_cons (de_callB cd_len B.len rfl (by decide +kernel) (da_cons (dv 2) da_nil)) da_nil))))
    (dss_cons (ds_set (i := 4) sc_L_bent.nd rfl (.inl rfl) (de_lst (da_cons de_str (da_cons de_str (da_cons de_str (da_cons de_str (da_cons de_str (da_cons de_str (da_cons de_str (da_cons de_str (da_cons de_str (da_cons de_str (da_cons de_str (da_cons de_str (da_cons de_str (da_cons de_str (da_cons de_str (da_cons de_str (da_cons de_str da_nil)))))))))))))))))))
    (dss_cons (ds_set (i := 4) sc_L_bent.nd rfl (.inl rfl) (de_op od_add (dv 4) (de_lst (da_cons de_str (da_cons de_str (da_cons de_str (da_cons de_str (da_cons de_str (da_cons de_str (da_cons de_str (da_cons de_str (da_cons de_str (da_cons de_str (da_cons de_str (da_cons de_str (da_cons de_str (da_cons de_str (da_cons de_str da_nil))))))))))))))))))
    (dss_cons (ds_set (i := 5) sc_L_bent.nd rfl (.inl rfl) (de_ix (dv 4) (de_call c_L_draw (hr.mono (by omega)) rfl (da_cons (dv 0) (da_cons (de_callB cd_len B.len rfl (by decide +kernel) (da_cons (dv 4) da_nil)) da_nil)))))
    (dss_cons (ds_set (i := 6) sc_L_bent.nd rfl (.inl rfl) (de_call c_L_draw (hr.mono (by omega)) rfl (da_cons (dv 0) (da_cons de_int da_nil))))
    (dss_cons (ds_if (dt_cmp (od_eq hr.units) (dv 6) de_int (nomark _)) (dss_one (ds_expr (de_bm PySem.F.plainAttrs_list PySem.F.slot_list_pop PySem.F.type_list_pop md_popI (dv 2) (da_cons (dv 3) da_nil)))) dss_nil)
    (dss_cons (ds_if (dt_cmp (od_eq hr.units) (dv 6) de_int (nomark _)) (dss_one (ds_expr (de_bm PySem.F.plainAttrs_list PySem.F.slot_list_insert PySem.F.type_list_insert md_insert (dv 2) (da_cons (dv 3) (da_cons (de_ix (dv 2) (dv 3)) da_nil))))) dss_nil)
    (dss_cons (ds_if (dt_cmp (od_eq hr.units) (dv 6) de_int (nomark _)) (dss_one (ds_asg (de_tup (da_cons (de_ix (dv 2) (de_op od_sub (dv 3) de_int)) (da_cons (de_ix (dv 2) (dv 3)) da_nil))) (dg_tup rfl (dgs_cons (dg_sub (dv 2) (dv 3)) (dgs_cons (dg_sub (dv 2) (de_op od_sub (dv 3) de_int)) dgs_nil))))) dss_nil)
    (dss_cons (ds_if (dt_w (dw_or (dt_cmp (od_eq hr.units) (dv 6) de_int (nomark _)) (dw_or1 (dt_cmp (od_eq hr.units) (dv 6) de_int (nomark _))))) (dss_one (ds_asg (dv 5) (dg_sub (dv 2) (dv 3)))) dss_nil)
    (dss_cons (ds_if (dt_w (dw_or (dt_cmp (od_eq hr.units) (dv 6) de_int (nomark _)) (dw_or1 (dt_cmp (od_eq hr.units) (dv 6) de_int (nomark _))))) (dss_one (ds_expr (de_bm PySem.F.plainAttrs_list PySem.F.slot_list_insert PySem.F.type_list_insert md_insert (dv 2) (da_cons (dv 3) (da_cons (dv 5) da_nil))))) dss_nil)
    (dss_cons (ds_if (dt_cmp (od_eq hr.units) (dv 6) de_int (nomark _)) (dss_one (ds_expr (de_bm PySem.F.plainAttrs_list PySem.F.slot_list_append PySem.F.type_list_append md_append (dv 2) (da_cons (dv 5) da_nil)))) dss_nil)
    (dss_one (ds_ret (de_bm PySem.F.plainAttrs_str PySem.F.slot_str_join PySem.F.type_str_join md_join de_str (da_cons (dv 2) da_nil)))))))))))))))), ?_⟩
  obtain ⟨d, z, c, n, rfl, hk, ht, ln, q⟩ := h
  walk_at "de"
  have hl1 := (WsOK.tx ht).len
  refine w_split rfl (mid (show z.length + 2 ≤ 1000000 by omega)) ?_
  intro p np
  refine abs_new np fun G1 s1 hp => ?_
  walk_at "de"
  have n0 : 1 ≤ (Txt.split z " ").length := by
    cases e : Txt.split z " " with
    | nil =>
      have e2 := PySem.StrLaws.join_split z " "
      rw [e] at e2
      have e3 : z = "" := e2.symm
      rw [e3, show Txt.split ("" : Str) " " = [("" : Str)] from by decide +kernel] at e
      cases e
    | cons a r => rw [List.length_cons]; omega
  obtain ⟨hv, hb, hln⟩ := ht
  generalize Txt.split z " " = W at hp n0 hv hb hln
  have ln1 : n + 1 ≤ 10000 := by omega
  refine ⟨d, (W.length : Int), by rw [List.length_map], by walk_at "gk", by omega, by omega, fun r r0 r1 => ?_⟩
  obtain ⟨a, rfl⟩ : ∃ a : Nat, r = (a : Int) := ⟨r.toNat, by omega⟩
  have ha : a < W.length := by omega
  have hx : W[a]? = some W[a] := List.getElem?_eq_getElem ha
  have hxv := hv _ (List.getElem_mem ha)
  walk_at "de"
  intro p2 np2
  refine abs_new np2 fun G2 s2 hp2 => ?_
  walk_at "de"
  intro p3 np3
  refine abs_new np3 fun G3 s3 hp3 => ?_
  refine w_addL (by walk_at "gq") hp3 (mid (by decide)) ?_
  intro p4 np4
  refine abs_new np4 fun G4 s4 hp4 => ?_
  have hp4 : G4 p4 = some (.lst (others.map .str)) := hp4
  walk_at "de"
  refine ⟨d, 32, rfl, by walk_at "gk", by decide, by decide, fun r' r0' r1' => ?_⟩
  obtain ⟨x, hxm, hat⟩ := pick (xs := others.map DV.str) (n := 32) r0' r1' rfl
  obtain ⟨o, ho, rfl⟩ := List.mem_map.mp hxm
  have ho : o ∈ voc := List.mem_append_left _ (List.mem_append_left _ (List.mem_append_left _ ho))
  refine w_ixL hp4 hat ?_
  walk_at "de"
  refine ⟨d, 8, rfl, by walk_at "gk", by decide, by decide, fun u u0 u1 => ?_⟩
  have hp6 : G4 p = some (.lst (W.map .str)) := by walk_at "gq"
  have s6 : Sub G G4 := by walk_at "gs"
  clear hp hp2 hp3 hp4 hat hxm s1 s2 s3 s4 r0 r1 r0' r1'
  have hu : u = 0 ∨ u = 1 ∨ u = 2 ∨ u = 3 ∨ u = 4 ∨ u = 5 ∨ u = 6 ∨ u = 7 := by omega
  rcases hu with rfl | rfl | rfl | rfl | rfl | rfl | rfl | rfl
  · walk_at "de"
    refine w_popI hp6 (by omega) (y := DV.str W[a]) (by rw [List.getElem?_map, hx]; rfl) ?_
    rw [map_erase]
    refine abs_upd hp6 fun G7 u7 h7 => ?_
    walk_at "de"
    refine w_join (by walk_at "gq") (jsz (c := c + 2) (n := n + 1) (W := _) ⟨fun y hy => hv y (List.mem_of_mem_eraseIdx hy), Nat.le_trans (nb_erase W a) (by omega), Nat.le_trans (List.length_eraseIdx_le W a) (by omega)⟩ ln1) ?_
    exact ⟨G, by walk_at "gs", q _ (WsOK.joined ⟨fun y hy => hv y (List.mem_of_mem_eraseIdx hy), Nat.le_trans (nb_erase W a) (by omega), Nat.le_trans (List.length_eraseIdx_le W a) (by omega)⟩ (by omega))⟩
  · walk_at "de"
    refine w_ixL (d := DV.str W[a]) hp6 (atI_nat (j := a) (by rw [List.getElem?_map, hx]; rfl)) ?_
    walk_at "de"
    refine w_insert hp6 (by rw [List.length_map]; omega) (by omega) ?_
    rw [map_ins]
    refine abs_upd hp6 fun G7 u7 h7 => ?_
    walk_at "de"
    refine w_join (by walk_at "gq") (jsz (c := c + 2) (n := n + 1) (W := _) ⟨vocW_ins hv a hxv, Nat.le_trans (nb_ins W a W[a]) (by omega), Nat.le_trans (len_ins W a W[a]) (by omega)⟩ ln1) ?_
    exact ⟨G, by walk_at "gs", q _ (WsOK.joined ⟨vocW_ins hv a hxv, Nat.le_trans (nb_ins W a W[a]) (by omega), Nat.le_trans (len_ins W a W[a]) (by omega)⟩ (by omega))⟩
  · walk_at "de"
    obtain ⟨j, hj, ej⟩ := prev_ix ha
    have hxj : W[j]? = some W[j] := List.getElem?_eq_getElem hj
    refine w_ixL (d := DV.str W[j]) hp6 (atI_of (j := j) (y := DV.str W[j]) (by rw [List.length_map]; exact ej) (by rw [List.getElem?_map, hxj]; rfl)) ?_
    walk_at "de"
    refine w_ixL (d := DV.str W[a]) hp6 (atI_nat (j := a) (by rw [List.getElem?_map, hx]; rfl)) ?_
    walk_at "de"
    refine ⟨_, _, rfl, ?_⟩
    show dVar 2 _ _ _
    walk_at "de"
    refine bset_l (i := a) hp6 (by rw [List.length_map]; exact ha) ?_
    rw [← List.map_set]
    refine abs_upd hp6 fun G7 u7 h7 => ?_
    refine ⟨_, _, rfl, ?_⟩
    show dVar 2 _ _ _
    walk_at "de"
    refine bset_i (j := j) h7 (by rw [List.length_map, List.length_set]; exact ej) ?_
    rw [← List.map_set]
    refine abs_upd h7 fun G8 u8 h8 => ?_
    walk_at "de"
    refine w_join (by walk_at "gq") (jsz (c := c + 2) (n := n + 1) (W := _) ⟨vocW_set (vocW_set hv a (hv _ (List.getElem_mem hj))) j hxv, Nat.le_trans (nb_set (W.set a W[j]) j W[a]) (by have := nb_set W a W[j]; omega), by rw [List.length_set, List.length_set]; omega⟩ ln1) ?_
    exact ⟨G, by walk_at "gs", q _ (WsOK.joined ⟨vocW_set (vocW_set hv a (hv _ (List.getElem_mem hj))) j hxv, Nat.le_trans (nb_set (W.set a W[j]) j W[a]) (by have := nb_set W a W[j]; omega), by rw [List.length_set, List.length_set]; omega⟩ (by omega))⟩
  · walk_at "de"
    refine bset_l (i := a) hp6 (by rw [List.length_map]; exact ha) ?_
    rw [← List.map_set]
    refine abs_upd hp6 fun G7 u7 h7 => ?_
    walk_at "de"
    refine w_join (by walk_at "gq") (jsz (c := c + 2) (n := n + 1) (W := _) ⟨vocW_set hv a ho, Nat.le_trans (nb_set W a o) (by omega), by rw [List.length_set]; omega⟩ ln1) ?_
    exact ⟨G, by walk_at "gs", q _ (WsOK.joined ⟨vocW_set hv a ho, Nat.le_trans (nb_set W a o) (by omega), by rw [List.length_set]; omega⟩ (by omega))⟩
  · walk_at "de"
    refine bset_l (i := a) hp6 (by rw [List.length_map]; exact ha) ?_
    rw [← List.map_set]
    refine abs_upd hp6 fun G7 u7 h7 => ?_
    walk_at "de"
    refine w_join (by walk_at "gq") (jsz (c := c + 2) (n := n + 1) (W := _) ⟨vocW_set hv a ho, Nat.le_trans (nb_set W a o) (by omega), by rw [List.length_set]; omega⟩ ln1) ?_
    exact ⟨G, by walk_at "gs", q _ (WsOK.joined ⟨vocW_set hv a ho, Nat.le_trans (nb_set W a o) (by omega), by rw [List.length_set]; omega⟩ (by omega))⟩
  · walk_at "de"
    refine w_insert hp6 (by rw [List.length_map]; omega) (by omega) ?_
    rw [map_ins]
    refine abs_upd hp6 fun G7 u7 h7 => ?_
    walk_at "de"
    refine w_join (by walk_at "gq") (jsz (c := c + 2) (n := n + 1) (W := _) ⟨vocW_ins hv a ho, Nat.le_trans (nb_ins W a o) (by omega), Nat.le_trans (len_ins W a o) (by omega)⟩ ln1) ?_
    exact ⟨G, by walk_at "gs", q _ (WsOK.joined ⟨vocW_ins hv a ho, Nat.le_trans (nb_ins W a o) (by omega), Nat.le_trans (len_ins W a o) (by omega)⟩ (by omega))⟩
  · walk_at "de"
    refine w_insert hp6 (by rw [List.length_map]; omega) (by omega) ?_
    rw [map_ins]
    refine abs_upd hp6 fun G7 u7 h7 => ?_
    walk_at "de"
    refine w_join (by walk_at "gq") (jsz (c := c + 2) (n := n + 1) (W := _) ⟨vocW_ins hv a ho, Nat.le_trans (nb_ins W a o) (by omega), Nat.le_trans (len_ins W a o) (by omega)⟩ ln1) ?_
    exact ⟨G, by walk_at "gs", q _ (WsOK.joined ⟨vocW_ins hv a ho, Nat.le_trans (nb_ins W a o) (by omega), Nat.le_trans (len_ins W a o) (by omega)⟩ (by omega))⟩
  · walk_at "de"
    refine w_app hp6 (by rw [List.length_map]; exact midlt (by omega)) ?_
    rw [show W.map DV.str ++ [DV.str o] = (W ++ [o]).map DV.str from by rw [List.map_append]; rfl]
    refine abs_upd hp6 fun G7 u7 h7 => ?_
    walk_at "de"
    refine w_join (by walk_at "gq") (jsz (c := c + 2) (n := n + 1) (W := _) ⟨fun y hy => (List.mem_append.mp hy).elim (hv y) fun hy => by rw [List.mem_singleton.mp hy]; exact ho, by rw [nb_append]; have : DD.nb [o] ≤ 1 := (by unfold DD.nb; exact List.countP_le_length); omega, by rw [List.length_append, List.length_singleton]; omega⟩ ln1) ?_
    exact ⟨G, by walk_at "gs", q _ (WsOK.joined ⟨fun y hy => (List.mem_append.mp hy).elim (hv y) fun hy => by rw [List.mem_singleton.mp hy]; exact ho, by rw [nb_append]; have : DD.nb [o] ≤ 1 := (by unfold DD.nb; exact List.countP_le_length); omega, by rw [List.length_append, List.length_singleton]; omega⟩ (by omega))⟩
end
end K18
set_option maxHeartbeats 1000000
namespace K18
open PySem PySem.W L2 SX Cm DD
local macro_rules | `(tactic| walk_at "d1") => `(tactic| first | (with_reducible refine w_seq ?_) | (with_reducible refine w_next ?_) | ((with_reducible show dVar _ _ _ _); refine w_var rfl ?_) | (with_reducible refine w_asg ?_) | (with_reducible refine w_cons ?_) | (with_reducible refine w_nil ?_) | (with_reducible refine w_c ?_) | (with_reducible refine w_op ?_) | (with_reducible refine w_call ?_) | (with_reducible refine w_CB ?_) | (with_reducible refine w_ret ?_) | (with_reducible refine w_ifS ?_) | (with_reducible refine w_drop ?_) | (with_reducible refine w_tup ?_) | (with_reducible refine w_lst ?_) | (with_reducible refine w_sl ?_) | (with_reducible refine w_none ?_) | (with_reducible refine w_some ?_) | (with_reducible refine w_BM ?_) | (with_reducible refine w_BM0 ?_) | (with_reducible refine w_test ?_) | (with_reducible refine w_tru ?_) | (with_reducible refine w_and ?_) | (with_reducible refine w_or ?_) | (with_reducible refine w_not ?_) | (with_reducible refine w_yes ?_) | (with_reducible refine w_ifE ?_) | (with_reducible refine w_andV ?_) | (with_reducible refine w_orV ?_) | (with_reducible refine w_notV ?_) | (with_reducible refine w_neg ?_) | (with_reducible refine w_rev ?_) | (with_reducible refine w_exI ?_) | (with_reducible refine w_exB ?_) | (with_reducible refine w_exT ?_) | (with_reducible refine w_exS ?_) | (with_reducible refine w_parE ?_) | (with_reducible refine w_par ?_) | (with_reducible refine w_asgS ?_) | (with_reducible refine w_retN ?_) | (with_reducible refine w_break ?_) | (with_reducible refine w_cont ?_) | (with_reducible refine w_truB ?_) | (with_reducible refine w_truI ?_) | (with_reducible refine w_truN ?_) | (with_reducible refine w_truT ?_) | (with_reducible refine w_addI ?_) | (with_reducible refine w_subI ?_) | (with_reducible refine w_cmpI ?_) | (with_reducible refine w_cmpS ?_) | (with_reducible refine w_eqSS ?_) | (with_reducible refine w_eqII ?_) | (with_reducible refine w_eqBB ?_) | (with_reducible refine w_neSS ?_) | (with_reducible refine w_neII ?_) | (with_reducible refine w_neBB ?_) | (with_reducible refine w_eqSN ?_) | (with_reducible refine w_eqIN ?_) | (with_reducible refine w_eqSI ?_) | (with_reducible refine w_eqIS ?_) | (with_reducible refine w_eqNS ?_) | (with_reducible refine w_eqBS ?_) | (with_reducible refine w_eqT0 ?_) | (with_reducible refine w_ix0 ?_) | (with_reducible refine w_ix1 ?_) | (with_reducible refine w_ix2 ?_) | (with_reducible refine w_ix3 ?_) | (with_reducible refine w_slT ?_) | (with_reducible refine w_lenT ?_) | (with_reducible refine w_intB ?_) | (with_reducible refine w_intI ?_) | (with_reducible refine w_tupT ?_) | (with_reducible refine w_rcvS ?_) | (with_reducible refine ly1 ?_) | (with_reducible refine ly2 ?_) | (with_reducible refine lt1' ?_) | (with_reducible refine lt2' ?_) | (with_reducible refine g_n ?_) | (with_reducible refine w_isN ?_) | (with_reducible refine w_isnN ?_) | (with_reducible refine w_for ?_) | (with_reducible refine w_lc ?_) | (with_reducible refine wi_tup ?_) | (with_reducible refine wi_lst ?_) | (with_reducible refine wi_str ?_) | (with_reducible refine wi_rng ?_) | (with_reducible refine wi_rng2 ?_) | (with_reducible refine wi_enumT ?_) | (with_reducible refine wi_enum ?_) | (with_reducible refine wi_rev ?_) | (with_reducible refine wi_revR ?_) | (with_reducible refine wx_enumT ?_) | (with_reducible refine w_callX ?_) | (with_reducible refine w_methX ?_) | (with_reducible refine w_raise ?_) | (with_reducible refine w_try ?_) | (with_reducible refine w_xSet ?_) | (with_reducible refine w_xExpr ?_) | (with_reducible refine w_xLst ?_) | (with_reducible refine w_xTup ?_) | (with_reducible refine w_xCons ?_) | (with_reducible refine w_xNil ?_) | (with_reducible refine w_xE ?_) | (with_reducible refine w_xCall ?_) | (with_reducible refine w_call0 ?_) | (with_reducible refine w_asgL ?_) | (with_reducible refine w_tupPd ?_) | (with_reducible refine wi_zip ?_) | (with_reducible refine w_dnew ?_) | (with_reducible refine w_dget ?_) | (with_reducible refine w_dget2 ?_) | (with_reducible refine w_din ?_) | (with_reducible refine w_dput ?_) | (with_reducible refine w_asgT ?_) | (with_reducible refine g_C ?_) | (with_reducible refine g_0 ?_) | (with_reducible refine w_inS ?_) | (with_reducible refine w_delT ?_) | (with_reducible refine w_dc ?_) | (with_reducible refine w_revL ?_) | (with_reducible refine wi_revT ?_) | (with_reducible refine w_lstZip ?_) | (with_reducible refine w_chain ?_) | (with_reducible refine w_orT ?_) | ((with_reducible show gT _ _ _ _ _ _); refine g_T ?_ rfl) | ((with_reducible show ∃ p, DV.ref _ = _ ∧ (∃ kvs, _) ∧ _); refine wx_get (by walk_at "gq") ?_) | ((with_reducible show ∃ kvs z, _ = _ ∧ _ = some (DO.dct _) ∧ _); refine wx_get2 (by walk_at "gq") ?_) | ((with_reducible show ∃ p kvs z, _ = _ ∧ _ = _ ∧ _ = some (DO.dct _) ∧ _); refine wx_in (by walk_at "gq") ?_) | ((with_reducible show List.length _ = _ ∧ _); refine w_len ?_ rfl) | ((with_reducible show List.length _ ≤ sizeLine ∧ _); refine w_sz ?_ (szl rfl)) | ((with_reducible show bIx _ (.int _) _ _); first | refine w_ix0 ?_ | refine w_ix1 ?_ | refine w_ix2 ?_ | refine w_ix3 ?_) | ((with_reducible show bIsi [_, _] _ _); first | refine w_isi (by decide) (a := "tuple") rfl rfl ?_ | refine w_isi (by decide) (a := "str") rfl rfl ?_ | refine w_isi (by decide) (a := "int") rfl rfl ?_ | refine w_isi (by decide) (a := "bool") rfl rfl ?_ | refine w_isi (by decide) (a := "NoneType") rfl rfl ?_) | ((with_reducible show ∃ ds, _ = DV.tup ds ∧ _); refine w_exT ?_) | ((with_reducible show ∃ z, _ = DV.str z ∧ _); refine w_exS ?_) | ((with_reducible show ∃ ds, [_] = [DV.tup ds] ∧ _); refine wx_enumT ?_) | ((with_reducible show bSl _ _ _ _ _); refine w_slT ?_) | ((with_reducible show bTuple [_] _ _); refine w_tupT ?_) | ((with_reducible show bLen [_] _ _); refine w_lenT ?_) | ((with_reducible show bTru _ _ _); first | refine w_truT ?_ | refine w_truN ?_ | refine w_truB ?_ | refine w_truI ?_) | ((with_reducible show bEq _ _ _ _ _); first | refine w_eqSS ?_ | refine w_eqII ?_ | refine w_neSS ?_ | refine w_neII ?_ | refine w_eqT0 ?_) | ((with_reducible show bInt _ _ (.int _) (.int _) _ _); refine w_int (by first | decide | exact ⟨by decide, by decide, by decide⟩ | exact .inl ⟨by decide, by decide⟩ | exact .inr ⟨by decide, by decide⟩) ?_) | ((with_reducible show if _ = true then _ else _); first | refine w_it (by first | rfl | decide +kernel) ?_ | refine w_if0 (by first | rfl | decide +kernel) ?_) | ((with_reducible show rcv "list" (.ref _) _ ∧ _); refine w_rcvL (by walk_at "gq") ?_) | ((with_reducible show bTuple [.ref _] _ _); refine w_tupL (by walk_at "gq") ?_) | ((with_reducible show bLen [.ref _] _ _); refine w_lenL (by walk_at "gq") ?_) | ((with_reducible show bTru (.ref _) _ _); refine w_truL (by walk_at "gq") ?_) | ((with_reducible show ∃ _ _, DV.ref _ = _ ∧ Ls _ _ _ ∧ _); refine wx_lst (by walk_at "gq") ?_) | ((with_reducible show ∃ _ _, [DV.ref _] = _ ∧ Ls _ _ _ ∧ _); refine wx_lstA (by walk_at "gq") ?_))
local macro_rules | `(tactic| walk_at "dd") => `(tactic| repeat (walk_at "d1"))
local macro_rules | `(tactic| walk_at "gq") => `(tactic| first | assumption | exact dupd_same | exact sub_get (by assumption) (by walk_at "gq") | exact upd_get (by assumption) (by walk_at "gq") (by walk_at "gn") | exact subx_get (by assumption) (by walk_at "gq") (by walk_at "gn") | (refine (dupd_ne ?_).trans ?_; (focus walk_at "gn"); walk_at "gq"))
local macro_rules | `(tactic| walk_at "gs") => `(tactic| first | assumption | exact Sub.refl _ | exact sub_tr (by assumption) (by walk_at "gs") | exact sub_up (by assumption) (by walk_at "gs") (by walk_at "g0") | exact sub_ux (by assumption) (by walk_at "gs") (by walk_at "g0") | (refine Sub.new ?_ ?_; (focus walk_at "gs"); walk_at "g0"))
local macro_rules | `(tactic| walk_at "gk") => `(tactic| first | assumption | exact dk_sub (by assumption) (by walk_at "gk") | exact dk_upd (by assumption) (by walk_at "gk") ⟨_, by walk_at "gq"⟩ | exact dk_updD (by assumption) (by walk_at "gk") ⟨_, by walk_at "gq"⟩)
local macro_rules | `(tactic| walk_at "gu") => `(tactic| first | assumption | exact Upd.refl _ _ | exact upd_in (by assumption) (by walk_at "gu"))
local macro_rules | `(tactic| walk_at "gx") => `(tactic| first | assumption | exact SubX.refl _ _ | exact subx_sub (by assumption) (by walk_at "gx") | exact subx_upd (by assumption) (by walk_at "gx") | exact subx_tr (by assumption) (by walk_at "gx"))
local macro_rules | `(tactic| walk_at "gn") => `(tactic| first | assumption | exact Ne.symm (by assumption) | exact ne_ns (by assumption) ⟨_, by walk_at "gq"⟩ | exact ne_sn (by assumption) ⟨_, by walk_at "gq"⟩)
local macro_rules | `(tactic| walk_at "g0") => `(tactic| first | assumption | exact nn_ (by assumption) (by walk_at "gs"))
section
variable {P : Program} {w : World} {K : Frag} {mg : Str → Option Value} {base : Heap}
def SP_lw (k : Nat) : DSp := fun ds G R => ∃ kd, ds = [eK kd] ∧ dpK kd < k ∧ szK kd ≤ 100000 ∧ MkL G R ((mkK kd).map .str)
def SP_lsw (k : Nat) : DSp := fun ds G R => ∃ s, ds = [eS s] ∧ dpS s < k ∧ szS s ≤ 100000 ∧ MkL G R ((mkS s).map .str)
def SP_lrw (k : Nat) : DSp := fun ds G R => ∃ s t, ds = [eR (s, t)] ∧ dpS s < k ∧ dpS t < k ∧ szS s ≤ 100000 ∧ szS t ≤ 100000 ∧ MkL G R ((mkR (s, t)).map .str)
def SP_lop : DSp := fun ds G R => ∃ p ws, ds = [.ref p] ∧ G p = some (.lst (ws.map .str)) ∧ ws.length ≤ 900000 ∧ MkL G R ((ddp notSp [] ws).map .str)
abbrev A_L_words : List Str := ["_law_kind_here"]
abbrev A_L_stack_words : List Str := ["_law_stack_here"]
abbrev N_L_words : List Str := ["_law_kind_here"]
theorem sc_L_words : FnScope N_L_words A_L_words (defScope s_L_words) := ⟨rfl, rfl, rfl, by decide +kernel, rfl, by decide +kernel, by decide +kernel⟩
theorem h_L_words {k : Nat} (a : At K mg "_law_words" s_L_words A_L_words) (B : BI mg) (c_L_stack_words : Has P w K mg base (2 * k + 2) "_law_stack_words" A_L_stack_words (SP_lsw k)) (c_L_words : Has P w K mg base (2 * k + 1) "_law_words" A_L_words (SP_lw k)) : Has P w K mg base (2 * k + 3) "_law_words" A_L_words (SP_lw (k + 1)) := by
  refine at_mk a sc_L_words fun f cdv A outer s H E hr ds G R hl h => ?_
  refine ⟨_, (dss_cons (ds_if (dt_cmp (od_eq hr.units) (de_ix (dv 0) de_int) de_str (nomark _)) (dss_one (ds_ret (de_op od_add (de_op od_add (de_op od_add (de_op od_add (de_lst (da_cons de_str da_nil)) (de_call c_L_stack_words (hr.mono (by omega)) rfl (da_cons (de_ix (dv 0) de_int) da_nil))) (de_lst (da_cons de_str da_nil))) (de_call c_L_stack_words (hr.mono (by omega)) rfl (da_cons (de_ix (dv 0) de_int) da_nil))) (de_lst (da_cons de_str da_nil))))) dss_nil)
    (dss_cons (ds_if (dt_cmp (od_eq hr.units) (de_ix (dv 0) de_int) de_str (nomark _)) (dss_one (ds_ret (de_op od_add (de_op od_add (de_lst (da_cons de_str da_nil)) (de_call c_L_words (hr.mono (by omega)) rfl (da_cons (de_ix (dv 0) de_int) da_nil))) (de_lst (da_cons de_str da_nil))))) dss_nil)
    (dss_one (ds_ret (de_lst (da_cons (de_ix (dv 0) (de_neg de_int)) da_nil)))))), ?_⟩
  obtain ⟨kd, rfl, hd, hz, q⟩ := h
  cases kd with
  | num =>
    walk_at "dd"
    refine w_ixm1 ?_
    walk_at "dd"
    intro p np
    refine abs_new np fun G1 s1 h1 => ?_
    exact q.less np s1 h1
  | opn z =>
    walk_at "dd"
    refine w_ixm2 ?_
    walk_at "dd"
    intro p np
    refine abs_new np fun G1 s1 h1 => ?_
    exact q.less np s1 h1
  | lst kd =>
    have hd' : 1 + dpK kd < k + 1 := hd
    have hz' : 1 + szK kd ≤ 100000 := hz
    have l1 := mkK_len kd
    walk_at "dd"
    intro p np
    refine abs_new np fun G1 s1 h1 => ?_
    walk_at "dd"
    refine ⟨kd, rfl, by omega, by omega, fun p2 G2 n2 s2 h2 => ?_⟩
    refine w_addL (by walk_at "gq") h2 (mid (by rw [List.length_map]; show 1 + _ ≤ _; omega)) ?_
    intro p3 n3
    refine abs_new n3 fun G3 s3 h3 => ?_
    walk_at "dd"
    intro p4 n4
    refine abs_new n4 fun G4 s4 h4 => ?_
    walk_at "dd"
    refine w_addL (by walk_at "gq") h4 (mid (by rw [List.length_append, List.length_map]; show 1 + _ + 1 ≤ _; omega)) ?_
    intro p5 n5
    refine abs_new n5 fun G5 s5 h5 => ?_
    refine q.less (by walk_at "g0") (by walk_at "gs") (h5.trans ?_)
    show some (DO.lst ((DV.str "{" :: (mkK kd).map .str) ++ [DV.str "}"])) = some (DO.lst ((("{" : Str) :: (mkK kd ++ [("}" : Str)])).map .str))
    rw [List.map_cons, List.map_append]; rfl
  | row a b =>
    have hd' : 1 + max (dpS a) (dpS b) < k + 1 := hd
    have hz' : 1 + szS a + szS b ≤ 100000 := hz
    have l1 := mkS_len a
    have l2 := mkS_len b
    walk_at "dd"
    intro p np
    refine abs_new np fun G1 s1 h1 => ?_
    walk_at "dd"
    refine ⟨a, rfl, by omega, by omega, fun p2 G2 n2 s2 h2 => ?_⟩
    refine w_addL (by walk_at "gq") h2 (mid (by rw [List.length_map]; show 1 + _ ≤ _; omega)) ?_
    intro p3 n3
    refine abs_new n3 fun G3 s3 h3 => ?_
    walk_at "dd"
    intro p4 n4
    refine abs_new n4 fun G4 s4 h4 => ?_
    walk_at "dd"
    refine w_addL (by walk_at "gq") h4 (mid (by rw [List.length_append, List.length_map]; show 1 + _ + 1 ≤ _; omega)) ?_
    intro p5 n5
    refine abs_new n5 fun G5 s5 h5 => ?_
    walk_at "dd"
    refine ⟨b, rfl, by omega, by omega, fun p6 G6 n6 s6 h6 => ?_⟩
    refine w_addL (by walk_at "gq") h6 (mid (by rw [List.length_append, List.length_append, List.length_map, List.length_map]; show 1 + _ + 1 + _ ≤ _; omega)) ?_
    intro p7 n7
    refine abs_new n7 fun G7 s7 h7 => ?_
    walk_at "dd"
    intro p8 n8
    refine abs_new n8 fun G8 s8 h8 => ?_
    walk_at "dd"
    refine w_addL (by walk_at "gq") h8 (mid (by rw [List.length_append, List.length_append, List.length_append, List.length_map, List.length_map]; show 1 + _ + 1 + _ + 1 ≤ _; omega)) ?_
    intro p9 n9
    refine abs_new n9 fun G9 s9 h9 => ?_
    refine q.less (by walk_at "g0") (by walk_at "gs") (h9.trans ?_)
    show some (DO.lst ((((DV.str "[" :: (mkS a).map .str) ++ [DV.str "--"]) ++ (mkS b).map .str) ++ [DV.str "]"])) = some (DO.lst ((("[" : Str) :: (mkS a ++ ("--" : Str) :: (mkS b ++ [("]" : Str)]))).map .str))
    rw [List.map_cons, List.map_append, List.map_cons, List.map_append, List.append_assoc, List.append_assoc]; rfl
abbrev N_L_stack_words : List Str := ["_law_stack_here", "_law_word", "_law_found", "_law_kind_here"]
theorem sc_L_stack_words : FnScope N_L_stack_words A_L_stack_words (defScope s_L_stack_words) := ⟨rfl, rfl, rfl, by decide +kernel, rfl, by decide +kernel, by decide +kernel⟩
theorem h_L_stack_words {k : Nat} (a : At K mg "_law_stack_words" s_L_stack_words A_L_stack_words) (B : BI mg) (c_L_words : Has P w K mg base (2 * k + 1) "_law_words" A_L_words (SP_lw k)) : Has P w K mg base (2 * k + 2) "_law_stack_words" A_L_stack_words (SP_lsw k) := by
  refine at_mk a sc_L_stack_words fun f cdv A outer s H E hr ds G R hl h => ?_
  refine ⟨_, (dss_cons (ds_setLc (i := 2) (own := [("_law_word", 1)]) (lt1 (i := 1) (by decide)) rfl sc_L_stack_words.nd rfl rfl (sw_true rfl rfl rfl (by decide +kernel)) (di_list (de_lst (da_cons (de_ix (dv 0) de_int) da_nil))) (blkOk_by (own := [("_law_word", 1)]) (N := N_L_stack_words) (sc := defScope s_L_stack_words) (by decide +kernel)) (fun _ _ _ _ _ => pg_name (i := 1) sc_L_stack_words.nd rfl (Or.inl rfl)) (fun _ _ _ _ _ => (dts_one (dt_cmp (od_ne hr.units) (dv 1) de_str (nomark _)))) (fun _ _ _ _ _ => (dv 1)))
    (dss_cons (ds_for PassesOwn.never rfl (di_tup (de_ix (dv 0) de_int)) (dg_name (i := 3) sc_L_stack_words.nd rfl (.inl rfl)) (dss_one (ds_set (i := 2) sc_L_stack_words.nd rfl (.inl rfl) (de_op od_add (dv 2) (de_call c_L_words (hr.mono (by omega)) rfl (da_cons (dv 3) da_nil))))))
    (dss_one (ds_ret (dv 2))))), ?_⟩
  obtain ⟨s0, rfl, hd, hz, q⟩ := h
  cases s0 with
  | mk r ks =>
    have hd' : dpKs ks < k := hd
    have hz' : 1 + szKs ks ≤ 100000 := hz
    have lk := mkKs_len ks
    walk_at "dd"
    intro p np
    refine abs_new np fun G1 s1 h1 => ?_
    walk_at "dd"
    refine lcs_pure (fun d => match d with | .str z => if z = ("" : Str) then none else some (DV.str z) | _ => none) (fun G' s => .inl (s _ _ h1)) (by show 1 ≤ _; decide) ?_ ?_
    · intro d hd G' k1 k0 _ e1 e0
      rw [List.mem_singleton.mp hd]
      rw [List.mem_singleton.mp hd] at e1 e0
      walk_at "dd"
      refine w_iteN (fun h => ?_) (fun h => ?_)
      · walk_at "dd"
        exact e1 _ (by show (if r = ("" : Str) then _ else _) = _; rw [if_neg h])
      · exact e0 (by show (if r = ("" : Str) then _ else _) = _; rw [if_pos h])
    intro p2 G2 n2 s2 h2
    have e2 : [DV.str r].filterMap (fun d => match d with | .str z => if z = ("" : Str) then none else some (DV.str z) | _ => none) = (if r = ("" : Str) then [] else [r] : List Str).map .str := by
      by_cases h : r = ("" : Str)
      · rw [if_pos h, List.filterMap_cons_none (by show (if r = ("" : Str) then _ else _) = _; rw [if_pos h])]; rfl
      · rw [if_neg h, List.filterMap_cons_some (b := DV.str r) (by show (if r = ("" : Str) then _ else _) = _; rw [if_neg h])]; rfl
    rw [e2] at h2
    have l0 : (if r = ("" : Str) then [] else [r] : List Str).length ≤ 1 := by split <;> simp
    have em : mkS (.mk r ks) = (if r = ("" : Str) then [] else [r]) ++ mkKs ks := rfl
    rw [em] at q
    generalize (if r = ("" : Str) then [] else [r] : List Str) = hd0 at h2 l0 q
    walk_at "dd"
    refine for_by (fun i δ G' => ∃ (x1 x3 : Option DV) (p : Addr), δ = [some (eS (.mk r ks)), x1, some (.ref p), x3] ∧ G p = none ∧ Sub G G' ∧ G' p = some (.lst ((hd0 ++ mkKs (ks.take i)).map .str))) (fun _ _ _ _ => trivial) ⟨_, _, p2, rfl, by walk_at "g0", by walk_at "gs", by rw [List.take_zero]; show _ = some (DO.lst ((hd0 ++ []).map .str)); rw [List.append_nil]; exact h2⟩ ?_ ?_
    · rintro i d δ G' hd ⟨x1, x3, p, rfl, np', sG, hp⟩
      rw [eKs_map, List.getElem?_map] at hd
      obtain ⟨kd, hk, rfl⟩ := Option.map_eq_some_iff.mp hd
      have mk := mem_szK (List.mem_of_getElem? hk)
      have et : ks.take (i + 1) = ks.take i ++ [kd] := by rw [List.take_add_one, hk]; rfl
      have e1 : mkKs (ks.take (i + 1)) = mkKs (ks.take i) ++ mkK kd := by rw [et, mkKs_flat, mkKs_flat, List.flatMap_append, List.flatMap_cons, List.flatMap_nil, List.append_nil]
      have l1 : (mkKs (ks.take i)).length ≤ 4 * szKs ks := by
        have h1 := mkKs_len (ks.take i)
        have h2 := szKs_app (ks.take i) (ks.drop i)
        rw [List.take_append_drop] at h2; omega
      have l2 := mkK_len kd
      walk_at "dd"
      refine ⟨kd, rfl, by omega, by omega, fun p3 G3 n3 s3 h3 => ?_⟩
      refine w_addL (by walk_at "gq") h3 (mid (by rw [List.length_map, List.length_map, List.length_append]; omega)) ?_
      intro p4 n4
      refine abs_new n4 fun G4 s4 h4 => ?_
      exact ⟨_, _, p4, rfl, by walk_at "g0", by walk_at "gs", by rw [h4, e1, ← List.map_append, List.append_assoc]⟩
    · rintro δ G' ⟨x1, x3, p, rfl, np', sG, hp⟩
      rw [eKs_len, List.take_length] at hp
      walk_at "dd"
      exact q.less np' sG hp
theorem all_lw (aW : At K mg "_law_words" s_L_words A_L_words) (aS : At K mg "_law_stack_words" s_L_stack_words A_L_stack_words) (B : BI mg) : ∀ k, Has P w K mg base (2 * k + 1) "_law_words" A_L_words (SP_lw k) ∧ Has P w K mg base (2 * k + 2) "_law_stack_words" A_L_stack_words (SP_lsw k) := by
  intro k
  induction k with
  | zero =>
    have t : Has P w K mg base (2 * 0 + 1) "_law_words" A_L_words (SP_lw 0) := by
      refine at_mk aW sc_L_words fun f cdv A outer s H E hr ds G R hl h => ?_
      obtain ⟨_, _, e, _⟩ := h
      exact absurd e (Nat.not_lt_zero _)
    exact ⟨t, h_L_stack_words aS B t⟩
  | succ k ih =>
    have t := h_L_words aW B ih.2 ih.1
    exact ⟨t, h_L_stack_words (k := k + 1) aS B t⟩
abbrev N_L_row_words : List Str := ["_law_pair"]
abbrev A_L_row_words : List Str := ["_law_pair"]
theorem sc_L_row_words : FnScope N_L_row_words A_L_row_words (defScope s_L_row_words) := ⟨rfl, rfl, rfl, by decide +kernel, rfl, by decide +kernel, by decide +kernel⟩
theorem h_L_row_words {k : Nat} (a : At K mg "_law_row_words" s_L_row_words A_L_row_words) (B : BI mg) (c_L_stack_words : Has P w K mg base (2 * k + 2) "_law_stack_words" A_L_stack_words (SP_lsw k)) : Has P w K mg base (2 * k + 3) "_law_row_words" A_L_row_words (SP_lrw k) := by
  refine at_mk a sc_L_row_words fun f cdv A outer s H E hr ds G R hl h => ?_
  refine ⟨_, (dss_one (ds_ret (de_op od_add (de_op od_add (de_call c_L_stack_words (hr.mono (by omega)) rfl (da_cons (de_ix (dv 0) de_int) da_nil)) (de_lst (da_cons de_str da_nil))) (de_call c_L_stack_words (hr.mono (by omega)) rfl (da_cons (de_ix (dv 0) de_int) da_nil))))), ?_⟩
  obtain ⟨a, b, rfl, ha, hb, za, zb, q⟩ := h
  have l1 := mkS_len a
  have l2 := mkS_len b
  walk_at "dd"
  refine ⟨a, rfl, ha, za, fun p G1 n1 s1 h1 => ?_⟩
  walk_at "dd"
  intro p2 n2
  refine abs_new n2 fun G2 s2 h2 => ?_
  walk_at "dd"
  refine w_addL (by walk_at "gq") h2 (mid (by rw [List.length_map]; show _ + 1 ≤ _; omega)) ?_
  intro p3 n3
  refine abs_new n3 fun G3 s3 h3 => ?_
  walk_at "dd"
  refine ⟨b, rfl, hb, zb, fun p4 G4 n4 s4 h4 => ?_⟩
  walk_at "dd"
  refine w_addL (by walk_at "gq") h4 (mid (by rw [List.length_append, List.length_map, List.length_map]; show _ + 1 + _ ≤ _; omega)) ?_
  intro p5 n5
  refine abs_new n5 fun G5 s5 h5 => ?_
  refine q.less (by walk_at "g0") (by walk_at "gs") (h5.trans ?_)
  show some (DO.lst (((mkS a).map .str ++ [DV.str "--"]) ++ (mkS b).map .str)) = some (DO.lst ((mkS a ++ ("--" : Str) :: mkS b).map .str))
  rw [List.map_append, List.map_cons, List.append_assoc]; rfl
abbrev N_L_opens : List Str := ["_law_words_here", "_law_found", "_law_word"]
abbrev A_L_opens : List Str := ["_law_words_here"]
theorem sc_L_opens : FnScope N_L_opens A_L_opens (defScope s_L_opens) := ⟨rfl, rfl, rfl, by decide +kernel, rfl, by decide +kernel, by decide +kernel⟩
theorem h_L_opens (a : At K mg "_law_opens" s_L_opens A_L_opens) (B : BI mg) : Has P w K mg base 1 "_law_opens" A_L_opens SP_lop := by
  refine at_mk a sc_L_opens fun f cdv A outer s H E hr ds G R hl h => ?_
  refine ⟨_, (dss_cons (ds_set (i := 1) sc_L_opens.nd rfl (.inl rfl) (de_lst da_nil))
    (dss_cons (ds_for PassesOwn.never rfl (di_list (dv 0)) (dg_name (i := 2) sc_L_opens.nd rfl (.inl rfl)) (dss_one (ds_if (dt_w (dw_and (dt_cmp od_notin (dv 2) (de_tup (da_cons de_str (da_cons de_str (da_cons de_str (da_cons de_str (da_cons de_str (da_cons de_str da_nil))))))) rfl) (dw_and1 (dt_cmp od_notin (dv 2) (dv 1) rfl)))) (dss_one (ds_expr (de_bm PySem.F.plainAttrs_list PySem.F.slot_list_append PySem.F.type_list_append md_append (dv 1) (da_cons (dv 2) da_nil)))) dss_nil)))
    (dss_one (ds_ret (dv 1))))), ?_⟩
  obtain ⟨p, ws, rfl, hp, hl', q⟩ := h
  walk_at "dd"
  intro p2 n2
  refine abs_new n2 fun G1 s1 h1 => ?_
  walk_at "dd"
  refine for_by (fun i δ G' => ∃ (x2 : Option DV), δ = [some (.ref p), some (.ref p2), x2] ∧ Sub G G' ∧ G' p2 = some (.lst ((ddp notSp [] (ws.take i)).map .str))) (fun i δ G' ⟨_, _, s, _⟩ => .inl (s _ _ hp)) ⟨_, rfl, s1, h1⟩ ?_ ?_
  · rintro i d δ G' hd ⟨x2, rfl, sG, hp2⟩
    rw [List.getElem?_map] at hd
    obtain ⟨z, hz, rfl⟩ := Option.map_eq_some_iff.mp hd
    have hi := (List.getElem?_eq_some_iff.mp hz).1
    have et : ws.take (i + 1) = ws.take i ++ [z] := by rw [List.take_add_one, hz]; rfl
    have ed : ddp notSp [] (ws.take (i + 1)) = if notSp z && !decide (z ∈ ddp notSp [] (ws.take i)) then ddp notSp [] (ws.take i) ++ [z] else ddp notSp [] (ws.take i) := by
      rw [et]; unfold ddp; rw [List.foldl_append]; rfl
    have ld : (ddp notSp [] (ws.take i)).length ≤ 900000 := by
      have := ddp_len notSp (ws.take i) []
      rw [List.length_nil, List.length_take] at this; omega
    have es : ([DV.str "[", .str "]", .str "{", .str "}", .str "--", .str "number"] : List DV) = six.map .str := rfl
    walk_at "dd"
    refine w_inT rfl ?_
    rw [es, inD_strs]
    walk_at "dd"
    show if notSp z = true then _ else _
    refine w_ite (fun h1 => ?_) (fun h1 => ?_)
    · walk_at "dd"
      refine w_inL hp2 (flat_strs _) ?_
      rw [inD_strs]
      walk_at "dd"
      show if (!decide (z ∈ ddp notSp [] (ws.take i))) = true then _ else _
      refine w_ite (fun h2 => ?_) (fun h2 => ?_)
      · rw [h1, h2] at ed
        walk_at "dd"
        refine w_app hp2 (by rw [List.length_map]; exact midlt (by omega)) ?_
        refine abs_upd hp2 fun G2 u2 h3 => ?_
        walk_at "dd"
        refine ⟨_, rfl, by walk_at "gs", ?_⟩
        rw [h3, ed]
        show _ = some (DO.lst ((ddp notSp [] (ws.take i) ++ [z]).map .str))
        rw [List.map_append]; rfl
      · rw [h1, h2] at ed
        walk_at "dd"
        exact ⟨_, rfl, sG, by rw [ed]; exact hp2⟩
    · rw [h1] at ed
      walk_at "dd"
      exact ⟨_, rfl, sG, by rw [ed]; exact hp2⟩
  · rintro δ G' ⟨x2, rfl, sG, hp2⟩
    rw [List.length_map, List.take_length] at hp2
    walk_at "dd"
    exact q.less n2 sG hp2
end
end K18
/-! list.index of a text in a list of texts; displays of dicts with texts as keys -/
namespace DD
open PySem PySem.W L2 SX Cm
theorem rvs_str {K : Frag} {H : Hp} : ∀ {ys : List Str} {us : List V}, RVs K H us (ys.map .str) → us = ys.map V.str
  | [], _, .nil => rfl
  | y :: r, _, .cons h t => by
    cases h
    rw [rvs_str t]; rfl
theorem flat_vs : ∀ ys : List Str, (ys.map V.str).all flatV = true
  | [] => rfl
  | y :: r => by
    rw [List.map_cons, List.all_cons, flat_vs r]; rfl
section
variable {X : Cx}
def bIndexL : DM := fun x ds G Q => ∃ (p : Addr) (ys : List Str) (y : Str) (j : Nat), x = .ref p ∧ ds = [.str y] ∧ G p = some (.lst (ys.map DV.str)) ∧ ys[j]? = some y ∧ (∀ m z, m < j → ys[m]? = some z → z ≠ y) ∧ Q (.int ((j : Nat) : Int)) G
theorem md_index : MtD X "list.index" bIndexL := by
  refine ⟨_, mt_index, fun x ds vx vs H G R Q rx rs w h f => ?_⟩
  obtain ⟨p, ys, y, j, rfl, rfl, e, hj, hno, q⟩ := h
  cases rx
  cases rs with
  | cons ry rt =>
    cases rt
    cases ry
    obtain ⟨us, hu, r⟩ := wd_list w e
    have eu := rvs_str r
    subst eu
    refine ⟨p, ys.map V.str, .str y, j, .str y, rfl, rfl, .inl (.inl hu), rfl, flat_vs ys, by rw [List.getElem?_map, hj]; rfl, by show (y == y) = true; exact beq_self_eq_true y, fun m z' hm hz => ?_, f _ _ _ _ q (TKs.refl H) w (.int _)⟩
    rw [List.getElem?_map] at hz
    obtain ⟨z, hz2, e2⟩ := Option.map_eq_some_iff.mp hz
    subst e2
    show (z == y) = false
    exact beq_eq_false_iff_ne.mpr (hno m z hm hz2)
/-! displays -/
def dPairs : List (TD × TD) → DSt → DG → (List (DV × DV) → DG → Prop) → Prop
  | [], _, G, Q => Q [] G
  | (tk, tv) :: r, δ, G, Q => tk δ G fun x G1 => tv δ G1 fun y G2 => dPairs r δ G2 fun ps G3 => Q ((x, y) :: ps) G3
inductive PR (K : Frag) (H : Hp) : List (V × V) → List (DV × DV) → Prop
  | nil : PR K H [] []
  | cons {v u : V} {x y : DV} {vs : List (V × V)} {ps : List (DV × DV)} : RV K H v x → RV K H u y → PR K H vs ps → PR K H ((v, u) :: vs) ((x, y) :: ps)
theorem lift_pairs {K : Frag} {σ : St} : ∀ (trs : List (TD × TD)) {δ : DSt} {G : DG} {H : Hp} {Qd : List (DV × DV) → DG → Prop} {Qh : List (V × V) → Hp → Prop}, Sl K H σ δ → Wd K H G → dPairs trs δ G Qd →
    (∀ ps G' H' vs, Qd ps G' → TKs K H H' → Wd K H' G' → PR K H' vs ps → Qh vs H') → tPairs (trs.map fun t => (up K t.1, up K t.2)) σ H Qh
  | [], δ, G, H, _, _, sl, w, h, f => f [] G H [] h (TKs.refl H) w .nil
  | (tk, tv) :: r, δ, G, H, _, _, sl, w, h, f => ⟨δ, G, _, sl, w, h, fun x G1 vx H1 h1 t1 w1 r1 => ⟨δ, G1, _, sl.mono t1, w1, h1, fun y G2 vy H2 h2 t2 w2 r2 =>
    lift_pairs r (sl.mono (t1.trans t2)) w2 h2 fun ps G' H' vs q t w' pr => f ((x, y) :: ps) G' H' ((vx, vy) :: vs) q ((t1.trans t2).trans t) w' (.cons (r1.mono (t2.trans t)) (r2.mono t) pr)⟩⟩
theorem pr_keys {K : Frag} {H : Hp} : ∀ {kvs : List (Str × DV)} {vs : List (V × V)}, PR K H vs (kvs.map fun kv => (DV.str kv.1, kv.2)) → ∃ vk : List (Key × V), vs = vk.map (fun kv => (kV kv.1, kv.2)) ∧ vk.length = kvs.length ∧
    ∀ {us : List (Key × V)} {ds : List (Key × DV)}, KRV K H us ds → KRV K H (mergeK us vk) (kvs.foldl (fun m kv => putD m (keyD kv.1) kv.2) ds)
  | [], _, .nil => ⟨[], rfl, rfl, fun h => h⟩
  | kv :: r, _, .cons (v := v) (u := u) h1 h2 t => by
    obtain ⟨vk, e, l, g⟩ := pr_keys t
    cases h1
    exact ⟨(keyD kv.1, u) :: vk, by rw [e]; rfl, by rw [List.length_cons, List.length_cons, l], fun h => g (h.put (keyD kv.1) h2)⟩
def dDisp (trs : List (TD × TD)) : TD := fun δ G Q => ∀ p, G p = none → dPairs trs δ (dupd G p (.dct [])) fun ps G2 => G2 p = some (.dct []) ∧ ∃ kvs : List (Str × DV), ps = kvs.map (fun kv => (DV.str kv.1, kv.2)) ∧ kvs.length ≤ 15 ∧ Q (.ref p) (dupd G2 p (.dct (kvs.foldl (fun m kv => putD m (keyD kv.1) kv.2) [])))
structure DPs (X : Cx) (pos : Pos) (keys : List (Option Expr)) (values : List Expr) (trs : List (TD × TD)) : Prop where
  run : PPs X pos keys values (trs.map fun t => (up X.K t.1, up X.K t.2))
theorem dps_nil {pos : Pos} : DPs X pos [] [] [] := ⟨pps_nil⟩
theorem dps_cons {pos : Pos} {k v : Expr} {ks : List (Option Expr)} {vs : List Expr} {tk tv : TD} {trs : List (TD × TD)} (hk : DE X k tk) (hv : DE X v tv) (hr : DPs X pos ks vs trs) : DPs X pos (some k :: ks) (v :: vs) ((tk, tv) :: trs) := ⟨pps_cons hk hv hr.run⟩
theorem de_disp {pos : Pos} {keys : List (Option Expr)} {values : List Expr} {trs : List (TD × TD)} (h : DPs X pos keys values trs) (hall : keys.all (·.isSome) = true := by rfl) (hl : keys.length = values.length := by rfl) (h0 : keys ≠ [] := by exact fun z => nomatch z)
    (h15 : keys.length ≤ 15 := by decide) : DE X (.Dict keys values pos) (dDisp trs) := by
  refine PE_mono (pe_disp h.run hall hl h0 h15) fun σ H Q ⟨δ, G, R, sl, w, q, f⟩ => fun p np => ?_
  have s := same_new np (.dK [])
  have w1 : Wd X.K (upd H p (.dK [])) (dupd G p (.dct [])) := w.new np fun O => ⟨[], upd_same, .nil⟩
  refine lift_pairs trs (sl.mono (TKs.of s)) w1 (q p (w.free np)) fun ps G' H' vs ⟨eG, kvs, ep, hl, q2⟩ t w' pr => ?_
  subst ep
  obtain ⟨us, hu, kr⟩ := wd_dct w' eG
  cases kr
  obtain ⟨vk, ev, ln, mg⟩ := pr_keys pr
  have t2 : TKs X.K H' (upd H' p (.dK (mergeK [] vk))) := tks_dct hu
  exact ⟨hu, vk, ev, by omega, f _ _ _ _ q2 (((TKs.of s).trans t).trans t2) (w'.put ⟨_, eG, fun L φ z => by cases z⟩ t2 fun O => ⟨_, upd_same, (mg .nil).mono t2⟩) (.ref p)⟩
end
section
variable {δ : DSt} {G : DG} {Q : DK} {QP : List (DV × DV) → DG → Prop}
theorem w_disp {trs : List (TD × TD)} (h : ∀ p, G p = none → dPairs trs δ (dupd G p (.dct [])) fun ps G2 => G2 p = some (.dct []) ∧ ∃ kvs : List (Str × DV), ps = kvs.map (fun kv => (DV.str kv.1, kv.2)) ∧ kvs.length ≤ 15 ∧ Q (.ref p) (dupd G2 p (.dct (kvs.foldl (fun m kv => putD m (keyD kv.1) kv.2) [])))) : dDisp trs δ G Q := h
theorem w_pn (h : QP [] G) : dPairs [] δ G QP := h
theorem w_pc {tk tv : TD} {r : List (TD × TD)} (h : tk δ G fun x G1 => tv δ G1 fun y G2 => dPairs r δ G2 fun ps G3 => QP ((x, y) :: ps) G3) : dPairs ((tk, tv) :: r) δ G QP := h
theorem w_index {p : Addr} {ys : List Str} {y : Str} {j : Nat} (e : G p = some (.lst (ys.map DV.str))) (hj : ys[j]? = some y) (hno : ∀ m z, m < j → ys[m]? = some z → z ≠ y) (h : Q (.int ((j : Nat) : Int)) G) : bIndexL (.ref p) [.str y] G Q := ⟨p, ys, y, j, rfl, rfl, e, hj, hno, h⟩
theorem idx_no : ∀ {ys : List Str} {y : Str} {m : Nat} {z : Str}, m < ys.idxOf y → ys[m]? = some z → z ≠ y
  | [], _, _, _, _, h => nomatch h
  | x :: r, y, m, z, hm, hz => by
    by_cases ex : x = y
    · rw [ex, List.idxOf_cons_self] at hm
      exact absurd hm (Nat.not_lt_zero _)
    · have e1 : (x :: r).idxOf y = r.idxOf y + 1 := by rw [List.idxOf_cons, beq_eq_false_iff_ne.mpr ex]; rfl
      rw [e1] at hm
      cases m with
      | zero =>
        have : x = z := Option.some.inj hz
        rw [← this]; exact ex
      | succ m => exact idx_no (ys := r) (m := m) (by omega) hz
theorem idx_at {ys : List Str} {y : Str} (h : y ∈ ys) : ys[ys.idxOf y]? = some y ∧ ∀ m z, m < ys.idxOf y → ys[m]? = some z → z ≠ y :=
  ⟨by rw [List.getElem?_eq_getElem (List.idxOf_lt_length_of_mem h), List.getElem_idxOf], fun _ _ hm hz => idx_no hm hz⟩
end
end DD
set_option maxHeartbeats 1000000
namespace K18
open PySem PySem.W L2 SX Cm DD
local macro_rules | `(tactic| walk_at "d1") => `(tactic| first | (with_reducible refine w_seq ?_) | (with_reducible refine w_next ?_) | ((with_reducible show dVar _ _ _ _); refine w_var rfl ?_) | (with_reducible refine w_asg ?_) | (with_reducible refine w_cons ?_) | (with_reducible refine w_nil ?_) | (with_reducible refine w_c ?_) | (with_reducible refine w_op ?_) | (with_reducible refine w_call ?_) | (with_reducible refine w_CB ?_) | (with_reducible refine w_ret ?_) | (with_reducible refine w_ifS ?_) | (with_reducible refine w_drop ?_) | (with_reducible refine w_tup ?_) | (with_reducible refine w_lst ?_) | (with_reducible refine w_sl ?_) | (with_reducible refine w_none ?_) | (with_reducible refine w_some ?_) | (with_reducible refine w_BM ?_) | (with_reducible refine w_BM0 ?_) | (with_reducible refine w_test ?_) | (with_reducible refine w_tru ?_) | (with_reducible refine w_and ?_) | (with_reducible refine w_or ?_) | (with_reducible refine w_not ?_) | (with_reducible refine w_yes ?_) | (with_reducible refine w_ifE ?_) | (with_reducible refine w_andV ?_) | (with_reducible refine w_orV ?_) | (with_reducible refine w_notV ?_) | (with_reducible refine w_neg ?_) | (with_reducible refine w_rev ?_) | (with_reducible refine w_exI ?_) | (with_reducible refine w_exB ?_) | (with_reducible refine w_exT ?_) | (with_reducible refine w_exS ?_) | (with_reducible refine w_parE ?_) | (with_reducible refine w_par ?_) | (with_reducible refine w_asgS ?_) | (with_reducible refine w_retN ?_) | (with_reducible refine w_break ?_) | (with_reducible refine w_cont ?_) | (with_reducible refine w_truB ?_) | (with_reducible refine w_truI ?_) | (with_reducible refine w_truN ?_) | (with_reducible refine w_truT ?_) | (with_reducible refine w_addI ?_) | (with_reducible refine w_subI ?_) | (with_reducible refine w_cmpI ?_) | (with_reducible refine w_cmpS ?_) | (with_reducible refine w_eqSS ?_) | (with_reducible refine w_eqII ?_) | (with_reducible refine w_eqBB ?_) | (with_reducible refine w_neSS ?_) | (with_reducible refine w_neII ?_) | (with_reducible refine w_neBB ?_) | (with_reducible refine w_eqSN ?_) | (with_reducible refine w_eqIN ?_) | (with_reducible refine w_eqSI ?_) | (with_reducible refine w_eqIS ?_) | (with_reducible refine w_eqNS ?_) | (with_reducible refine w_eqBS ?_) | (with_reducible refine w_eqT0 ?_) | (with_reducible refine w_ix0 ?_) | (with_reducible refine w_ix1 ?_) | (with_reducible refine w_ix2 ?_) | (with_reducible refine w_ix3 ?_) | (with_reducible refine w_slT ?_) | (with_reducible refine w_lenT ?_) | (with_reducible refine w_intB ?_) | (with_reducible refine w_intI ?_) | (with_reducible refine w_tupT ?_) | (with_reducible refine w_rcvS ?_) | (with_reducible refine ly1 ?_) | (with_reducible refine ly2 ?_) | (with_reducible refine lt1' ?_) | (with_reducible refine lt2' ?_) | (with_reducible refine g_n ?_) | (with_reducible refine w_isN ?_) | (with_reducible refine w_isnN ?_) | (with_reducible refine w_for ?_) | (with_reducible refine w_lc ?_) | (with_reducible refine wi_tup ?_) | (with_reducible refine wi_lst ?_) | (with_reducible refine wi_str ?_) | (with_reducible refine wi_rng ?_) | (with_reducible refine wi_rng2 ?_) | (with_reducible refine wi_enumT ?_) | (with_reducible refine wi_enum ?_) | (with_reducible refine wi_rev ?_) | (with_reducible refine wi_revR ?_) | (with_reducible refine wx_enumT ?_) | (with_reducible refine w_callX ?_) | (with_reducible refine w_methX ?_) | (with_reducible refine w_raise ?_) | (with_reducible refine w_try ?_) | (with_reducible refine w_xSet ?_) | (with_reducible refine w_xExpr ?_) | (with_reducible refine w_xLst ?_) | (with_reducible refine w_xTup ?_) | (with_reducible refine w_xCons ?_) | (with_reducible refine w_xNil ?_) | (with_reducible refine w_xE ?_) | (with_reducible refine w_xCall ?_) | (with_reducible refine w_call0 ?_) | (with_reducible refine w_asgL ?_) | (with_reducible refine w_tupPd ?_) | (with_reducible refine wi_zip ?_) | (with_reducible refine w_dnew ?_) | (with_reducible refine w_dget ?_) | (with_reducible refine w_dget2 ?_) | (with_reducible refine w_din ?_) | (with_reducible refine w_dput ?_) | (with_reducible refine w_asgT ?_) | (with_reducible refine g_C ?_) | (with_reducible refine g_0 ?_) | (with_reducible refine w_inS ?_) | (with_reducible refine w_delT ?_) | (with_reducible refine w_dc ?_) | (with_reducible refine w_revL ?_) | (with_reducible refine wi_revT ?_) | (with_reducible refine w_lstZip ?_) | (with_reducible refine w_chain ?_) | (with_reducible refine w_orT ?_) | ((with_reducible show gT _ _ _ _ _ _); refine g_T ?_ rfl) | ((with_reducible show ∃ p, DV.ref _ = _ ∧ (∃ kvs, _) ∧ _); refine wx_get (by walk_at "gq") ?_) | ((with_reducible show ∃ kvs z, _ = _ ∧ _ = some (DO.dct _) ∧ _); refine wx_get2 (by walk_at "gq") ?_) | ((with_reducible show ∃ p kvs z, _ = _ ∧ _ = _ ∧ _ = some (DO.dct _) ∧ _); refine wx_in (by walk_at "gq") ?_) | ((with_reducible show List.length _ = _ ∧ _); refine w_len ?_ rfl) | ((with_reducible show List.length _ ≤ sizeLine ∧ _); refine w_sz ?_ (szl rfl)) | ((with_reducible show bIx _ (.int _) _ _); first | refine w_ix0 ?_ | refine w_ix1 ?_ | refine w_ix2 ?_ | refine w_ix3 ?_) | ((with_reducible show bIsi [_, _] _ _); first | refine w_isi (by decide) (a := "tuple") rfl rfl ?_ | refine w_isi (by decide) (a := "str") rfl rfl ?_ | refine w_isi (by decide) (a := "int") rfl rfl ?_ | refine w_isi (by decide) (a := "bool") rfl rfl ?_ | refine w_isi (by decide) (a := "NoneType") rfl rfl ?_) | ((with_reducible show ∃ ds, _ = DV.tup ds ∧ _); refine w_exT ?_) | ((with_reducible show ∃ z, _ = DV.str z ∧ _); refine w_exS ?_) | ((with_reducible show ∃ ds, [_] = [DV.tup ds] ∧ _); refine wx_enumT ?_) | ((with_reducible show bSl _ _ _ _ _); refine w_slT ?_) | ((with_reducible show bTuple [_] _ _); refine w_tupT ?_) | ((with_reducible show bLen [_] _ _); refine w_lenT ?_) | ((with_reducible show bTru _ _ _); first | refine w_truT ?_ | refine w_truN ?_ | refine w_truB ?_ | refine w_truI ?_) | ((with_reducible show bEq _ _ _ _ _); first | refine w_eqSS ?_ | refine w_eqII ?_ | refine w_neSS ?_ | refine w_neII ?_ | refine w_eqT0 ?_) | ((with_reducible show bInt _ _ (.int _) (.int _) _ _); refine w_int (by first | decide | exact ⟨by decide, by decide, by decide⟩ | exact .inl ⟨by decide, by decide⟩ | exact .inr ⟨by decide, by decide⟩) ?_) | ((with_reducible show if _ = true then _ else _); first | refine w_it (by first | rfl | decide +kernel) ?_ | refine w_if0 (by first | rfl | decide +kernel) ?_) | ((with_reducible show rcv "list" (.ref _) _ ∧ _); refine w_rcvL (by walk_at "gq") ?_) | ((with_reducible show bTuple [.ref _] _ _); refine w_tupL (by walk_at "gq") ?_) | ((with_reducible show bLen [.ref _] _ _); refine w_lenL (by walk_at "gq") ?_) | ((with_reducible show bTru (.ref _) _ _); refine w_truL (by walk_at "gq") ?_) | ((with_reducible show ∃ _ _, DV.ref _ = _ ∧ Ls _ _ _ ∧ _); refine wx_lst (by walk_at "gq") ?_) | ((with_reducible show ∃ _ _, [DV.ref _] = _ ∧ Ls _ _ _ ∧ _); refine wx_lstA (by walk_at "gq") ?_))
local macro_rules | `(tactic| walk_at "dd") => `(tactic| repeat (walk_at "d1"))
local macro_rules | `(tactic| walk_at "gq") => `(tactic| first | assumption | exact dupd_same | exact sub_get (by assumption) (by walk_at "gq") | exact upd_get (by assumption) (by walk_at "gq") (by walk_at "gn") | exact subx_get (by assumption) (by walk_at "gq") (by walk_at "gn") | (refine (dupd_ne ?_).trans ?_; (focus walk_at "gn"); walk_at "gq"))
local macro_rules | `(tactic| walk_at "gs") => `(tactic| first | assumption | exact Sub.refl _ | exact sub_tr (by assumption) (by walk_at "gs") | exact sub_up (by assumption) (by walk_at "gs") (by walk_at "g0") | exact sub_ux (by assumption) (by walk_at "gs") (by walk_at "g0") | (refine Sub.new ?_ ?_; (focus walk_at "gs"); walk_at "g0"))
local macro_rules | `(tactic| walk_at "gk") => `(tactic| first | assumption | exact dk_sub (by assumption) (by walk_at "gk") | exact dk_upd (by assumption) (by walk_at "gk") ⟨_, by walk_at "gq"⟩ | exact dk_updD (by assumption) (by walk_at "gk") ⟨_, by walk_at "gq"⟩)
local macro_rules | `(tactic| walk_at "gu") => `(tactic| first | assumption | exact Upd.refl _ _ | exact upd_in (by assumption) (by walk_at "gu"))
local macro_rules | `(tactic| walk_at "gx") => `(tactic| first | assumption | exact SubX.refl _ _ | exact subx_sub (by assumption) (by walk_at "gx") | exact subx_upd (by assumption) (by walk_at "gx") | exact subx_tr (by assumption) (by walk_at "gx"))
local macro_rules | `(tactic| walk_at "gn") => `(tactic| first | assumption | exact Ne.symm (by assumption) | exact ne_ns (by assumption) ⟨_, by walk_at "gq"⟩ | exact ne_sn (by assumption) ⟨_, by walk_at "gq"⟩)
local macro_rules | `(tactic| walk_at "g0") => `(tactic| first | assumption | exact nn_ (by assumption) (by walk_at "gs"))
local macro_rules | `(tactic| walk_at "gl") => `(tactic| first | exact lv_w | exact lv_t | exact lv_r | exact lv_k)
local macro_rules | `(tactic| walk_at "df") => `(tactic| first | (with_reducible refine w_fld ?_) | (with_reducible refine w_fldS ?_) | (with_reducible refine w_meth ?_) | (with_reducible refine w_make ?_) | (with_reducible refine w_inK ?_) | ((with_reducible show ∃ a' C' fs' d', DV.ref _ = .ref a' ∧ _ ∧ Cls _ C' ∧ NoAttr _ C' _ ∧ List.lookup _ fs' = some d' ∧ _); refine ⟨_, _, _, _, rfl, by walk_at "gq", by assumption, by assumption, by walk_at "gl", ?_⟩))
local macro_rules | `(tactic| walk_at "de") => `(tactic| repeat (first | walk_at "d1" | walk_at "df"))
theorem six_voc : ∀ z ∈ six, z ∈ voc := by decide +kernel
theorem sm_voc {z : Str} (h : sml z) : z ∈ voc := List.mem_append_left _ (List.mem_append_left _ (List.mem_append_right _ h))
theorem gr_voc {z : Str} (h : grt z) : z ∈ voc := List.mem_append_left _ (List.mem_append_right _ h)
theorem sm_vP : ∀ z, sml z → vP z := by
  have : ∀ z ∈ smalls, smB z = true ∧ (TL.tl z).length ≤ 1000 := by decide +kernel
  exact this
theorem gr_vR : ∀ z, grt z → vR z := by
  have : ∀ z ∈ greats, z = "" ∨ (gtB z = true ∧ (TL.tl z).length ≤ 1000) := by decide +kernel
  exact this
theorem drawn_ok {s t : Sk} {c e : Int} (g : GS 3 c s) (l : c ≤ 23) (g' : GS 3 e t) (l' : e ≤ 23) : NS vP vR s ∧ NS vP vR t ∧ WsOK 46 200 (mkR (s, t)) := by
  have n1 := NS.imp sm_vP gr_vR s g.nm
  have n2 := NS.imp sm_vP gr_vR t g'.nm
  have z1 := g.sz
  have z2 := g'.sz
  refine ⟨n1, n2, fun y hy => ?_, ?_, ?_⟩
  · rcases List.mem_append.mp hy with h | h
    · rcases mkS_in s g.nm y h with h | h | h
      · exact six_voc y h
      · exact sm_voc h
      · exact gr_voc h
    · rcases List.mem_cons.mp h with rfl | h
      · decide +kernel
      · rcases mkS_in t g'.nm y h with h | h | h
        · exact six_voc y h
        · exact sm_voc h
        · exact gr_voc h
  · show DD.nb (mkS s ++ ([("--" : Str)] ++ mkS t)) ≤ 46
    have b1 := nb_szS s n1
    have b2 := nb_szS t n2
    rw [nb_append, nb_append, show DD.nb [("--" : Str)] = 0 from by decide +kernel]; omega
  · show (mkS s ++ ("--" : Str) :: mkS t).length ≤ 200
    have b1 := mkS_len s
    have b2 := mkS_len t
    rw [List.length_append, List.length_cons]; omega
theorem cmpV {p : Sk × Sk} (h1 : NS vP vR p.1) (h2 : NS vP vR p.2) (l : DD.nb (mkR p) ≤ 100) : txB (eR p) = true ∧ dpt (eR p) ≤ 1000 := by
  obtain ⟨_, b, c⟩ := eS_cmp p.1
  obtain ⟨_, b', c'⟩ := eS_cmp p.2
  have d1 := dp_nbS p.1
  have d2 := dp_nbS p.2
  have e : DD.nb (mkR p) = DD.nb (mkS p.1) + DD.nb (("--" : Str) :: mkS p.2) := nb_append _ _
  have e2 := nb_cons ("--" : Str) (mkS p.2)
  refine ⟨?_, ?_⟩
  · show (txB (eS p.1) && (txB (eS p.2) && true)) = true
    rw [c (NS_ok h1), c' (NS_ok h2)]; rfl
  · show 1 + max (dpt (eS p.1)) (max (dpt (eS p.2)) 0) ≤ 1000
    omega
theorem hu1000 {A : Around} (h : Room 207 A) : A.units + 1000 < cLine := by have := h.un; omega
def fixT : List Str := ["", " ", "--", "-- ", " --", "A -- A\n", "\nA -- A", "A  -- A", "A -- -- A", "[ A -- A ]", "number"]
theorem fix_ok {z : Str} (h : z ∈ fixT) : WsOK 5 6 (Txt.split z " ") := by
  have : ∀ z ∈ fixT, (∀ y ∈ Txt.split z " ", y ∈ voc) ∧ DD.nb (Txt.split z " ") ≤ 5 ∧ (Txt.split z " ").length ≤ 6 := by decide +kernel
  obtain ⟨a, b, c⟩ := this z h
  exact ⟨a, b, c⟩
section
variable {P : Program} {w : World} {K : Frag} {mg : Str → Option Value} {base : Heap}
abbrev N_L_law : List Str := ["_law_script", "_law_deck_here", "_law_turn", "_law_pair", "_law_first", "_law_text", "_law_k", "_law_thing"]
abbrev A_L_law : List Str := ["_law_script"]
theorem sc_L_law : FnScope N_L_law A_L_law (defScope s_L_law) := ⟨rfl, rfl, rfl, by decide +kernel, rfl, by decide +kernel, by decide +kernel⟩
theorem ok_law {f gd : Addr} {fd dd : FuncData} (F : Fun K "law" "law" s_L_law f fd) (B : BI mg) (DE : FnOk P w K mg base CX0 1 gd dd ["_law_script"] (spDeck K)) (bDE : L2.Binds K dd ["_law_script"] []) (kDE : keepIn K (.ref gd) = true) (mDE : mg "_law_deck" = some (.ref gd))
    (c_L_draw : Has P w K mg base 2 "_law_draw" A_L_draw SP_draw)
    (c_L_row_kind : Has P w K mg base 14 "_law_row_kind" A_L_row_kind SP_row_kind)
    (c_L_row_words : Has P w K mg base 11 "_law_row_words" A_L_row_words (SP_lrw 4))
    (c_L_bent : Has P w K mg base 3 "_law_bent" A_L_bent SP_bt)
    (c_L_told : Has P w K mg base 7 "_law_told" A_L_told SP_tl)
    (c_L_read : Has P w K mg base 207 "_law_read" A_L_read (SP_rd 67))
    : FnOk P w K mg base CX0 208 f fd ["_law_script"] (spLaw K) := by
  refine F.ok sc_L_law (fun vs H Q E h => ?_) (fun cdv A outer s H vs Q E hr h => ?_)
  · obtain ⟨a, ns, rfl, _⟩ := h
    rfl
  obtain ⟨a, ns, rfl, hS, h63, q⟩ := h
  refine ⟨_, pss_cons (ps_set (i := 1) sc_L_law.nd rfl (.inl rfl) (pe_call DE (hr.mono (by omega)) rfl mDE kDE bDE .nil pass0 (pa_cons (pv 0) pa_nil)))
    (dss_cons (ds_for PassesOwn.never rfl (di_range B.range rfl (da_cons de_int da_nil)) (dg_name (i := 2) sc_L_law.nd rfl (.inl rfl)) (dss_cons (ds_set (i := 3) sc_L_law.nd rfl (.inl rfl) (de_call c_L_row_kind (hr.mono (by omega)) rfl (da_cons (dv 1) da_nil)))
      (dss_cons (ds_set (i := 4) sc_L_law.nd rfl (.inl rfl) (de_bm PySem.F.plainAttrs_str PySem.F.slot_str_join PySem.F.type_str_join md_join de_str (da_cons (de_call c_L_row_words (hr.mono (by omega)) rfl (da_cons (dv 3) da_nil)) da_nil)))
      (dss_cons (ds_set (i := 5) sc_L_law.nd rfl (.inl rfl) (dv 4))
      (dss_cons (ds_for PassesOwn.never rfl (di_range B.range rfl (da_cons de_int da_nil)) (dg_name (i := 6) sc_L_law.nd rfl (.inl rfl)) (dss_cons (ds_set (i := 5) sc_L_law.nd rfl (.inl rfl) (de_call c_L_bent (hr.mono (by omega)) rfl (da_cons (dv 1) (da_cons (de_ix (de_lst (da_cons (dv 5) (da_cons (dv 4) da_nil))) (de_callTy cd_int B.int rfl (by decide +kernel) (da_cons (de_cmp (od_eq hr.units) (de_call c_L_draw (hr.mono (by omega)) rfl (da_cons (dv 1) (da_cons de_int da_nil))) de_int (nomark _)) da_nil))) da_nil))))
        (dss_one (ds_if (dt_w (dw_and (dt_cmp od_lt (de_callB cd_len B.len rfl (by decide +kernel) (da_cons (dv 5) da_nil)) de_int (nomark _)) (dw_and1 (dt_cmp (od_neV (hu1000 hr)) (de_call c_L_told (hr.mono (by omega)) rfl (da_cons (dv 5) da_nil)) (de_call c_L_read (hr.mono (by omega)) rfl (da_cons (dv 5) da_nil)) (nomark _))))) (dss_one (ds_ret de_bl)) dss_nil))))
      (dss_one (ds_if (dt_cmp (od_neV (hu1000 hr)) (de_call c_L_told (hr.mono (by omega)) rfl (da_cons (dv 4) da_nil)) (dv 3) (nomark _)) (dss_one (ds_ret de_bl)) dss_nil)))))))
    (dss_cons (ds_for PassesOwn.never rfl (di_list (de_lst (da_cons de_non (da_cons de_int (da_cons de_bl (da_cons (de_tup da_nil) (da_cons (de_lst da_nil) (da_cons (de_tup (da_cons de_str da_nil)) (da_cons (de_lst (da_cons de_str (da_cons de_str (da_cons de_str da_nil)))) (da_cons (de_disp (dps_cons de_str de_str dps_nil)) da_nil)))))))))) (dg_name (i := 7) sc_L_law.nd rfl (.inl rfl)) (dss_one (ds_if (dt_cmp od_isnot (de_call c_L_told (hr.mono (by omega)) rfl (da_cons (dv 7) da_nil)) de_non (nomark _)) (dss_one (ds_ret de_bl)) dss_nil)))
    (dss_cons (ds_for PassesOwn.never rfl (di_list (de_lst (da_cons de_str (da_cons de_str (da_cons de_str (da_cons de_str (da_cons de_str (da_cons de_str (da_cons de_str (da_cons de_str (da_cons de_str (da_cons de_str (da_cons de_str da_nil))))))))))))) (dg_name (i := 5) sc_L_law.nd rfl (.inl rfl)) (dss_one (ds_if (dt_cmp (od_neV (hu1000 hr)) (de_call c_L_told (hr.mono (by omega)) rfl (da_cons (dv 5) da_nil)) (de_call c_L_read (hr.mono (by omega)) rfl (da_cons (dv 5) da_nil)) (nomark _)) (dss_one (ds_ret de_bl)) dss_nil)))
    (dss_one (ds_ret de_bl))))), ?_⟩
  refine ⟨_, rfl, a, ns, rfl, hS, h63, fun d c H1 s1 nd nc D1 => ?_⟩
  refine law_go (δ := [some (.ref a), some (.ref d), none, none, none, none, none, none]) D1 (.cons (.ref a) (.cons (.ref d) (Sl.nones 6))) (fun H' => q H') fun G hk => ?_
  clear D1 s1 nd nc
  walk_at "de"
  refine wx_rng (by decide) (by decide) ?_
  refine for_by (fun i δ G' => ∃ (x2 x3 x4 x5 x6 : Option DV), δ = [some (.ref a), some (.ref d), x2, x3, x4, x5, x6, none] ∧ HasDk G' d) (fun _ _ _ _ => trivial) ⟨none, none, none, none, none, rfl, hk⟩ ?_ ?_
  · rintro i y δ G' hy ⟨x2, x3, x4, x5, x6, rfl, hk⟩
    walk_at "de"
    refine ⟨d, rfl, hk, fun s t c e gs l1 gt l2 => ?_⟩
    obtain ⟨v1, v2, wk⟩ := drawn_ok gs l1 gt l2
    have z1 := gs.sz
    have z2 := gt.sz
    have d1 := gs.dp
    have d2 := gt.dp
    walk_at "de"
    refine ⟨s, t, rfl, by omega, by omega, by omega, by omega, fun q1 G1 n1 s1 hq1 => ?_⟩
    walk_at "de"
    refine w_join hq1 (jsz wk (by decide)) ?_
    have ne : mkR (s, t) ≠ [] := fun e => by
      have hm : ("--" : Str) ∈ mkR (s, t) := List.mem_append_right _ (List.mem_cons_self ..)
      rw [e] at hm; cases hm
    have ef := spl_join wk.w ne
    generalize Txt.join " " (mkR (s, t)) = z0 at ef
    have w0 : WsOK 46 200 (Txt.split z0 " ") := by rw [ef]; exact wk
    have hk1 : HasDk G1 d := by walk_at "gk"
    clear hk s1 n1
    walk_at "de"
    refine wx_rng (by decide) (by decide) ?_
    refine for_by (fun j δ G' => ∃ (x2 x6 : Option DV) (z : Str), δ = [some (.ref a), some (.ref d), x2, some (eR (s, t)), some (.str z0), some (.str z), x6, none] ∧ HasDk G' d ∧ WsOK (46 + 2 * j) (200 + j) (Txt.split z " ")) (fun _ _ _ _ => trivial) ⟨_, _, z0, rfl, hk1, w0⟩ ?_ ?_
    · rintro j y δ G2 hy ⟨x2, x6, z, rfl, hk, hz⟩
      have hj : j < 10 := by have := (List.getElem?_eq_some_iff.mp hy).1; rw [rng_len] at this; omega
      walk_at "de"
      intro p1 np1
      refine abs_new np1 fun G3 s3 h3 => ?_
      walk_at "de"
      refine ⟨d, 4, rfl, by walk_at "gk", by decide, by decide, fun r r0 r1 => ?_⟩
      walk_at "de"
      refine w_ixL h3 (int2 (decide (r = 0))) ?_
      obtain ⟨z1, ez, hz1⟩ : ∃ z1 : Str, (if decide (r = 0) = true then DV.str z0 else DV.str z) = .str z1 ∧ WsOK (46 + 2 * j) (200 + j) (Txt.split z1 " ") := by
        cases decide (r = 0)
        · exact ⟨z, rfl, hz⟩
        · exact ⟨z0, rfl, w0.w, by have := w0.nb; omega, by have := w0.ln; omega⟩
      rw [ez]
      walk_at "de"
      refine ⟨d, z1, _, _, rfl, by walk_at "gk", hz1, by omega, fun z2 hz2 => ?_⟩
      have hk3 : HasDk G3 d := by walk_at "gk"
      have hl2 := (WsOK.tx hz2).len
      walk_at "de"
      refine w_lenS (mid (show z2.length ≤ 1000000 by omega)) ?_
      walk_at "de"
      by_cases hlt : (z2.length : Int) < 400
      · refine w_it (decide_eq_true hlt) ?_
        walk_at "de"
        have tx := WsOK.tx hz2
        have hn := tx.nb
        by_cases hp : ∃ p, Txt.split z2 " " = mkR p ∧ NS vP vR p.1 ∧ NS vP vR p.2
        · obtain ⟨p, e1, e2, e3⟩ := hp
          refine ⟨.str z2, rfl, .inl ⟨z2, _, _, rfl, tx, by omega, fun p' f1 f2 f3 => ?_, fun h => absurd ⟨p, e1, e2, e3⟩ h⟩⟩
          obtain rfl : p' = p := mkR_inj f2 f3 e2 e3 (f1.symm.trans e1)
          walk_at "de"
          refine ⟨z2, _, _, rfl, tx, by omega, by omega, fun p'' g1 g2 g3 => ?_, fun h => absurd ⟨p', e1, e2, e3⟩ h⟩
          obtain rfl : p'' = p' := mkR_inj g2 g3 e2 e3 (g1.symm.trans e1)
          walk_at "de"
          obtain ⟨c1, c2⟩ := cmpV e2 e3 (by rw [← e1]; omega)
          refine ⟨plain_R _, plain_R _, c1, c1, c2, ?_⟩
          walk_at "de"
          refine w_if0 (by show (!decide (eR p'' = eR p'')) = false; rw [decide_eq_true rfl]; rfl) ?_
          walk_at "de"
          exact ⟨_, _, z2, rfl, hk3, by rw [show 46 + 2 * (j + 1) = 46 + 2 * j + 2 from by omega]; exact hz2⟩
        · refine ⟨.str z2, rfl, .inl ⟨z2, _, _, rfl, tx, by omega, fun p' f1 f2 f3 => absurd ⟨p', f1, f2, f3⟩ hp, fun _ => ?_⟩⟩
          walk_at "de"
          refine ⟨z2, _, _, rfl, tx, by omega, by omega, fun p' f1 f2 f3 => absurd ⟨p', f1, f2, f3⟩ hp, fun _ => ?_⟩
          walk_at "de"
          refine ⟨rfl, rfl, rfl, rfl, by decide, ?_⟩
          walk_at "de"
          refine w_if0 (by show (!decide (DV.non = DV.non)) = false; rw [decide_eq_true rfl]; rfl) ?_
          walk_at "de"
          exact ⟨_, _, z2, rfl, hk3, by rw [show 46 + 2 * (j + 1) = 46 + 2 * j + 2 from by omega]; exact hz2⟩
      · refine w_if0 (decide_eq_false hlt) ?_
        walk_at "de"
        exact ⟨_, _, z2, rfl, hk3, by rw [show 46 + 2 * (j + 1) = 46 + 2 * j + 2 from by omega]; exact hz2⟩
    · rintro δ G2 ⟨x2, x6, z, rfl, hk, hz⟩
      walk_at "de"
      refine ⟨.str z0, rfl, .inl ⟨z0, _, _, rfl, WsOK.tx w0, by decide, fun p' f1 f2 f3 => ?_, fun h => absurd ⟨(s, t), ef, v1, v2⟩ h⟩⟩
      obtain rfl : p' = (s, t) := mkR_inj f2 f3 v1 v2 (f1.symm.trans ef)
      walk_at "de"
      obtain ⟨c1, c2⟩ := cmpV (p := (s, t)) v1 v2 (by have := wk.nb; omega)
      refine ⟨plain_R _, plain_R _, c1, c1, c2, ?_⟩
      walk_at "de"
      refine w_if0 (by show (!decide (eR (s, t) = eR (s, t))) = false; rw [decide_eq_true rfl]; rfl) ?_
      walk_at "de"
      exact ⟨_, _, _, _, _, rfl, hk⟩
  · rintro δ G1 ⟨x2, x3, x4, x5, x6, rfl, hk⟩
    clear hk
    walk_at "de"
    intro l1 nl1
    refine abs_new nl1 fun G2 s2 hl1 => ?_
    walk_at "de"
    intro l2 nl2
    refine abs_new nl2 fun G3 s3 hl2 => ?_
    walk_at "de"
    refine w_disp fun p np => ?_
    refine w_pc ?_
    walk_at "de"
    refine w_pn ⟨dupd_same, [(("A" : Str), DV.str "--")], rfl, by decide, ?_⟩
    rw [dupd_dupd]
    refine abs_new np fun G4 s4 hd => ?_
    walk_at "de"
    intro p4 np4
    refine abs_new np4 fun G5 s5 h5 => ?_
    walk_at "de"
    have gd : ∀ y ∈ [DV.non, DV.int 5, .bl true, .tup [], .ref l1, .tup [.str "--"], .ref l2, .ref p], ∃ a, TyAt G5 y a ∧ tyB a "str" = false := fun y hy => by
      simp only [List.mem_cons, List.not_mem_nil, or_false] at hy
      rcases hy with rfl | rfl | rfl | rfl | rfl | rfl | rfl | rfl
      · exact ⟨_, rfl, by decide +kernel⟩
      · exact ⟨_, rfl, by decide +kernel⟩
      · exact ⟨_, rfl, by decide +kernel⟩
      · exact ⟨_, rfl, by decide +kernel⟩
      · exact ⟨"list", .inl ⟨rfl, .inr ⟨_, .inl (s5 _ _ (s4 _ _ (s3 _ _ hl1)))⟩⟩, by decide +kernel⟩
      · exact ⟨_, rfl, by decide +kernel⟩
      · exact ⟨"list", .inl ⟨rfl, .inr ⟨_, .inl (s5 _ _ (s4 _ _ hl2))⟩⟩, by decide +kernel⟩
      · exact ⟨"dict", .inr ⟨rfl, _, s5 _ _ hd⟩, by decide +kernel⟩
    generalize [DV.non, DV.int 5, .bl true, .tup [], .ref l1, .tup [.str "--"], .ref l2, .ref p] = ths at gd h5
    refine for_by (fun i δ G' => ∃ (x2 x3 x4 x5 x6 x7 : Option DV), δ = [some (.ref a), some (.ref d), x2, x3, x4, x5, x6, x7] ∧ Sub G5 G') (fun _ _ _ h => by obtain ⟨_, _, _, _, _, _, _, s⟩ := h; exact .inl (s _ _ h5)) ⟨_, _, _, _, _, _, rfl, Sub.refl _⟩ ?_ ?_
    · rintro i y δ G' hy ⟨x2, x3, x4, x5, x6, x7, rfl, sG⟩
      obtain ⟨ty, ht, hb⟩ := gd y (List.mem_of_getElem? hy)
      walk_at "de"
      refine ⟨y, rfl, .inr ⟨⟨ty, ty_sub sG ht, hb⟩, ?_⟩⟩
      walk_at "de"
      refine w_if0 (by rw [decide_eq_true rfl]; rfl) ?_
      walk_at "de"
      exact ⟨_, _, _, _, _, _, rfl, sG⟩
    · rintro δ G' ⟨x2, x3, x4, x5, x6, x7, rfl, sG⟩
      clear h5 gd sG
      walk_at "de"
      intro p6 np6
      refine abs_new np6 fun G6 s6 h6 => ?_
      have h6 : G6 p6 = some (.lst (fixT.map .str)) := h6
      walk_at "de"
      refine for_by (fun i δ G' => ∃ (x2 x3 x4 x5 x6 x7 : Option DV), δ = [some (.ref a), some (.ref d), x2, x3, x4, x5, x6, x7] ∧ Sub G6 G') (fun _ _ _ h => by obtain ⟨_, _, _, _, _, _, _, s⟩ := h; exact .inl (s _ _ h6)) ⟨_, _, _, _, _, _, rfl, Sub.refl _⟩ ?_ ?_
      · rintro i y δ G' hy ⟨x2, x3, x4, x5, x6, x7, rfl, sG⟩
        obtain ⟨z, hz, rfl⟩ := List.mem_map.mp (List.mem_of_getElem? hy)
        have wz := fix_ok hz
        walk_at "de"
        have tx := WsOK.tx wz
        have hn := tx.nb
        by_cases hp : ∃ p, Txt.split z " " = mkR p ∧ NS vP vR p.1 ∧ NS vP vR p.2
        · obtain ⟨p, e1, e2, e3⟩ := hp
          refine ⟨.str z, rfl, .inl ⟨z, _, _, rfl, tx, by omega, fun p' f1 f2 f3 => ?_, fun h => absurd ⟨p, e1, e2, e3⟩ h⟩⟩
          obtain rfl : p' = p := mkR_inj f2 f3 e2 e3 (f1.symm.trans e1)
          walk_at "de"
          refine ⟨z, _, _, rfl, tx, by omega, by omega, fun p'' g1 g2 g3 => ?_, fun h => absurd ⟨p', e1, e2, e3⟩ h⟩
          obtain rfl : p'' = p' := mkR_inj g2 g3 e2 e3 (g1.symm.trans e1)
          walk_at "de"
          obtain ⟨c1, c2⟩ := cmpV e2 e3 (by rw [← e1]; omega)
          refine ⟨plain_R _, plain_R _, c1, c1, c2, ?_⟩
          walk_at "de"
          refine w_if0 (by show (!decide (eR p'' = eR p'')) = false; rw [decide_eq_true rfl]; rfl) ?_
          walk_at "de"
          exact ⟨_, _, _, _, _, _, rfl, sG⟩
        · refine ⟨.str z, rfl, .inl ⟨z, _, _, rfl, tx, by omega, fun p' f1 f2 f3 => absurd ⟨p', f1, f2, f3⟩ hp, fun _ => ?_⟩⟩
          walk_at "de"
          refine ⟨z, _, _, rfl, tx, by omega, by omega, fun p' f1 f2 f3 => absurd ⟨p', f1, f2, f3⟩ hp, fun _ => ?_⟩
          walk_at "de"
          refine ⟨rfl, rfl, rfl, rfl, by decide, ?_⟩
          walk_at "de"
          refine w_if0 (by show (!decide (DV.non = DV.non)) = false; rw [decide_eq_true rfl]; rfl) ?_
          walk_at "de"
          exact ⟨_, _, _, _, _, _, rfl, sG⟩
      · rintro δ G' ⟨x2, x3, x4, x5, x6, x7, rfl, sG⟩
        walk_at "de"
        rfl
end
end K18
namespace K18
open PySem PySem.W L2 SX Cm DD
theorem all_mk {l : PySem.W.OpenLaw} {w : World} {K : PySem.W.Frag} {h : Heap} {mg : Str → Option Value} {fa f1 f2 f3 f4 f5 f6 f7 f8 f9 f10 f11 f12 f13 f14 f15 f16 f17 f18 f19 f20 f21 f22 f23 f24 f25 : Addr} {q0 q1 q2 q3 q4 q5 C : Addr} {mod0 man0 mod1 man1 mod2 man2 mod3 man3 mod4 man4 mod5 man5 : Option Addr} {msl0 msl1 msl2 msl3 msl4 msl5 : Array (Option Value)} {moc0 mkV0 mdc0 mpm0 mcd0 mct0 moc1 mkV1 mdc1 mpm1 mcd1 mct1 moc2 mkV2 mdc2 mpm2 mcd2 mct2 moc3 mkV3 mdc3 mpm3 mcd3 mct3 moc4 mkV4 mdc4 mpm4 mcd4 mct4 moc5 mkV5 mdc5 mpm5 mcd5 mct5 : Value} {es1 es2 : Array DictEntry} {en1 en2 : Nat} {tk1 tk2 tk3 tk4 : Tok} (X : K.In h) (G : h.Ns mainGlobals mg) (hfa : mg "law" = some (.ref fa))
    {od1 an1 od2 an2 od3 an3 od4 an4 od5 an5 od6 an6 od7 an7 od8 an8 od9 an9 od10 an10 od11 an11 od12 an12 od13 an13 od14 an14 od15 an15 od16 an16 od17 an17 od18 an18 od19 an19 od20 an20 od21 an21 od22 an22 od23 an23 od24 an24 od25 an25 : Option Addr} {sl1 sl2 sl3 sl4 sl5 sl6 sl7 sl8 sl9 sl10 sl11 sl12 sl13 sl14 sl15 sl16 sl17 sl18 sl19 sl20 sl21 sl22 sl23 sl24 sl25 : Array (Option Value)} {oc1 kV1 dc1 pm1 cd1 ct1 oc2 kV2 dc2 pm2 cd2 ct2 oc3 kV3 dc3 pm3 cd3 ct3 oc4 kV4 dc4 pm4 cd4 ct4 oc5 kV5 dc5 pm5 cd5 ct5 oc6 kV6 dc6 pm6 cd6 ct6 oc7 kV7 dc7 pm7 cd7 ct7 oc8 kV8 dc8 pm8 cd8 ct8 oc9 kV9 dc9 pm9 cd9 ct9 oc10 kV10 dc10 pm10 cd10 ct10 oc11 kV11 dc11 pm11 cd11 ct11 oc12 kV12 dc12 pm12 cd12 ct12 oc13 kV13 dc13 pm13 cd13 ct13 oc14 kV14 dc14 pm14 cd14 ct14 oc15 kV15 dc15 pm15 cd15 ct15 oc16 kV16 dc16 pm16 cd16 ct16 oc17 kV17 dc17 pm17 cd17 ct17 oc18 kV18 dc18 pm18 cd18 ct18 oc19 kV19 dc19 pm19 cd19 ct19 oc20 kV20 dc20 pm20 cd20 ct20 oc21 kV21 dc21 pm21 cd21 ct21 oc22 kV22 dc22 pm22 cd22 ct22 oc23 kV23 dc23 pm23 cd23 ct23 oc24 kV24 dc24 pm24 cd24 ct24 oc25 kV25 dc25 pm25 cd25 ct25 : Value}
    (a1 : PySem.W.nsIn K mainGlobals "marks_of_text" = some (some (.ref f1))) (l1 : K.lookup f1 = some ⟨oc1, od1, .func (PySem.W.fnOf "marks_of_text" "marks_of_text" (defArgs s_p_marks_of_text) (defBody s_p_marks_of_text) (defScope s_p_marks_of_text) .none kV1 dc1 pm1 an1 cd1 ct1), sl1⟩) (c1 : PySem.W.codeIn K cd1 "marks_of_text" = true) (k1 : PySem.W.keepIn K (.ref f1) = true)
    (a2 : PySem.W.nsIn K mainGlobals "is_figures" = some (some (.ref f2))) (l2 : K.lookup f2 = some ⟨oc2, od2, .func (PySem.W.fnOf "is_figures" "is_figures" (defArgs s_p_is_figures) (defBody s_p_is_figures) (defScope s_p_is_figures) .none kV2 dc2 pm2 an2 cd2 ct2), sl2⟩) (c2 : PySem.W.codeIn K cd2 "is_figures" = true) (k2 : PySem.W.keepIn K (.ref f2) = true)
    (a3 : PySem.W.nsIn K mainGlobals "is_open_thing" = some (some (.ref f3))) (l3 : K.lookup f3 = some ⟨oc3, od3, .func (PySem.W.fnOf "is_open_thing" "is_open_thing" (defArgs s_p_is_open_thing) (defBody s_p_is_open_thing) (defScope s_p_is_open_thing) .none kV3 dc3 pm3 an3 cd3 ct3), sl3⟩) (c3 : PySem.W.codeIn K cd3 "is_open_thing" = true) (k3 : PySem.W.keepIn K (.ref f3) = true)
    (a4 : PySem.W.nsIn K mainGlobals "is_open_rest" = some (some (.ref f4))) (l4 : K.lookup f4 = some ⟨oc4, od4, .func (PySem.W.fnOf "is_open_rest" "is_open_rest" (defArgs s_p_is_open_rest) (defBody s_p_is_open_rest) (defScope s_p_is_open_rest) .none kV4 dc4 pm4 an4 cd4 ct4), sl4⟩) (c4 : PySem.W.codeIn K cd4 "is_open_rest" = true) (k4 : PySem.W.keepIn K (.ref f4) = true)
    (a5 : PySem.W.nsIn K mainGlobals "is_lettered" = some (some (.ref f5))) (l5 : K.lookup f5 = some ⟨oc5, od5, .func (PySem.W.fnOf "is_lettered" "is_lettered" (defArgs s_p_is_lettered) (defBody s_p_is_lettered) (defScope s_p_is_lettered) .none kV5 dc5 pm5 an5 cd5 ct5), sl5⟩) (c5 : PySem.W.codeIn K cd5 "is_lettered" = true) (k5 : PySem.W.keepIn K (.ref f5) = true)
    (a6 : PySem.W.nsIn K mainGlobals "read_kind" = some (some (.ref f6))) (l6 : K.lookup f6 = some ⟨oc6, od6, .func (PySem.W.fnOf "read_kind" "read_kind" (defArgs s_p_read_kind) (defBody s_p_read_kind) (defScope s_p_read_kind) .none kV6 dc6 pm6 an6 cd6 ct6), sl6⟩) (c6 : PySem.W.codeIn K cd6 "read_kind" = true) (k6 : PySem.W.keepIn K (.ref f6) = true)
    (a7 : PySem.W.nsIn K mainGlobals "read_mark" = some (some (.ref f7))) (l7 : K.lookup f7 = some ⟨oc7, od7, .func (PySem.W.fnOf "read_mark" "read_mark" (defArgs s_p_read_mark) (defBody s_p_read_mark) (defScope s_p_read_mark) .none kV7 dc7 pm7 an7 cd7 ct7), sl7⟩) (c7 : PySem.W.codeIn K cd7 "read_mark" = true) (k7 : PySem.W.keepIn K (.ref f7) = true)
    (a8 : PySem.W.nsIn K mainGlobals "close_level" = some (some (.ref f8))) (l8 : K.lookup f8 = some ⟨oc8, od8, .func (PySem.W.fnOf "close_level" "close_level" (defArgs s_p_close_level) (defBody s_p_close_level) (defScope s_p_close_level) .none kV8 dc8 pm8 an8 cd8 ct8), sl8⟩) (c8 : PySem.W.codeIn K cd8 "close_level" = true) (k8 : PySem.W.keepIn K (.ref f8) = true)
    (a9 : PySem.W.nsIn K mainGlobals "_law_deck" = some (some (.ref f9))) (l9 : K.lookup f9 = some ⟨oc9, od9, .func (PySem.W.fnOf "_law_deck" "_law_deck" (defArgs s_L_deck) (defBody s_L_deck) (defScope s_L_deck) .none kV9 dc9 pm9 an9 cd9 ct9), sl9⟩) (c9 : PySem.W.codeIn K cd9 "_law_deck" = true) (k9 : PySem.W.keepIn K (.ref f9) = true)
    (a10 : PySem.W.nsIn K mainGlobals "_law_draw" = some (some (.ref f10))) (l10 : K.lookup f10 = some ⟨oc10, od10, .func (PySem.W.fnOf "_law_draw" "_law_draw" (defArgs s_L_draw) (defBody s_L_draw) (defScope s_L_draw) .none kV10 dc10 pm10 an10 cd10 ct10), sl10⟩) (c10 : PySem.W.codeIn K cd10 "_law_draw" = true) (k10 : PySem.W.keepIn K (.ref f10) = true)
    (a11 : PySem.W.nsIn K mainGlobals "_law_name" = some (some (.ref f11))) (l11 : K.lookup f11 = some ⟨oc11, od11, .func (PySem.W.fnOf "_law_name" "_law_name" (defArgs s_L_name) (defBody s_L_name) (defScope s_L_name) .none kV11 dc11 pm11 an11 cd11 ct11), sl11⟩) (c11 : PySem.W.codeIn K cd11 "_law_name" = true) (k11 : PySem.W.keepIn K (.ref f11) = true)
    (a12 : PySem.W.nsIn K mainGlobals "_law_kind" = some (some (.ref f12))) (l12 : K.lookup f12 = some ⟨oc12, od12, .func (PySem.W.fnOf "_law_kind" "_law_kind" (defArgs s_L_kind) (defBody s_L_kind) (defScope s_L_kind) .none kV12 dc12 pm12 an12 cd12 ct12), sl12⟩) (c12 : PySem.W.codeIn K cd12 "_law_kind" = true) (k12 : PySem.W.keepIn K (.ref f12) = true)
    (a13 : PySem.W.nsIn K mainGlobals "_law_stack" = some (some (.ref f13))) (l13 : K.lookup f13 = some ⟨oc13, od13, .func (PySem.W.fnOf "_law_stack" "_law_stack" (defArgs s_L_stack) (defBody s_L_stack) (defScope s_L_stack) .none kV13 dc13 pm13 an13 cd13 ct13), sl13⟩) (c13 : PySem.W.codeIn K cd13 "_law_stack" = true) (k13 : PySem.W.keepIn K (.ref f13) = true)
    (a14 : PySem.W.nsIn K mainGlobals "_law_row_kind" = some (some (.ref f14))) (l14 : K.lookup f14 = some ⟨oc14, od14, .func (PySem.W.fnOf "_law_row_kind" "_law_row_kind" (defArgs s_L_row_kind) (defBody s_L_row_kind) (defScope s_L_row_kind) .none kV14 dc14 pm14 an14 cd14 ct14), sl14⟩) (c14 : PySem.W.codeIn K cd14 "_law_row_kind" = true) (k14 : PySem.W.keepIn K (.ref f14) = true)
    (a15 : PySem.W.nsIn K mainGlobals "_law_words" = some (some (.ref f15))) (l15 : K.lookup f15 = some ⟨oc15, od15, .func (PySem.W.fnOf "_law_words" "_law_words" (defArgs s_L_words) (defBody s_L_words) (defScope s_L_words) .none kV15 dc15 pm15 an15 cd15 ct15), sl15⟩) (c15 : PySem.W.codeIn K cd15 "_law_words" = true) (k15 : PySem.W.keepIn K (.ref f15) = true)
    (a16 : PySem.W.nsIn K mainGlobals "_law_stack_words" = some (some (.ref f16))) (l16 : K.lookup f16 = some ⟨oc16, od16, .func (PySem.W.fnOf "_law_stack_words" "_law_stack_words" (defArgs s_L_stack_words) (defBody s_L_stack_words) (defScope s_L_stack_words) .none kV16 dc16 pm16 an16 cd16 ct16), sl16⟩) (c16 : PySem.W.codeIn K cd16 "_law_stack_words" = true) (k16 : PySem.W.keepIn K (.ref f16) = true)
    (a17 : PySem.W.nsIn K mainGlobals "_law_row_words" = some (some (.ref f17))) (l17 : K.lookup f17 = some ⟨oc17, od17, .func (PySem.W.fnOf "_law_row_words" "_law_row_words" (defArgs s_L_row_words) (defBody s_L_row_words) (defScope s_L_row_words) .none kV17 dc17 pm17 an17 cd17 ct17), sl17⟩) (c17 : PySem.W.codeIn K cd17 "_law_row_words" = true) (k17 : PySem.W.keepIn K (.ref f17) = true)
    (a18 : PySem.W.nsIn K mainGlobals "_law_is_name" = some (some (.ref f18))) (l18 : K.lookup f18 = some ⟨oc18, od18, .func (PySem.W.fnOf "_law_is_name" "_law_is_name" (defArgs s_L_is_name) (defBody s_L_is_name) (defScope s_L_is_name) .none kV18 dc18 pm18 an18 cd18 ct18), sl18⟩) (c18 : PySem.W.codeIn K cd18 "_law_is_name" = true) (k18 : PySem.W.keepIn K (.ref f18) = true)
    (a19 : PySem.W.nsIn K mainGlobals "_law_read_kind" = some (some (.ref f19))) (l19 : K.lookup f19 = some ⟨oc19, od19, .func (PySem.W.fnOf "_law_read_kind" "_law_read_kind" (defArgs s_L_read_kind) (defBody s_L_read_kind) (defScope s_L_read_kind) .none kV19 dc19 pm19 an19 cd19 ct19), sl19⟩) (c19 : PySem.W.codeIn K cd19 "_law_read_kind" = true) (k19 : PySem.W.keepIn K (.ref f19) = true)
    (a20 : PySem.W.nsIn K mainGlobals "_law_read_stack" = some (some (.ref f20))) (l20 : K.lookup f20 = some ⟨oc20, od20, .func (PySem.W.fnOf "_law_read_stack" "_law_read_stack" (defArgs s_L_read_stack) (defBody s_L_read_stack) (defScope s_L_read_stack) .none kV20 dc20 pm20 an20 cd20 ct20), sl20⟩) (c20 : PySem.W.codeIn K cd20 "_law_read_stack" = true) (k20 : PySem.W.keepIn K (.ref f20) = true)
    (a21 : PySem.W.nsIn K mainGlobals "_law_read_pair" = some (some (.ref f21))) (l21 : K.lookup f21 = some ⟨oc21, od21, .func (PySem.W.fnOf "_law_read_pair" "_law_read_pair" (defArgs s_L_read_pair) (defBody s_L_read_pair) (defScope s_L_read_pair) .none kV21 dc21 pm21 an21 cd21 ct21), sl21⟩) (c21 : PySem.W.codeIn K cd21 "_law_read_pair" = true) (k21 : PySem.W.keepIn K (.ref f21) = true)
    (a22 : PySem.W.nsIn K mainGlobals "_law_read" = some (some (.ref f22))) (l22 : K.lookup f22 = some ⟨oc22, od22, .func (PySem.W.fnOf "_law_read" "_law_read" (defArgs s_L_read) (defBody s_L_read) (defScope s_L_read) .none kV22 dc22 pm22 an22 cd22 ct22), sl22⟩) (c22 : PySem.W.codeIn K cd22 "_law_read" = true) (k22 : PySem.W.keepIn K (.ref f22) = true)
    (a23 : PySem.W.nsIn K mainGlobals "_law_told" = some (some (.ref f23))) (l23 : K.lookup f23 = some ⟨oc23, od23, .func (PySem.W.fnOf "_law_told" "_law_told" (defArgs s_L_told) (defBody s_L_told) (defScope s_L_told) .none kV23 dc23 pm23 an23 cd23 ct23), sl23⟩) (c23 : PySem.W.codeIn K cd23 "_law_told" = true) (k23 : PySem.W.keepIn K (.ref f23) = true)
    (a24 : PySem.W.nsIn K mainGlobals "_law_bent" = some (some (.ref f24))) (l24 : K.lookup f24 = some ⟨oc24, od24, .func (PySem.W.fnOf "_law_bent" "_law_bent" (defArgs s_L_bent) (defBody s_L_bent) (defScope s_L_bent) .none kV24 dc24 pm24 an24 cd24 ct24), sl24⟩) (c24 : PySem.W.codeIn K cd24 "_law_bent" = true) (k24 : PySem.W.keepIn K (.ref f24) = true)
    (a25 : PySem.W.nsIn K mainGlobals "law" = some (some (.ref f25))) (l25 : K.lookup f25 = some ⟨oc25, od25, .func (PySem.W.fnOf "law" "law" (defArgs s_L_law) (defBody s_L_law) (defScope s_L_law) .none kV25 dc25 pm25 an25 cd25 ct25), sl25⟩) (c25 : PySem.W.codeIn K cd25 "law" = true) (k25 : PySem.W.keepIn K (.ref f25) = true)
    (z_len : PySem.W.nsIn K mainGlobals "len" = some none)
    (z_isinstance : PySem.W.nsIn K mainGlobals "isinstance" = some none)
    (z_int : PySem.W.nsIn K mainGlobals "int" = some none)
    (z_str : PySem.W.nsIn K mainGlobals "str" = some none)
    (z_tuple : PySem.W.nsIn K mainGlobals "tuple" = some none)
    (z_list : PySem.W.nsIn K mainGlobals "list" = some none)
    (z_bool : PySem.W.nsIn K mainGlobals "bool" = some none)
    (z_dict : PySem.W.nsIn K mainGlobals "dict" = some none)
    (z_all : PySem.W.nsIn K mainGlobals "all" = some none)
    (z_any : PySem.W.nsIn K mainGlobals "any" = some none)
    (z_sum : PySem.W.nsIn K mainGlobals "sum" = some none)
    (z_sorted : PySem.W.nsIn K mainGlobals "sorted" = some none)
    (z_set : PySem.W.nsIn K mainGlobals "set" = some none)
    (z_range : PySem.W.nsIn K mainGlobals "range" = some none)
    (z_enumerate : PySem.W.nsIn K mainGlobals "enumerate" = some none)
    (z_zip : PySem.W.nsIn K mainGlobals "zip" = some none)
    (z_reversed : PySem.W.nsIn K mainGlobals "reversed" = some none)
    (z_ValueError : PySem.W.nsIn K mainGlobals "ValueError" = some none)
    {tS : Tok} (g_SMALL_LETTERS : PySem.W.nsIn K mainGlobals "SMALL_LETTERS" = some (some (.str "abcdefghijklmnopqrstuvwxyz" tS)))
    {tF : Tok} (g_FIGURES : PySem.W.nsIn K mainGlobals "FIGURES" = some (some (.str "0123456789" tF)))
    {tG : Tok} (g_GREAT_LETTERS : PySem.W.nsIn K mainGlobals "GREAT_LETTERS" = some (some (.str "ABCDEFGHIJKLMNOPQRSTUVWXYZ" tG)))
    {dO : Addr} (g_OPENINGS : PySem.W.nsIn K mainGlobals "OPENINGS" = some (some (.ref dO)))
    {dC : Addr} (g_CLOSINGS : PySem.W.nsIn K mainGlobals "CLOSINGS" = some (some (.ref dC)))
    {e_TakeError : Addr} (g_TakeError : PySem.W.nsIn K mainGlobals "TakeError" = some (some (.ref e_TakeError)))
    {e_NoText : Addr} (g_NoText : PySem.W.nsIn K mainGlobals "NoText" = some (some (.ref e_NoText)))
    {e_NoRow : Addr} (g_NoRow : PySem.W.nsIn K mainGlobals "NoRow" = some (some (.ref e_NoRow)))
    {e_NoShuffle : Addr} (g_NoShuffle : PySem.W.nsIn K mainGlobals "NoShuffle" = some (some (.ref e_NoShuffle)))
    {e_NoStep : Addr} (g_NoStep : PySem.W.nsIn K mainGlobals "NoStep" = some (some (.ref e_NoStep)))
    {e_NoTurn : Addr} (g_NoTurn : PySem.W.nsIn K mainGlobals "NoTurn" = some (some (.ref e_NoTurn)))
    {e_Twice : Addr} (g_Twice : PySem.W.nsIn K mainGlobals "Twice" = some (some (.ref e_Twice)))
    (aC : PySem.W.nsIn K mainGlobals "Level" = some (some (.ref C)))
    (am0 : PySem.W.findIn K (.ref C) "__init__" = some (some (.ref q0)))
    (im0 : PySem.W.isFn K (.ref q0) = true)
    (lm0 : K.lookup q0 = some ⟨moc0, mod0, .func (PySem.W.fnOf "__init__" "Level.__init__" (defArgs s_p_Level_init) (defBody s_p_Level_init) (defScope s_p_Level_init) .none mkV0 mdc0 mpm0 man0 mcd0 mct0), msl0⟩)
    (cm0 : PySem.W.codeIn K mcd0 "Level.__init__" = true)
    (km0 : PySem.W.keepIn K (.ref q0) = true)
    (am1 : PySem.W.findIn K (.ref C) "add_rest" = some (some (.ref q1)))
    (im1 : PySem.W.isFn K (.ref q1) = true)
    (lm1 : K.lookup q1 = some ⟨moc1, mod1, .func (PySem.W.fnOf "add_rest" "Level.add_rest" (defArgs s_p_Level_add_rest) (defBody s_p_Level_add_rest) (defScope s_p_Level_add_rest) .none mkV1 mdc1 mpm1 man1 mcd1 mct1), msl1⟩)
    (cm1 : PySem.W.codeIn K mcd1 "Level.add_rest" = true)
    (km1 : PySem.W.keepIn K (.ref q1) = true)
    (am2 : PySem.W.findIn K (.ref C) "part_sides" = some (some (.ref q2)))
    (im2 : PySem.W.isFn K (.ref q2) = true)
    (lm2 : K.lookup q2 = some ⟨moc2, mod2, .func (PySem.W.fnOf "part_sides" "Level.part_sides" (defArgs s_p_Level_part_sides) (defBody s_p_Level_part_sides) (defScope s_p_Level_part_sides) .none mkV2 mdc2 mpm2 man2 mcd2 mct2), msl2⟩)
    (cm2 : PySem.W.codeIn K mcd2 "Level.part_sides" = true)
    (km2 : PySem.W.keepIn K (.ref q2) = true)
    (am3 : PySem.W.findIn K (.ref C) "side" = some (some (.ref q3)))
    (im3 : PySem.W.isFn K (.ref q3) = true)
    (lm3 : K.lookup q3 = some ⟨moc3, mod3, .func (PySem.W.fnOf "side" "Level.side" (defArgs s_p_Level_side) (defBody s_p_Level_side) (defScope s_p_Level_side) .none mkV3 mdc3 mpm3 man3 mcd3 mct3), msl3⟩)
    (cm3 : PySem.W.codeIn K mcd3 "Level.side" = true)
    (km3 : PySem.W.keepIn K (.ref q3) = true)
    (am4 : PySem.W.findIn K (.ref C) "row_kind" = some (some (.ref q4)))
    (im4 : PySem.W.isFn K (.ref q4) = true)
    (lm4 : K.lookup q4 = some ⟨moc4, mod4, .func (PySem.W.fnOf "row_kind" "Level.row_kind" (defArgs s_p_Level_row_kind) (defBody s_p_Level_row_kind) (defScope s_p_Level_row_kind) .none mkV4 mdc4 mpm4 man4 mcd4 mct4), msl4⟩)
    (cm4 : PySem.W.codeIn K mcd4 "Level.row_kind" = true)
    (km4 : PySem.W.keepIn K (.ref q4) = true)
    (am5 : PySem.W.findIn K (.ref C) "kind" = some (some (.ref q5)))
    (im5 : PySem.W.isFn K (.ref q5) = true)
    (lm5 : K.lookup q5 = some ⟨moc5, mod5, .func (PySem.W.fnOf "kind" "Level.kind" (defArgs s_p_Level_kind) (defBody s_p_Level_kind) (defScope s_p_Level_kind) .none mkV5 mdc5 mpm5 man5 mcd5 mct5), msl5⟩)
    (cm5 : PySem.W.codeIn K mcd5 "Level.kind" = true)
    (km5 : PySem.W.keepIn K (.ref q5) = true)
    (pgC : PySem.W.plainGet K C Str.empty = true)
    (hdC : PySem.W.hasDictIn K C = true)
    (poC : PySem.W.plainOver K C = true)
    (saC : PySem.W.findIn K (.ref C) "__setattr__" = some (some (.builtin "object.__setattr__")))
    (mkC : PySem.W.makesIn K C = true)
    (kcC : PySem.W.keepIn K (.ref C) = true)
    (nW : PySem.W.findIn K (.ref C) "within" = some none)
    (nT : PySem.W.findIn K (.ref C) "take" = some none)
    (nR : PySem.W.findIn K (.ref C) "rest" = some none)
    (nK : PySem.W.findIn K (.ref C) "kinds" = some none)
    (xt1 : K.lookup dO = some ⟨.type "dict", none, .dict es1 en1, #[]⟩)
    (xk1 : PySem.W.KeysLit w.params es1.toList)
    (xa1 : PySem.W.nsIn K dO "[" = some (some (.str "row" tk1)))
    (xb1 : PySem.W.nsIn K dO "{" = some (some (.str "list" tk2)))
    (xl1 : (dO == sysModules) = false)
    (xe1 : es1.toList.all (fun e => e.key.isStr "[" || e.key.isStr "{") = true)
    (xt2 : K.lookup dC = some ⟨.type "dict", none, .dict es2 en2, #[]⟩)
    (xk2 : PySem.W.KeysLit w.params es2.toList)
    (xa2 : PySem.W.nsIn K dC "]" = some (some (.str "row" tk3)))
    (xb2 : PySem.W.nsIn K dC "}" = some (some (.str "list" tk4)))
    (xl2 : (dC == sysModules) = false)
    (xe2 : es2.toList.all (fun e => e.key.isStr "]" || e.key.isStr "}") = true)
    (xP : PySem.W.excIn K e_NoText [.type "ValueError", .type "Exception", .type "BaseException", .type "object"] "ValueError.__new__" = true)
    (kP : PySem.W.keepIn K (.ref e_NoText) = true)
    (bP : PySem.W.subIn K (.ref e_NoText) (.type "BaseException") = some true)
    (tP : PySem.W.typeIn K (.ref e_NoText) = some (.type "type"))
    (e1 : PySem.W.subIn K (.ref e_TakeError) (.type "BaseException") = some true)
    (e2 : PySem.W.hasDictIn K e_TakeError = true)
    (e3 : PySem.W.typeIn K (.ref e_TakeError) = some (.type "type"))
    (e4 : PySem.W.subIn K (.ref e_NoText) (.ref e_TakeError) = some true)
    (h1 : PySem.W.findIn K (.ref e_NoText) "__getattribute__" = some (some (.builtin "BaseException.__getattribute__")))
    (h2 : PySem.W.findIn K (.ref e_NoText) "__getattr__" = some none)
    (h4 : PySem.W.hasDictIn K e_NoText = true)
    (h5 : PySem.W.findIn K (.ref e_NoText) "__class__" = some (some (.builtin "object.__class__")))
    (h6 : PySem.W.specialIn K (.builtin "object.__class__") "__get__" = some (some (.builtin "getset_descriptor.__get__")))
    (h7 : PySem.W.takesIn K (.builtin "object.__class__") = some true)
    (h8 : PySem.W.mroIn K e_NoText (.type "object") = some true)
    (ktt : PySem.W.kitOne K (.ref e_NoText) (.ref e_NoText) = some true)
    (qv : PySem.W.kitOne K (.ref e_NoText) (.type "ValueError") = some true)
    (z1 : PySem.W.kitOne K (.ref e_NoText) (.ref e_NoRow) = some false)
    (z2 : PySem.W.kitOne K (.ref e_NoText) (.ref e_NoShuffle) = some false)
    (z3 : PySem.W.kitOne K (.ref e_NoText) (.ref e_NoStep) = some false)
    (z4 : PySem.W.kitOne K (.ref e_NoText) (.ref e_NoTurn) = some false)
    (z5 : PySem.W.kitOne K (.ref e_NoText) (.ref e_Twice) = some false)
    : ∃ fd : FuncData, (∀ (s : Shared) (v : Value), BindsTo s fd ⟨[v], []⟩ [("_law_script", v)]) ∧ ∀ base : Heap, K.In base → base.Ns mainGlobals mg → FnOk l.prog w K mg base CX0 208 fa fd ["_law_script"] (spLaw K) := by
  have e := hfa.symm.trans (PySem.W.mg_of X G a25)
  cases e
  have F1 := fun_mk (st := s_p_marks_of_text) l1 c1 k1
  have b1 := F1.binds (ps := ["text"]) fun _ _ _ _ _ _ us hl => match us, hl with | [_], _ => rfl
  have m1 := PySem.W.mg_of X G a1
  have F2 := fun_mk (st := s_p_is_figures) l2 c2 k2
  have b2 := F2.binds (ps := ["text"]) fun _ _ _ _ _ _ us hl => match us, hl with | [_], _ => rfl
  have m2 := PySem.W.mg_of X G a2
  have F3 := fun_mk (st := s_p_is_open_thing) l3 c3 k3
  have b3 := F3.binds (ps := ["thing"]) fun _ _ _ _ _ _ us hl => match us, hl with | [_], _ => rfl
  have m3 := PySem.W.mg_of X G a3
  have F4 := fun_mk (st := s_p_is_open_rest) l4 c4 k4
  have b4 := F4.binds (ps := ["thing"]) fun _ _ _ _ _ _ us hl => match us, hl with | [_], _ => rfl
  have m4 := PySem.W.mg_of X G a4
  have F5 := fun_mk (st := s_p_is_lettered) l5 c5 k5
  have b5 := F5.binds (ps := ["thing", "letters"]) fun _ _ _ _ _ _ us hl => match us, hl with | [_, _], _ => rfl
  have m5 := PySem.W.mg_of X G a5
  have F6 := fun_mk (st := s_p_read_kind) l6 c6 k6
  have b6 := F6.binds (ps := ["text"]) fun _ _ _ _ _ _ us hl => match us, hl with | [_], _ => rfl
  have m6 := PySem.W.mg_of X G a6
  have F7 := fun_mk (st := s_p_read_mark) l7 c7 k7
  have b7 := F7.binds (ps := ["mark", "levels"]) fun _ _ _ _ _ _ us hl => match us, hl with | [_, _], _ => rfl
  have m7 := PySem.W.mg_of X G a7
  have F8 := fun_mk (st := s_p_close_level) l8 c8 k8
  have b8 := F8.binds (ps := ["levels", "sort"]) fun _ _ _ _ _ _ us hl => match us, hl with | [_, _], _ => rfl
  have m8 := PySem.W.mg_of X G a8
  have F9 := fun_mk (st := s_L_deck) l9 c9 k9
  have b9 := F9.binds (ps := ["_law_script"]) fun _ _ _ _ _ _ us hl => match us, hl with | [_], _ => rfl
  have m9 := PySem.W.mg_of X G a9
  have F10 := fun_mk (st := s_L_draw) l10 c10 k10
  have b10 := F10.binds (ps := ["_law_deck_here", "_law_most"]) fun _ _ _ _ _ _ us hl => match us, hl with | [_, _], _ => rfl
  have m10 := PySem.W.mg_of X G a10
  have F11 := fun_mk (st := s_L_name) l11 c11 k11
  have b11 := F11.binds (ps := ["_law_deck_here", "_law_great"]) fun _ _ _ _ _ _ us hl => match us, hl with | [_, _], _ => rfl
  have m11 := PySem.W.mg_of X G a11
  have F12 := fun_mk (st := s_L_kind) l12 c12 k12
  have b12 := F12.binds (ps := ["_law_deck_here", "_law_left", "_law_deep"]) fun _ _ _ _ _ _ us hl => match us, hl with | [_, _, _], _ => rfl
  have m12 := PySem.W.mg_of X G a12
  have F13 := fun_mk (st := s_L_stack) l13 c13 k13
  have b13 := F13.binds (ps := ["_law_deck_here", "_law_left", "_law_deep"]) fun _ _ _ _ _ _ us hl => match us, hl with | [_, _, _], _ => rfl
  have m13 := PySem.W.mg_of X G a13
  have F14 := fun_mk (st := s_L_row_kind) l14 c14 k14
  have b14 := F14.binds (ps := ["_law_deck_here"]) fun _ _ _ _ _ _ us hl => match us, hl with | [_], _ => rfl
  have m14 := PySem.W.mg_of X G a14
  have F15 := fun_mk (st := s_L_words) l15 c15 k15
  have b15 := F15.binds (ps := ["_law_kind_here"]) fun _ _ _ _ _ _ us hl => match us, hl with | [_], _ => rfl
  have m15 := PySem.W.mg_of X G a15
  have F16 := fun_mk (st := s_L_stack_words) l16 c16 k16
  have b16 := F16.binds (ps := ["_law_stack_here"]) fun _ _ _ _ _ _ us hl => match us, hl with | [_], _ => rfl
  have m16 := PySem.W.mg_of X G a16
  have F17 := fun_mk (st := s_L_row_words) l17 c17 k17
  have b17 := F17.binds (ps := ["_law_pair"]) fun _ _ _ _ _ _ us hl => match us, hl with | [_], _ => rfl
  have m17 := PySem.W.mg_of X G a17
  have F18 := fun_mk (st := s_L_is_name) l18 c18 k18
  have b18 := F18.binds (ps := ["_law_thing", "_law_letters"]) fun _ _ _ _ _ _ us hl => match us, hl with | [_, _], _ => rfl
  have m18 := PySem.W.mg_of X G a18
  have F19 := fun_mk (st := s_L_read_kind) l19 c19 k19
  have b19 := F19.binds (ps := ["_law_words_here"]) fun _ _ _ _ _ _ us hl => match us, hl with | [_], _ => rfl
  have m19 := PySem.W.mg_of X G a19
  have F20 := fun_mk (st := s_L_read_stack) l20 c20 k20
  have b20 := F20.binds (ps := ["_law_words_here"]) fun _ _ _ _ _ _ us hl => match us, hl with | [_], _ => rfl
  have m20 := PySem.W.mg_of X G a20
  have F21 := fun_mk (st := s_L_read_pair) l21 c21 k21
  have b21 := F21.binds (ps := ["_law_words_here"]) fun _ _ _ _ _ _ us hl => match us, hl with | [_], _ => rfl
  have m21 := PySem.W.mg_of X G a21
  have F22 := fun_mk (st := s_L_read) l22 c22 k22
  have b22 := F22.binds (ps := ["_law_text"]) fun _ _ _ _ _ _ us hl => match us, hl with | [_], _ => rfl
  have m22 := PySem.W.mg_of X G a22
  have F23 := fun_mk (st := s_L_told) l23 c23 k23
  have b23 := F23.binds (ps := ["_law_thing"]) fun _ _ _ _ _ _ us hl => match us, hl with | [_], _ => rfl
  have m23 := PySem.W.mg_of X G a23
  have F24 := fun_mk (st := s_L_bent) l24 c24 k24
  have b24 := F24.binds (ps := ["_law_deck_here", "_law_text"]) fun _ _ _ _ _ _ us hl => match us, hl with | [_, _], _ => rfl
  have m24 := PySem.W.mg_of X G a24
  have F25 := fun_mk (st := s_L_law) l25 c25 k25
  have y_len := PySem.W.mg_none_of X G z_len
  have y_isinstance := PySem.W.mg_none_of X G z_isinstance
  have y_int := PySem.W.mg_none_of X G z_int
  have y_str := PySem.W.mg_none_of X G z_str
  have y_tuple := PySem.W.mg_none_of X G z_tuple
  have y_list := PySem.W.mg_none_of X G z_list
  have y_bool := PySem.W.mg_none_of X G z_bool
  have y_dict := PySem.W.mg_none_of X G z_dict
  have y_all := PySem.W.mg_none_of X G z_all
  have y_any := PySem.W.mg_none_of X G z_any
  have y_sum := PySem.W.mg_none_of X G z_sum
  have y_sorted := PySem.W.mg_none_of X G z_sorted
  have y_set := PySem.W.mg_none_of X G z_set
  have y_range := PySem.W.mg_none_of X G z_range
  have y_enumerate := PySem.W.mg_none_of X G z_enumerate
  have y_zip := PySem.W.mg_none_of X G z_zip
  have y_reversed := PySem.W.mg_none_of X G z_reversed
  have y_ValueError := PySem.W.mg_none_of X G z_ValueError
  have v_SMALL_LETTERS := PySem.W.mg_of X G g_SMALL_LETTERS
  have v_FIGURES := PySem.W.mg_of X G g_FIGURES
  have v_GREAT_LETTERS := PySem.W.mg_of X G g_GREAT_LETTERS
  have v_OPENINGS := PySem.W.mg_of X G g_OPENINGS
  have v_CLOSINGS := PySem.W.mg_of X G g_CLOSINGS
  have v_TakeError := PySem.W.mg_of X G g_TakeError
  have v_NoText := PySem.W.mg_of X G g_NoText
  have v_NoRow := PySem.W.mg_of X G g_NoRow
  have v_NoShuffle := PySem.W.mg_of X G g_NoShuffle
  have v_NoStep := PySem.W.mg_of X G g_NoStep
  have v_NoTurn := PySem.W.mg_of X G g_NoTurn
  have v_Twice := PySem.W.mg_of X G g_Twice
  refine ⟨PySem.W.fnOf "law" "law" (defArgs s_L_law) (defBody s_L_law) (defScope s_L_law) .none kV25 dc25 pm25 an25 cd25 ct25, fun s v => .of_eq rfl, fun base _ _ => ?_⟩
  have B : BI mg := ⟨y_len, y_isinstance, y_int, y_str, y_tuple, y_list, y_bool, y_dict, y_all, y_any, y_sum, y_sorted, y_set, y_range, y_enumerate, y_zip, y_reversed⟩
  have t_p_marks_of_text : At K mg "marks_of_text" s_p_marks_of_text ["text"] := ⟨f1, _, F1, b1, m1⟩
  have t_p_is_figures : At K mg "is_figures" s_p_is_figures ["text"] := ⟨f2, _, F2, b2, m2⟩
  have t_p_is_open_thing : At K mg "is_open_thing" s_p_is_open_thing ["thing"] := ⟨f3, _, F3, b3, m3⟩
  have t_p_is_open_rest : At K mg "is_open_rest" s_p_is_open_rest ["thing"] := ⟨f4, _, F4, b4, m4⟩
  have t_p_is_lettered : At K mg "is_lettered" s_p_is_lettered ["thing", "letters"] := ⟨f5, _, F5, b5, m5⟩
  have t_p_read_kind : At K mg "read_kind" s_p_read_kind ["text"] := ⟨f6, _, F6, b6, m6⟩
  have t_p_read_mark : At K mg "read_mark" s_p_read_mark ["mark", "levels"] := ⟨f7, _, F7, b7, m7⟩
  have t_p_close_level : At K mg "close_level" s_p_close_level ["levels", "sort"] := ⟨f8, _, F8, b8, m8⟩
  have t_L_deck : At K mg "_law_deck" s_L_deck ["_law_script"] := ⟨f9, _, F9, b9, m9⟩
  have t_L_draw : At K mg "_law_draw" s_L_draw ["_law_deck_here", "_law_most"] := ⟨f10, _, F10, b10, m10⟩
  have t_L_name : At K mg "_law_name" s_L_name ["_law_deck_here", "_law_great"] := ⟨f11, _, F11, b11, m11⟩
  have t_L_kind : At K mg "_law_kind" s_L_kind ["_law_deck_here", "_law_left", "_law_deep"] := ⟨f12, _, F12, b12, m12⟩
  have t_L_stack : At K mg "_law_stack" s_L_stack ["_law_deck_here", "_law_left", "_law_deep"] := ⟨f13, _, F13, b13, m13⟩
  have t_L_row_kind : At K mg "_law_row_kind" s_L_row_kind ["_law_deck_here"] := ⟨f14, _, F14, b14, m14⟩
  have t_L_words : At K mg "_law_words" s_L_words ["_law_kind_here"] := ⟨f15, _, F15, b15, m15⟩
  have t_L_stack_words : At K mg "_law_stack_words" s_L_stack_words ["_law_stack_here"] := ⟨f16, _, F16, b16, m16⟩
  have t_L_row_words : At K mg "_law_row_words" s_L_row_words ["_law_pair"] := ⟨f17, _, F17, b17, m17⟩
  have t_L_is_name : At K mg "_law_is_name" s_L_is_name ["_law_thing", "_law_letters"] := ⟨f18, _, F18, b18, m18⟩
  have t_L_read_kind : At K mg "_law_read_kind" s_L_read_kind ["_law_words_here"] := ⟨f19, _, F19, b19, m19⟩
  have t_L_read_stack : At K mg "_law_read_stack" s_L_read_stack ["_law_words_here"] := ⟨f20, _, F20, b20, m20⟩
  have t_L_read_pair : At K mg "_law_read_pair" s_L_read_pair ["_law_words_here"] := ⟨f21, _, F21, b21, m21⟩
  have t_L_read : At K mg "_law_read" s_L_read ["_law_text"] := ⟨f22, _, F22, b22, m22⟩
  have t_L_told : At K mg "_law_told" s_L_told ["_law_thing"] := ⟨f23, _, F23, b23, m23⟩
  have t_L_bent : At K mg "_law_bent" s_L_bent ["_law_deck_here", "_law_text"] := ⟨f24, _, F24, b24, m24⟩
  have FM0 := fun_mk (st := s_p_Level_init) lm0 cm0 km0
  have bm0 := FM0.binds (ps := ["self", "within"]) fun _ _ _ _ _ _ us hl => match us, hl with | [_, _], _ => rfl
  have tm0 : AtI K mg C "Level" "Level.__init__" s_p_Level_init ["self", "within"] := ⟨q0, _, FM0, bm0, ⟨mkC, am0, im0, kcC⟩, PySem.W.mg_of X G aC⟩
  have FM1 := fun_mk (st := s_p_Level_add_rest) lm1 cm1 km1
  have bm1 := FM1.binds (ps := ["self", "rest"]) fun _ _ _ _ _ _ us hl => match us, hl with | [_, _], _ => rfl
  have tm1 : AtM K C "add_rest" "Level.add_rest" s_p_Level_add_rest ["self", "rest"] := ⟨q1, _, FM1, bm1, ⟨am1, im1, km1⟩, ⟨pgC, hdC, poC, saC⟩⟩
  have FM2 := fun_mk (st := s_p_Level_part_sides) lm2 cm2 km2
  have bm2 := FM2.binds (ps := ["self"]) fun _ _ _ _ _ _ us hl => match us, hl with | [_], _ => rfl
  have tm2 : AtM K C "part_sides" "Level.part_sides" s_p_Level_part_sides ["self"] := ⟨q2, _, FM2, bm2, ⟨am2, im2, km2⟩, ⟨pgC, hdC, poC, saC⟩⟩
  have FM3 := fun_mk (st := s_p_Level_side) lm3 cm3 km3
  have bm3 := FM3.binds (ps := ["self"]) fun _ _ _ _ _ _ us hl => match us, hl with | [_], _ => rfl
  have tm3 : AtM K C "side" "Level.side" s_p_Level_side ["self"] := ⟨q3, _, FM3, bm3, ⟨am3, im3, km3⟩, ⟨pgC, hdC, poC, saC⟩⟩
  have FM4 := fun_mk (st := s_p_Level_row_kind) lm4 cm4 km4
  have bm4 := FM4.binds (ps := ["self"]) fun _ _ _ _ _ _ us hl => match us, hl with | [_], _ => rfl
  have tm4 : AtM K C "row_kind" "Level.row_kind" s_p_Level_row_kind ["self"] := ⟨q4, _, FM4, bm4, ⟨am4, im4, km4⟩, ⟨pgC, hdC, poC, saC⟩⟩
  have FM5 := fun_mk (st := s_p_Level_kind) lm5 cm5 km5
  have bm5 := FM5.binds (ps := ["self"]) fun _ _ _ _ _ _ us hl => match us, hl with | [_], _ => rfl
  have tm5 : AtM K C "kind" "Level.kind" s_p_Level_kind ["self"] := ⟨q5, _, FM5, bm5, ⟨am5, im5, km5⟩, ⟨pgC, hdC, poC, saC⟩⟩
  have T : LvT K C := ⟨⟨pgC, hdC, poC, saC⟩, nW, nT, nR, nK⟩
  have TO : TabD K w dO kO := tabD_mk xt1 xk1 xl1 xa1 xb1 xe1 (by decide +kernel)
  have TC : TabD K w dC kC := tabD_mk xt2 xk2 xl2 xa2 xb2 xe2 (by decide +kernel)
  have XC : ErrC K mg "NoText" e_NoText := ⟨v_NoText, xP, kP, bP, tP⟩
  have XM := PySem.W.exm_ref e1 e2 e3 e4
  have XE : ExcC K e_NoText := ⟨h1, h2, bP, h4, h5, h6, h7, h8⟩
  have DE : FnOk l.prog w K mg base CX0 1 _ _ ["_law_script"] (spDeck K) := ok_deck F9 B
  have cd := h_draw (P := l.prog) (w := w) (base := base) t_L_draw
  have cn : ∀ g, g ≤ 1 → Has l.prog w K mg base 3 "_law_name" A_L_name (SP_name g) := fun g hg => h_L_name hg t_L_name B cd
  have ks := all_ks t_L_kind t_L_stack B cd cn
  have rk := h_L_row_kind (P := l.prog) (w := w) (base := base) t_L_row_kind B (ks 4 (by decide)).2
  have lw := all_lw (P := l.prog) (w := w) (base := base) t_L_words t_L_stack_words B 4
  have rw_ := h_L_row_words (P := l.prog) (w := w) (base := base) t_L_row_words B lw.2
  have fg := h_p_is_figures (P := l.prog) (w := w) (base := base) t_p_is_figures B ⟨_, v_FIGURES⟩
  have lt := h_p_is_lettered t_p_is_lettered B fg
  have ot := h_p_is_open_thing t_p_is_open_thing B lt ⟨_, v_SMALL_LETTERS⟩
  have orr := h_p_is_open_rest t_p_is_open_rest B lt ⟨_, v_GREAT_LETTERS⟩
  have li := h_p_Level_init (P := l.prog) (w := w) (mg := mg) (base := base) tm0 B T
  have ls := h_p_Level_side (P := l.prog) (w := w) (mg := mg) (base := base) tm3 B T
  have la := h_p_Level_add_rest (P := l.prog) (w := w) (mg := mg) (base := base) tm1 B T XC
  have lp := h_p_Level_part_sides tm2 B T XC ls
  have lr := h_p_Level_row_kind tm4 B T XC ls
  have lk := h_p_Level_kind tm5 B T XC lr
  have cl := h_p_close_level t_p_close_level B T XC lk
  have rm := h_p_read_mark t_p_read_mark B T TO TC cl ot orr XC v_OPENINGS v_CLOSINGS li lp la
  have mt := h_p_marks_of_text (P := l.prog) (w := w) (base := base) t_p_marks_of_text B XC
  have rd := h_p_read_kind t_p_read_kind B mt rm XC li lr
  have inm := h_L_is_name (P := l.prog) (w := w) (base := base) t_L_is_name B
  have aq := all_q t_L_read_kind t_L_read_stack t_L_read_pair B inm 67
  have lrd := h_L_read t_L_read B aq.2
  have td := h_L_told t_L_told B rd v_TakeError v_NoStep v_NoShuffle v_NoRow y_ValueError v_Twice v_NoTurn v_NoText XM XE z1 z2 z3 z4 z5 qv ktt
  have bt := h_L_bent t_L_bent B cd
  exact ok_law F25 B DE b9 k9 m9 cd rk rw_ bt td lrd
theorem walk_law {l : PySem.W.OpenLaw} {q : Program} {loose : List Str} {XP : (Str → Option Value) → Heap → Prop} {YP : World → Heap → Prop} {d : DefRec} {K : Params → PySem.W.Frag} (hn : l.most = some 63) (hdf : d.params.defaults = [])
    (hY : ∀ (w : World) (h : Heap), YP w h → (K w.params).In h)
    (F : ∀ (w : World) (mg : Str → Option Value) (fa : Addr) (h : Heap), (K w.params).In h → h.Ns mainGlobals mg → mg d.name = some (.ref fa) →
      ∃ fd : FuncData, (∀ (s : Shared) (u : Value), BindsTo s fd ⟨[u], []⟩ [("_law_script", u)]) ∧ ∀ base : Heap, (K w.params).In base → base.Ns mainGlobals mg → FnOk l.prog w (K w.params) mg base CX0 208 fa fd ["_law_script"] (spLaw (K w.params))) :
    PySem.W.WalkO q loose XP YP l.row.toRowW d [] (fun f vs => PySem.call f vs) :=
  L2.walk_of (n := 63) (k := 208) (x := "_law_script") (CX := fun _ => CX0) (sp := fun w => spLaw (K w.params)) hn (by decide) hdf ⟨rfl, by decide, by decide⟩ hY F (fun _ _ a ns hl _ hS => ⟨a, ns, rfl, hS, hl, fun _ => rfl⟩) fun _ _ _ _ _ z => z
end K18
open PySem PySem.W PyProof.Rows
set_option maxRecDepth 100000 in
set_option maxHeartbeats 0 in
theorem PySem.Challenge.cw_takeleave_k18_no_texts_of_kinds_holds : PySem.Challenge.rw_takeleave_k18_no_texts_of_kinds.Holds := by
  w_on; o_law; k_head; (case hw => w_witness2)
  k_fill
  refine K18.walk_law (l := PySem.Challenge.rw_takeleave_k18_no_texts_of_kinds) rfl rfl (fun w h Y => PySem.W.kIn_of Y) ?F
  case F =>
    intro w mg fa h KX G hmg
    refine' K18.all_mk (w := w) KX G hmg ?a1 ?l1 ?c1 ?k1 ?a2 ?l2 ?c2 ?k2 ?a3 ?l3 ?c3 ?k3 ?a4 ?l4 ?c4 ?k4 ?a5 ?l5 ?c5 ?k5 ?a6 ?l6 ?c6 ?k6 ?a7 ?l7 ?c7 ?k7 ?a8 ?l8 ?c8 ?k8 ?a9 ?l9 ?c9 ?k9 ?a10 ?l10 ?c10 ?k10 ?a11 ?l11 ?c11 ?k11 ?a12 ?l12 ?c12 ?k12 ?a13 ?l13 ?c13 ?k13 ?a14 ?l14 ?c14 ?k14 ?a15 ?l15 ?c15 ?k15 ?a16 ?l16 ?c16 ?k16 ?a17 ?l17 ?c17 ?k17 ?a18 ?l18 ?c18 ?k18 ?a19 ?l19 ?c19 ?k19 ?a20 ?l20 ?c20 ?k20 ?a21 ?l21 ?c21 ?k21 ?a22 ?l22 ?c22 ?k22 ?a23 ?l23 ?c23 ?k23 ?a24 ?l24 ?c24 ?k24 ?a25 ?l25 ?c25 ?k25 ?z_len ?z_isinstance ?z_int ?z_str ?z_tuple ?z_list ?z_bool ?z_dict ?z_all ?z_any ?z_sum ?z_sorted ?z_set ?z_range ?z_enumerate ?z_zip ?z_reversed ?z_ValueError ?g_SMALL_LETTERS ?g_FIGURES ?g_GREAT_LETTERS ?g_OPENINGS ?g_CLOSINGS ?g_TakeError ?g_NoText ?g_NoRow ?g_NoShuffle ?g_NoStep ?g_NoTurn ?g_Twice ?aC ?am0 ?im0 ?lm0 ?cm0 ?km0 ?am1 ?im1 ?lm1 ?cm1 ?km1 ?am2 ?im2 ?lm2 ?cm2 ?km2 ?am3 ?im3 ?lm3 ?cm3 ?km3 ?am4 ?im4 ?lm4 ?cm4 ?km4 ?am5 ?im5 ?lm5 ?cm5 ?km5 ?pgC ?hdC ?poC ?saC ?mkC ?kcC ?nW ?nT ?nR ?nK ?xt1 ?xk1 ?xa1 ?xb1 ?xl1 ?xe1 ?xt2 ?xk2 ?xa2 ?xb2 ?xl2 ?xe2 ?xP ?kP ?bP ?tP ?e1 ?e2 ?e3 ?e4 ?h1 ?h2 ?h4 ?h5 ?h6 ?h7 ?h8 ?ktt ?qv ?z1 ?z2 ?z3 ?z4 ?z5
    (case a1 => k_is)
    (case l1 => k_is)
    (case c1 => k_is)
    (case k1 => k_is)
    (case a2 => k_is)
    (case l2 => k_is)
    (case c2 => k_is)
    (case k2 => k_is)
    (case a3 => k_is)
    (case l3 => k_is)
    (case c3 => k_is)
    (case k3 => k_is)
    (case a4 => k_is)
    (case l4 => k_is)
    (case c4 => k_is)
    (case k4 => k_is)
    (case a5 => k_is)
    (case l5 => k_is)
    (case c5 => k_is)
    (case k5 => k_is)
    (case a6 => k_is)
    (case l6 => k_is)
    (case c6 => k_is)
    (case k6 => k_is)
    (case a7 => k_is)
    (case l7 => k_is)
    (case c7 => k_is)
    (case k7 => k_is)
    (case a8 => k_is)
    (case l8 => k_is)
    (case c8 => k_is)
    (case k8 => k_is)
    (case a9 => k_is)
    (case l9 => k_is)
    (case c9 => k_is)
    (case k9 => k_is)
    (case a10 => k_is)
    (case l10 => k_is)
    (case c10 => k_is)
    (case k10 => k_is)
    (case a11 => k_is)
    (case l11 => k_is)
    (case c11 => k_is)
    (case k11 => k_is)
    (case a12 => k_is)
    (case l12 => k_is)
    (case c12 => k_is)
    (case k12 => k_is)
    (case a13 => k_is)
    (case l13 => k_is)
    (case c13 => k_is)
    (case k13 => k_is)
    (case a14 => k_is)
    (case l14 => k_is)
    (case c14 => k_is)
    (case k14 => k_is)
    (case a15 => k_is)
    (case l15 => k_is)
    (case c15 => k_is)
    (case k15 => k_is)
    (case a16 => k_is)
    (case l16 => k_is)
    (case c16 => k_is)
    (case k16 => k_is)
    (case a17 => k_is)
    (case l17 => k_is)
    (case c17 => k_is)
    (case k17 => k_is)
    (case a18 => k_is)
    (case l18 => k_is)
    (case c18 => k_is)
    (case k18 => k_is)
    (case a19 => k_is)
    (case l19 => k_is)
    (case c19 => k_is)
    (case k19 => k_is)
    (case a20 => k_is)
    (case l20 => k_is)
    (case c20 => k_is)
    (case k20 => k_is)
    (case a21 => k_is)
    (case l21 => k_is)
    (case c21 => k_is)
    (case k21 => k_is)
    (case a22 => k_is)
    (case l22 => k_is)
    (case c22 => k_is)
    (case k22 => k_is)
    (case a23 => k_is)
    (case l23 => k_is)
    (case c23 => k_is)
    (case k23 => k_is)
    (case a24 => k_is)
    (case l24 => k_is)
    (case c24 => k_is)
    (case k24 => k_is)
    (case a25 => k_is)
    (case l25 => k_is)
    (case c25 => k_is)
    (case k25 => k_is)
    (case z_len => k_is)
    (case z_isinstance => k_is)
    (case z_int => k_is)
    (case z_str => k_is)
    (case z_tuple => k_is)
    (case z_list => k_is)
    (case z_bool => k_is)
    (case z_dict => k_is)
    (case z_all => k_is)
    (case z_any => k_is)
    (case z_sum => k_is)
    (case z_sorted => k_is)
    (case z_set => k_is)
    (case z_range => k_is)
    (case z_enumerate => k_is)
    (case z_zip => k_is)
    (case z_reversed => k_is)
    (case z_ValueError => k_is)
    (case g_SMALL_LETTERS => k_is)
    (case g_FIGURES => k_is)
    (case g_GREAT_LETTERS => k_is)
    (case g_OPENINGS => k_is)
    (case g_CLOSINGS => k_is)
    (case g_TakeError => k_is)
    (case g_NoText => k_is)
    (case g_NoRow => k_is)
    (case g_NoShuffle => k_is)
    (case g_NoStep => k_is)
    (case g_NoTurn => k_is)
    (case g_Twice => k_is)
    (case aC => k_is)
    (case am0 => k_is)
    (case im0 => k_is)
    (case lm0 => k_is)
    (case cm0 => k_is)
    (case km0 => k_is)
    (case am1 => k_is)
    (case im1 => k_is)
    (case lm1 => k_is)
    (case cm1 => k_is)
    (case km1 => k_is)
    (case am2 => k_is)
    (case im2 => k_is)
    (case lm2 => k_is)
    (case cm2 => k_is)
    (case km2 => k_is)
    (case am3 => k_is)
    (case im3 => k_is)
    (case lm3 => k_is)
    (case cm3 => k_is)
    (case km3 => k_is)
    (case am4 => k_is)
    (case im4 => k_is)
    (case lm4 => k_is)
    (case cm4 => k_is)
    (case km4 => k_is)
    (case am5 => k_is)
    (case im5 => k_is)
    (case lm5 => k_is)
    (case cm5 => k_is)
    (case km5 => k_is)
    (case pgC => k_is)
    (case hdC => k_is)
    (case poC => k_is)
    (case saC => k_is)
    (case mkC => k_is)
    (case kcC => k_is)
    (case nW => k_is)
    (case nT => k_is)
    (case nR => k_is)
    (case nK => k_is)
    (case xt1 => k_is)
    (case xk1 => first | k_is | (refine ⟨⟨_, _, rfl, rfl⟩, ⟨_, _, rfl, rfl⟩, trivial⟩))
    (case xa1 => k_is)
    (case xb1 => k_is)
    (case xl1 => first | k_is | rfl | decide)
    (case xe1 => first | rfl | k_is | decide +kernel)
    (case xt2 => k_is)
    (case xk2 => first | k_is | (refine ⟨⟨_, _, rfl, rfl⟩, ⟨_, _, rfl, rfl⟩, trivial⟩))
    (case xa2 => k_is)
    (case xb2 => k_is)
    (case xl2 => first | k_is | rfl | decide)
    (case xe2 => first | rfl | k_is | decide +kernel)
    (case xP => first | k_exc | k_is)
    (case kP => k_is)
    (case bP => k_is)
    (case tP => k_is)
    (case e1 => k_is)
    (case e2 => k_is)
    (case e3 => k_is)
    (case e4 => k_is)
    (case h1 => k_is)
    (case h2 => k_is)
    (case h4 => k_is)
    (case h5 => k_is)
    (case h6 => k_is)
    (case h7 => k_is)
    (case h8 => k_is)
    (case ktt => first | k_is | kernel_rfl)
    (case qv => first | k_is | kernel_rfl)
    (case z1 => first | k_is | kernel_rfl)
    (case z2 => first | k_is | kernel_rfl)
    (case z3 => first | k_is | kernel_rfl)
    (case z4 => first | k_is | kernel_rfl)
    (case z5 => first | k_is | kernel_rfl)
